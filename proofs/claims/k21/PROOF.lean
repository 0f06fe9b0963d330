import PyProof.Rows.All
import Wide.All
import OpenK.AllK
import Wide.FinOn
import Lean
import PyProof.EqAt
import PyProof.EqKinds
import PyProof.TupleCall
import PyProof.NeKinds
import KE.RegKIsAll
import PyProof.ExcClass3
import PySem.SetTable
import PySem.Value
import PyProof.Rows.SortShellK
import OpenK.KOwn
import KE.KNestM
import PyProof.Rows.StrWeight2
import PyProof.CollectIter
import PyProof.SetKind
import PyProof.Walks
import PyProof.ForAny
import PyProof.FactsAll.set_1
import PyProof.FactsAll.set_2
import PyProof.ZipIter
import KE.KRevIter
import PyProof.ListNew
import PyProof.ConsumeS
import KE.KIsAll
import PyProof.DictWalks
import KE.KDictList
import PyProof.WalksMore
import PySem.Challenge.RW_stakebodies_k21_edges_by_planes
set_option Elab.async false
set_option linter.all false
set_option backward.eqns.nonrecursive false
set_option maxRecDepth 100000
set_option maxHeartbeats 4000000
theorem kd{c:Prop}{h:Decidable c}(k:c){α:Sort _}{t e:α}:ite c t e=t:=if_pos k
theorem kz{c:Prop}{h:Decidable c}(k:¬c){α:Sort _}{t e:α}:ite c t e=e:=if_neg k
theorem ll{α:Sort _}{β:Sort _}{a b:α}(f:α->β)(h:a=b):f a=f b:=congrArg f h
abbrev lr:=PySem.W.Frag
abbrev lM:PySem.Str:="__debug__"
abbrev ma:PySem.Str:="__classdict__"
open PySem renaming Value → af, wpAny → ai, starEach → a9, Shared → bb, Addr → bc, model → be, Program → cp, mainGlobals → cq, Around → cv, World → cy, Heap → df, bootBuiltins → dm, argBest → dq, Expr → dA, backTo → d3, Stmt → d9, cLine → ee, eval → ek, rawInt → et, FuncData → eQ, assignEach → eR, compareOp → eY, cellsFrom → eZ, binaryOp → ff, NameKind → fg, swapsWith → fh, foldedSetIterable → fo, pyNext → fT, SetTable → gc, codeAny → gh, codeAmong → gi, holding → gn, updateSeq → gW, IsPair → hH, swapsWithSole → hV, swappedStores → h9, attributeBase → ia, sysModules → ij, assign → ik, richCompare → i5, sliceBounds → i6, DictEntry → jd, behindInMarks → jk, numAt → ka, Scope → kb, pickOrder → kc, wpAny_bind → aAa, wpAny_pure → aAb, wpAny_holding → aAK, wpAny_Call_Name_kw → aAR, wpAny_newObj_type → aAW, codeAny_builtin → aBl, wpAny_call_entry → aBn, plainId_quiet → aBs, wpAny_seqItems → aBu, wpAny_specialOf → aBC, wpAny_updateSeq → aBD, wpAny_truthy_bool → aBH, wpAny_callSpecial?_slot → aCa, wpAny_setField_rec → aCc, wpAny_forIn_list → aCf, wpAny_setState_of → aCl, builtinLookup_eq_fast → aCr, wpAny_mono → aCu, wpAny_field → aCR, wpAny_letGo → aCS, wpAny_tryCatch → aCT, wpAny_passesOwn → aCX, wpAny_isInstance → aDk, wpAny_typeNameOfWhole_keyiter → aDl, wpAny_nextOf_list_item → aDp, wpAny_callSpecialIfBoundUnlessNone?_slot → aDt, wpAny_loadPart' → aDA, typeLookup_type → aDB, wpAny_rule → aDD, wpAny_pyIter_list → aDE, codeAny_mono → aDT, wpAny_typeOf → aDU, wpAny_attempt → aEa, wpAny_pyIter_slot → aEi, wpAny_execs_cons → aEu, wpAny_standAt → aEB, wpAny_execs_nil → aEF, pushCells_keeps → aEG, wpAny_setEntries_of → aEI, slot_dict_contains → aFd, isSubtype_type → aFf, wpAny_Assign_Name → aFl, sizeLine_eq → aFu, wpAny_of_eq → aFw, noFill_tuple_add → aFB, beq_builtin_none → aFD, wpAny_askSetting → aFE, concat_meets → aFS, wpAny_newTuple → aGf, wpAny_runValue → aGh, wpAny_fieldsOf → aGi, wpAny_setField → aGj, isSubtype_stop → aGk
open PySem.Heap renaming get?_push_of_some → aAc, lt_size → aAf, get?_push_size → aAq, get?_update_other → aAw, get?_update_self → aAT, size_push → aBt, get?_none_of_le → aEA
open List renaming mem_cons → aAd, mem_cons_of_mem → aAe, getElem?_eq_getElem → aAg, length_map → aAj, mem_of_getElem? → aAk, mem_map → aAl, getD_eq_getElem?_getD → aAo, size_toArray → aAp, length_cons → aAv, pairwise_cons → aAx, getElem?_eq_some_iff → aAy, map_cons → aAz, getElem?_append_right → aAB, length_append → aAD, not_mem_nil → aAE, nodup_cons → aAF, getElem?_map → aAG, mem_append_right → aAI, reverse_cons → aAM, mem_append → aAN, mem_cons_self → aAU, getElem?_append_left → aAX, pairwise_map → aBf, mem_flatMap → aBg, mem_singleton → aBh, lookup_cons → aBi, getElem_of_mem → aBj, cons_append → aBm, all_eq_true → aBp, getLast?_cons_cons → aBq, dropLast_concat → aBr, set_cons_succ → aBv, set_cons_zero → aBw, getElem?_replicate → aBz, mem_map_of_mem → aBA, length_nil → aBB, getElem?_zip_eq_some → aBE, range → aBF, map_map → aBJ, mem_append_left → aBK, getElem?_set_self → aBL, zip_cons_cons → aBN, lookup_cons_self → aBO, mem_filter → aBQ, append_nil → aBR, getElem?_eq_none_iff → aBS, length_take → aBU, getElem_mem → aBV, mem_iff_getElem? → aBX, getElem?_toArray → aBY, mem_filterMap → aBZ, forall_mem_cons → aCe, nodup_iff_pairwise_ne → aCg, perm_ext_iff_of_nodup → aCi, pairwise_iff_getElem → aCm, drop_eq_getElem_cons → aCo, length_replicate → aCq, map_append → aCs, mem_reverse → aCx, map → aCA, mem_range → aCB, filterMap_cons → aCG, length_reverse → aCI, set → aCM, replicate → aCP, mem_of_getLast? → aCU, getElem?_set_ne → aCV, nodup_append → aCW, forIn_cons → aDb, getElem?_cons_zero → aDd, getElem?_cons_succ → aDf, length_pos_iff → aDi, nodup_nil → aDm, filterMap_map → aDq, foldl_cons → aDx, ext_getElem? → aDC, mem_of_mem_drop → aDH, length_drop → aDN, drop_length → aDO, filter_sublist → aDQ, pairwise_singleton → aDW, of_mem_zip → aDX, sum_cons → aDY, nil_append → aEc, length_pos_of_mem → aEf, take_of_length_le → aEg, drop_zero → aEj, forIn_nil → aEk, pairwise_reverse → aEn, dropLast_eq_take → aEr, getElem?_eq_none → aEs, any_eq_true → aEt, zipIdx_cons → aEw, getElem_map → aEx, mem_of_mem_take → aEz, map_congr_left → aED, zipIdx_nil → aEH, replicate_succ → aEL, replicate_zero → aEM, exists_cons_of_ne_nil → aEN, head?_reverse → aES, getLast?_cons → aET, zip_nil_right → aFb, exists_mem_of_ne_nil → aFe, length_erase_of_mem → aFi, zip_nil_left → aFp, length → aFr, eraseIdx_cons_succ → aFv, filter_cons_of_neg → aFy, filter_cons_of_pos → aFz, map_reverse → aFC, range_succ_eq_map → aFI, drop_eq_nil_of_le → aFL, take_append_drop → aFN, map_nil → aFT, mem_erase_of_ne → aFX, pairwise_append → aFY, length_dropLast → aGb, all_cons → aGs
open Nat renaming le_refl → aAh, ne_of_lt → aAm, le_trans → aAr, lt_of_lt_of_le → aAu, zero_le → aBb, lt_irrefl → aBc, lt_succ_of_lt → aBo, lt_of_le_of_lt → aCt, ne_of_gt → aCC, le_of_succ_le → aCF, lt_succ_self → aDj, lt_or_eq_of_le → aDr, le_of_lt → aDy, mul_le_mul_right → aDI, zero_add → aDR, mod_lt → aDS, mul_le_mul → aEm, le_of_eq → aEq, le_of_not_lt → aEv, lt_or_gt_of_ne → aEW, le_of_lt_succ → aFk, gcd_dvd_left → aFA, le_add_right → aFF, succ_mul → aFM, not_lt_zero → aFP, min_eq_left → aFQ, gcd_comm → aFV, gcd → aGl, reduceAdd → aGv, reduceSub → aGw, lt_trans → aGG, succ_pos → aGH
open False renaming elim → aAi
open Option.some renaming inj → aAn, injEq → aGz
open Int renaming mul_eq_zero → aAs, le_of_lt → aAJ, mul_le_mul_of_nonneg_left → aAS, mul_pos → aAV, mul_le_mul_of_nonneg_right → aAY, mul_nonneg → aBd, mul_neg_of_pos_of_neg → aBe, toNat_natCast → aBI, le_refl → aCj, neg_mul_neg → aDu, mul_zero → aDv, lt_or_le → aDw, fmod_eq_emod_of_nonneg → aDG, eq_of_mul_eq_mul_left → aDJ, mul_nonpos_of_nonneg_of_nonpos → aDV, mul_ediv_cancel' → aEy, toNat → aEJ, mul_lt_mul_of_pos_left → aEO, le_of_mul_le_mul_right → aEP, natAbs_eq_zero → aEU, ofNat_dvd_left → aEV, neg_nonneg_of_nonpos → aFg, mul_assoc → aFq, mul_neg → aFt, gcd → aGC, le_total → aGE, mul_comm → aGF
open Bool renaming false_eq_true → aAt, and_eq_true → aAH, false_ne_true → aAQ, eq_iff_iff → aDa, not_true → aDe, and_false → aGg
open Array renaming getElem?_eq_getElem → aAA, getElem?_toList → aAC, length_toList → aAZ, getElem?_eq_none → aBM, getElem?_eq_some_iff → aCh, forIn_toList → aCw, replicate → aEE, perm_iff_toList_perm → aEQ, getD → aFj, toList → aFR, getElem_toList → aGe, toList_append → aGp
open PySem.Around renaming under_plainId → aAL, frames_deeper → aFZ
open PySem.PassesOwn renaming never → aAO
open PySem.Builtin.Tuple renaming tupleHashOf → aAP, tupleExact → aCY, tupleItemsOf → aDF, tupleCompareSizes → aEh
open PySem.Builtin.Int renaming intBits → aBa
open PyProof.Rows renaming callWith_type1 → aBk, callWith_builtin1 → aBx, wpS_bind → aBy, wpS_pure → aCn, slot_tuple_getitem → aCE, envOfC → aCK, wpS_forRange → aEo, listItems_at → aEp, pairsOf_size → aEX, assignInOrder_cons → aEY, KK_mirror_equal → aFO, mirror_perm → aGm, wpS_reverse → aGn
open PySem.Obj renaming mapSeq → aBG, putSet → aEC
open Or renaming inr → aBP, inl → aCy
open PySem.Builtin.SmallTypes renaming nextOf → aBT, ownedTupleIsFree → aBW, ownedTupleHandOut → aDM
open PySem.NameKind renaming cell → aCb
open PySem.Builtin.List renaming listExtendWith → aCd, listLengthHint → aCH, listItems → aCL, listTooLong → aCZ, listSameRef → aDc, listTouch → aFK
open Ne renaming symm → aCk
open ForInStep renaming yield → aCp
open PySem.Value renaming type → aCv, bool → aDn, ref → aDz, notImplemented → aGa, builtin → aGt, int → aGL
open PySem.Builtin.Range renaming rangeSize → aCz, small → aGo
open PySem.Str renaming ofString → aCD
open PySem.Builtin.Builtins renaming bindParams → aCJ
open PySem.F renaming plain_min_loop → aCN, plain_max_loop → aCO, plain_extend_loop → aDh, slot_dict_keyiterator_next → aDs, slot_zip_next → aEd, entry_min_loop → aFG, entry_max_loop → aFH
open PySem.Builtin.Slice renaming slicePlaces → aCQ, sliceAdjust → aDK, sliceApplied → aER
open Classical renaming propDecidable → aDg
open Option renaming map_eq_some_iff → aDo, isSome_iff_exists → aFn
open PySem.SetTable renaming below → aDL, bits → aDZ, fits → aGu, insertAt → aGD, tooFull → aGJ
open PySem.Moved renaming trans → aDP
open PySem.SeqAt.EqAt renaming same → aEb, int_int → aFa, of_refs → aFc, int_tuple → aGc, tuple_int → aGd, int_str → aGq, str_int → aGr
open List.cons renaming injEq → aEe
open PySem.Heap.SameBut renaming update → aEK, refl → aGB
open PySem.Calls renaming spliced_cons → aEZ, spliced_nil → aFm, callWith_builtin → aFJ
open List.Pairwise renaming nil → aFh, filter → aFW
open PySem.AutoSeq1 renaming sub_tuple_tuple → aFo
open Prod renaming ext → aFs
open PySem.Builtin.Frozenset renaming slot0 → aFx
open PySem.Builtin.Dict renaming showsAll → aFU
open Sum renaming inl → aGx, inr → aGy
open True renaming intro → aGA
open PySem.pickOrder renaming go → aGI
open Array.Perm renaming refl → aGK
abbrev B4:=PySem.Value->PySem.Shared->Prop
abbrev N2:=List (PySem.Addr×PySem.Obj)
abbrev cH:=PySem.Str->Option PySem.Value
abbrev xC:=Bool->PySem.Shared->Prop
noncomputable section
namespace G
structure V where
 x:Int
 y:Int
 z:Int
deriving DecidableEq
instance:Add V:=⟨λu v=>⟨u.x+v.x,u.y+v.y,u.z+v.z⟩⟩
instance:Sub V:=⟨λu v=>⟨u.x-v.x,u.y-v.y,u.z-v.z⟩⟩
instance:Neg V:=⟨λu=>⟨-u.x,-u.y,-u.z⟩⟩
instance:HMul Int V V:=⟨λk u=>⟨k*u.x,k*u.y,k*u.z⟩⟩
instance:OfNat V 0:=⟨⟨0,0,0⟩⟩
@[simp]def a3s (u v:V):(u+v).x=u.x+v.x:=rfl
@[simp]def a2v (u v:V):(u+v).y=u.y+v.y:=rfl
@[simp]def a3i (u v:V):(u+v).z=u.z+v.z:=rfl
@[simp]def XF (u v:V):(u-v).x=u.x-v.x:=rfl
@[simp]def XM (u v:V):(u-v).y=u.y-v.y:=rfl
@[simp]def XQ (u v:V):(u-v).z=u.z-v.z:=rfl
@[simp]def XR (u:V):(-u).x=-u.x:=rfl
@[simp]def XB (u:V):(-u).y=-u.y:=rfl
@[simp]def WK (u:V):(-u).z=-u.z:=rfl
@[simp]def AM (k:Int)(u:V):(k*u).x=k*u.x:=rfl
@[simp]def xV (k:Int)(u:V):(k*u).y=k*u.y:=rfl
@[simp]def xO (k:Int)(u:V):(k*u).z=k*u.z:=rfl
@[simp]def R8:(0:V).x=0:=rfl
@[simp]def S7:(0:V).y=0:=rfl
@[simp]def S8:(0:V).z=0:=rfl
def ext {u v:V}(a:u.x=v.x)(b:u.y=v.y)(c:u.z=v.z):u=v:=by cases u;cases v;simp_all
def pR {u v:V}:u=v↔u.x=v.x/\u.y=v.y/\u.z=v.z:=⟨λh=>by subst h;exact⟨rfl,rfl,rfl⟩,λ⟨a,b,c⟩=>ext a b c⟩
def c8 (u v:V):Int:=u.x*v.x+u.y*v.y+u.z*v.z
def cr (u v:V):V:=⟨u.y*v.z-u.z*v.y,u.z*v.x-u.x*v.z,u.x*v.y-u.y*v.x⟩
def f8 (a u v:V):Int:=c8 a (cr u v)
@[simp]def UV (u v:V):(cr u v).x=u.y*v.z-u.z*v.y:=rfl
@[simp]def SK (u v:V):(cr u v).y=u.z*v.x-u.x*v.z:=rfl
@[simp]def UM (u v:V):(cr u v).z=u.x*v.y-u.y*v.x:=rfl
def EC (a u v w:V):f8 a u v*w+f8 a v w*u+f8 a w u*v=f8 u v w*a:=by apply ext<;>simp[f8,c8]<;>grind
def MD (f a u v w:V):f8 a u v*c8 f w+f8 a v w*c8 f u+f8 a w u*c8 f v=f8 u v w*c8 f a:=by simp[f8,c8];grind
def j8 (a u v:V):f8 a v u=-f8 a u v:=by simp[f8,c8];grind
def C3 (a u:V):f8 a u u=0:=by simp[f8,c8];grind
def aJ (a u v w:V):f8 a (u+v) w=f8 a u w+f8 a v w:=by simp[f8,c8];grind
def aL (a u v w:V):f8 a u (v+w)=f8 a u v+f8 a u w:=by simp[f8,c8];grind
def NS (a u v w:V):f8 a u (v-w)=f8 a u v-f8 a u w:=by simp[f8,c8];grind
def yS (a:V)(k:Int)(u v:V):f8 a u (k*v)=k*f8 a u v:=by simp[f8,c8];grind
def dH (u v:V):c8 u v=c8 v u:=by simp[c8];grind
def aY (f u v:V):c8 f (u+v)=c8 f u+c8 f v:=by simp[c8];grind
def d8 (f u v:V):c8 f (u-v)=c8 f u-c8 f v:=by simp[c8];grind
def t7 (f:V)(k:Int)(v:V):c8 f (k*v)=k*c8 f v:=by simp[c8];grind
def G7 (f:V)(k:Int)(v:V):c8 (k*f) v=k*c8 f v:=by simp[c8];grind
def M9 (f:V):c8 f 0=0:=by simp[c8]
def U7 (a u v:V):c8 (cr a u) v=f8 a u v:=by simp[f8,c8];grind
def w6 {u:V}(h:u≠0):0<c8 u u:=by
 have f:u.x≠0\/u.y≠0\/u.z≠0:=by
  by_cases a:u.x=0
  .by_cases b:u.y=0
   .by_cases c:u.z=0
    .exact absurd (ext a b c) h
    .exact .inr (.inr c)
   .exact .inr (.inl b)
  .exact .inl a
 have e:∀t:Int,0<=t*t:=λt=>by
  rcases aGE 0 t with q|q
  .exact aBd q q
  .have:=aBd (aFg q) (aFg q);rwa [aDu]at this
 have d:∀t:Int,t≠0->0<t*t:=λt g=>by
  have:=e t;have:t*t≠0:=λz=>by rcases aAs.mp z with q|q<;>exact g q
  omega
 have a:=e u.x;have b:=e u.y;have c:=e u.z;unfold c8;rcases f with q|q|q
 .have:=d _ q;omega
 .have:=d _ q;omega
 .have:=d _ q;omega
def y7 (h:n≠0)(a:c8 n u=0)(b:c8 n v=0)(c:c8 n w=0):f8 u v w=0:=by
 have e:f8 u v w*c8 n n=0:=by have:=MD n n u v w;rw[a,b,c]at this;simp at this;omega
 rcases aAs.mp e with q|q
 .exact q
 .have:=w6 h;omega
def u9 (v:V):(0:Int)*v=0:=ext (by simp) (by simp) (by simp)
def oF (v:V):v+0=v:=ext (by simp) (by simp) (by simp)
def gI (v:V):0+v=v:=ext (by simp) (by simp) (by simp)
structure Cone (Pos:V->Prop):Prop where
 add:∀{u v},Pos u->Pos v->Pos (u+v)
 mul:∀{k:Int} {u},0<k->Pos u->Pos (k*u)
 irr:¬Pos 0
section
variable{Pos:V->Prop} (C:Cone Pos)
include C
theorem Cone.comb {p q:Int}{u w:V}(a:0<p)(d:0<=q)(b:Pos w)(c:Pos u):Pos (p*w+q*u):=by
 by_cases h:q=0
 .subst h;rw[u9,oF];exact C.mul a b
 .exact C.add (C.mul a b) (C.mul (by lia) c)
theorem Cone.sgn {k:Int}{v:V}(b:Pos v)(h:Pos (k*v)):0<k:=by
 by_cases c:0<k
 .exact c
 .exfalso;by_cases d:k=0
  .subst d;rw[u9]at h;exact C.irr h
  .have a:=C.add h (C.mul (k:=-k) (by lia) b);have e:k*v+-k*v=0:=ext (by simp;grind) (by simp;grind) (by simp;grind);rw[e]at a;exact C.irr a
theorem Cone.tr {a u v w:V}(b:Pos u)(c:Pos v)(d:Pos w)(f:f8 u v w=0)(g:0<f8 a u v)(l:0<=f8 a v w):0<f8 a u w:=by
 refine C.sgn c (k:=f8 a u w) ?_;have e:f8 a u w*v=f8 a u v*w+f8 a v w*u:=by have h:=EC a u v w;rw[f,u9,j8 a u w]at h;have m:=ll V.x h;have n:=ll V.y h;have o:=ll V.z h;simp at m n o;exact ext (by simp;grind) (by simp;grind) (by simp;grind)
 rw[e];exact C.comb g l d b
theorem Cone.tr' {a u v w:V}(b:Pos u)(c:Pos v)(d:Pos w)(f:f8 u v w=0)(g:0<=f8 a u v)(l:0<f8 a v w):0<f8 a u w:=by
 refine C.sgn c (k:=f8 a u w) ?_;have e:f8 a u w*v=f8 a v w*u+f8 a u v*w:=by have h:=EC a u v w;rw[f,u9,j8 a u w]at h;have m:=ll V.x h;have n:=ll V.y h;have o:=ll V.z h;simp at m n o;exact ext (by simp;grind) (by simp;grind) (by simp;grind)
 rw[e];exact C.comb l g b d
end
structure ConeM (a:V)(Pos:V->Prop):Prop extends Cone Pos where
 inv:∀{u} (k:Int),Pos u->Pos (u+k*a)
def ConeM.tr {a:V}{Pos:V->Prop}(C:ConeM a Pos){u v w:V}(b:Pos u)(c:Pos v)(d:Pos w)(f:0<f8 a u v)(g:0<=f8 a v w):0<f8 a u w:=by
 refine C.sgn c (k:=f8 a u w) ?_;have e:f8 a u w*v=(f8 a u v*w+f8 a v w*u)+(-f8 u v w)*a:=by have h:=EC a u v w;rw[j8 a u w]at h;have l:=ll V.x h;have m:=ll V.y h;have n:=ll V.z h;simp at l m n;exact ext (by simp;grind) (by simp;grind) (by simp;grind)
 rw[e];exact C.inv _ (C.comb f g d b)
def e9 (w:V):Prop:=0<w.x\/(w.x=0/\(0<w.y\/(w.y=0/\0<w.z)))
instance(w:V):Decidable (e9 w):=inferInstanceAs (Decidable<|_\/_)
def z6:Cone e9 where
 add:=λ{u v} d e=>by unfold e9 at*;simp;lia
 mul:=λ{k u} a h=>by
  unfold e9 at*
  simp;rcases h with h|⟨h,b|⟨b,c⟩⟩
  .exact .inl (aAV a h)
  .exact .inr ⟨by rw[h];simp,.inl (aAV a b)⟩
  .exact .inr ⟨by rw[h];simp,.inr ⟨by rw[b];simp,aAV a c⟩⟩
 irr:=by unfold e9;simp
def M8 (w:V):Prop:=e9 (-w)
def CK:-(0:V)=0:=rfl
def aO:Cone M8 where
 add:=λ{u v} a b=>by have e:-(u+v)=-u+-v:=ext (by simp;lia) (by simp;lia) (by simp;lia);unfold M8 at*;rw[e];exact z6.add a b
 mul:=λ{k u} c h=>by have e:-(k*u)=k*(-u):=ext (by simp;grind) (by simp;grind) (by simp;grind);unfold M8 at*;rw[e];exact z6.mul c h
 irr:=by unfold M8;rw[CK];exact z6.irr
def VU (w:V):e9 w\/w=0\/M8 w:=by
 unfold M8 e9;rw[pR];simp
 lia
def x9 (v:V):v-v=0:=ext (by simp) (by simp) (by simp)
def fF (a u:V):f8 a u 0=0:=by simp[f8,c8]
def I9 (a u v:V):f8 a u (-v)=-f8 a u v:=by simp[f8,c8];grind
def aH (a u v:V):f8 a (-u) v=-f8 a u v:=by simp[f8,c8];grind
structure Row (n:V)(Pos:V->Prop)(T:V->Prop):Prop where
 cone:Cone Pos
 nz:n≠0
 pl:∀X Y,T X->T Y->c8 n (X-Y)=0
 tot:∀X Y,T X->T Y->X=Y\/Pos (X-Y)\/Pos (Y-X)
def Lft (n:V)(Pos:V->Prop)(a b X:V):Prop:=0<=f8 n (b-a) (X-a)/\(f8 n (b-a) (X-a)=0->(X=a\/Pos (X-a))/\(X=b\/Pos (b-X)))
def turn (n P Q R:V):Int:=f8 n (Q-P) (R-Q)
def Y1 (n P:V):List V->List V
 |b::a::r=>if turn n a b P<=0 then Y1 n P (a::r)else b::a::r
 |r=>r
def x4 (n:V)(ps:List V):List V:=ps.foldl (λc P=>P::Y1 n P c) []
def D5:List V->List (V×V)
 |b::a::r=>(a,b)::D5 (a::r)
 |_=>[]
def sG (n:V):List V->Prop
 |b::a::c::r=>0<f8 n (a-c) (b-a)/\sG n (a::c::r)
 |_=>True
def sG.tail (h:sG n (b::r)):sG n r:=by
 match r,h with
 |[],_=>trivial
 |[_],_=>trivial
 |_::_::_,h=>exact h.2
def P7 (h:e∈D5 r):e∈D5 (b::r):=by
 match r,h with
 |a::r,h=>exact aAe _ h
section
variable{n:V} {Pos:V->Prop} {T:V->Prop} (F:Row n Pos T)
include F
structure ChOk (n:V)(Pos:V->Prop)(done:V->Prop)(c:List V):Prop where
 mem:∀X∈c,done X
 ed:∀e∈D5 c,Pos (e.2-e.1)/\∀X,done X->Lft n Pos e.1 e.2 X
 bend:sG n c
 last:∀X,done X->∀z,c.getLast?=some z->X=z\/Pos (X-z)
theorem Row.ac6 {done:V->Prop}(f:∀X,done X->T X)(p:Pos x)(s:c8 n x=0):∀(c:List V),(∀X∈c,done X)->(∀e∈D5 c,Pos (e.2-e.1))->sG n c->(∀b a r,c=b::a::r->0<f8 n (b-a) x)->∀e∈D5 c,0<f8 n (e.2-e.1) x
 |[],_,_,_,_,e,d=>by cases d
 |[_],_,_,_,_,e,d=>by cases d
 |[b,a],_,_,_,h,e,d=>by simp[D5]at d;subst d;exact h b a [] rfl
 |b::a::t::r,g,l,u,h,e,d=>by
  have k:=h b a _ rfl;rcases aAd.mp d with q|q
  .subst q;exact k
  .refine Row.ac6 f p s (a::t::r) (λX v=>g X (aAe _ v)) (λe d=>l e (P7 d)) u.tail ?_ e q;intro z A B m;injection m with m o;injection o with o C;subst m o;have w:=l (t,a) (P7 (by simp[D5]));have y:=l (a,b) (by simp[D5]);exact F.cone.tr w y p (y7 F.nz (F.pl _ _ (f _ (g _ (by simp))) (f _ (g _ (by simp)))) (F.pl _ _ (f _ (g _ (by simp))) (f _ (g _ (by simp)))) s) u.1 (aAJ k)
theorem Row.weak (c:Pos u)(a:Pos v)(d:Pos w)(l:c8 n u=0)(m:c8 n v=0)(o:c8 n w=0)(p:0<=f8 n u v)(q:0<=f8 n v w):0<=f8 n u w:=by
 have b:=y7 F.nz l m o;by_cases r:0<f8 n u v
 .exact aAJ (F.cone.tr c a d b r q)
 .by_cases s:0<f8 n v w
  .exact aAJ (F.cone.tr' c a d b p s)
  .have t:f8 n u v=0:=by lia
   have A:f8 n v w=0:=by lia
   have h:=EC n u v w;rw[t,A,b,u9,u9,u9,gI,gI]at h;by_cases z:f8 n w u=0
   .rw[j8];lia
   .exfalso;have e:v=0:=by have f:=ll V.x h;have g:=ll V.y h;have k:=ll V.z h;simp at f g k;exact ext ((aAs.mp f).resolve_left z) ((aAs.mp g).resolve_left z) ((aAs.mp k).resolve_left z)
    rw[e]at a;exact F.cone.irr a
theorem Row.ad3 {done:V->Prop}(hd:∀X,done X->T X)(A:T P)(s:∀X,done X->Pos (P-X)):∀(c:List V),ChOk n Pos done c->c≠[]->
  (∀X q,c.head?=some q->done X->(X=q\/Pos (X-q))->0<=f8 n (P-q) (X-q))->
  ∃q r,Y1 n P c=q::r/\ChOk n Pos done (q::r)/\(∀X,done X->(X=q\/Pos (X-q))->0<=f8 n (P-q) (X-q))/\∀a B,r=a::B->0<turn n a q P
 |[],_,h,_=>absurd rfl h
 |[b],ok,_,t=>⟨b,[],rfl,ok,λX d h=>t X b rfl d h,λa B e=>by cases e⟩
 |b::a::r,ok,_,t=>by
  by_cases C:turn n a b P<=0
  .have e:Y1 n P (b::a::r)=Y1 n P (a::r):=by rw[Y1,kd C]
   rw[e];have k:=ok.mem b (by simp);have v:=ok.mem a (by simp);have U:=ok.ed (a,b) (by simp[D5]);refine Row.ad3 hd A s (a::r) ⟨λX d=>ok.mem X (aAe _ d),λe he=>ok.ed e (P7 he),ok.bend.tail,λX d z w=>ok.last X d z (by rw[aBq];exact w)⟩ (by simp) ?_;intro X q hq d E;have H:a=q:=aAn hq;subst H;have hu:Pos (b-a):=U.1;have hp:Pos (P-b):=s b k;have Y:Pos (P-a):=s a v;have pu:c8 n (b-a)=0:=F.pl _ _ (hd _ k) (hd _ v);have pp:c8 n (P-b)=0:=F.pl _ _ A (hd _ k);have I:c8 n (P-a)=0:=F.pl _ _ A (hd _ v);unfold turn at C;have J:0<=f8 n (P-b) (b-a):=by rw[j8];lia
   rcases F.tot X b (hd X d) (hd b k)with z|z|z
   .
    subst z;have f:P-a=(P-X)+(X-a):=ext (by simp;lia) (by simp;lia) (by simp;lia);rw[f,aJ,C3];lia
   .
    have L:=t X b rfl d (.inr z);have px:c8 n (X-b)=0:=F.pl _ _ (hd _ d) (hd _ k);have l:Pos (P-X):=s X d;have N:f8 n (P-a) (X-a)*(P-b)=f8 n (P-b) (X-b)*(P-a)+f8 n (P-b) (b-a)*(P-X):=by
     have m:=EC n (b-a) (X-b) (P-b);rw[y7 F.nz pu px pp,u9]at m;have f:P-a=(b-a)+(P-b):=ext (by simp;lia) (by simp;lia) (by simp;lia);have e2:X-a=(b-a)+(X-b):=ext (by simp;lia) (by simp;lia) (by simp;lia);have e3:P-X=(P-b)-(X-b):=ext (by simp;lia) (by simp;lia) (by simp;lia);rw[f,e2,e3];generalize b-a=u at*
     generalize X-b=x at*
     generalize P-b=p at*
     rw[aJ,aL,aL,C3];have L:=ll V.x m;have hy:=ll V.y m;have w:=ll V.z m;rw[j8 n p x]at m L hy w;simp at L hy w;have s1:=j8 n p x;have s2:=j8 n p u;have s3:=j8 n u x;apply ext<;>simp<;>grind
    by_cases zz:0<=f8 n (P-a) (X-a)
    .exact zz
    .exfalso;have O:Pos ((-f8 n (P-a) (X-a))*(P-b)):=F.cone.mul (by lia) hp;have Q:Pos (-f8 n (P-a) (X-a)*(P-b)+(f8 n (P-b) (X-b)*(P-a)+f8 n (P-b) (b-a)*(P-X))):=by
      by_cases y1:f8 n (P-b) (X-b)=0
      .rw[y1,u9,gI];by_cases y2:f8 n (P-b) (b-a)=0
       .rw[y2,u9,oF];exact O
       .exact F.cone.add O (F.cone.mul (by lia) l)
      .exact F.cone.add O (F.cone.comb (by lia) J Y l)
     rw[<-N]at Q;have e0:-f8 n (P-a) (X-a)*(P-b)+f8 n (P-a) (X-a)*(P-b)=0:=by apply ext<;>simp<;>grind
     rw[e0]at Q;exact F.cone.irr Q
   .
    rcases E with g|g
    .subst g;rw[x9,fF];exact aCj _
    .have hl:=(U.2 X d).1;have o:0<=f8 n (P-a) (b-a):=by have f:P-a=(P-b)+(b-a):=ext (by simp;lia) (by simp;lia) (by simp;lia);rw[f,aJ,C3];lia
     exact F.weak Y hu g I pu (F.pl _ _ (hd _ d)<|hd _ v) o hl
  .have e:Y1 n P (b::a::r)=b::a::r:=by rw[Y1,kz C]
   refine⟨b,a::r,e,ok,λX d h=>t X b rfl d h,λa' B e'=>?_⟩;injection e' with f _;subst f
   lia
theorem Row.push {done:V->Prop}(hd:∀X,done X->T X)(H:T P)(u:∀X,done X->Pos (P-X))(ok:ChOk n Pos done c)(L:c≠[])(N:∀X q,c.head?=some q->done X->X=q\/Pos (q-X)):
  ChOk n Pos (λX=>done X\/X=P) (P::Y1 n P c):=by
 obtain⟨q,r,e,f,w,l⟩:=F.ad3 hd H u c ok L (λX q w d h=>by
  rcases h with h|h
  .subst h;rw[x9,fF];exact aCj _
  .exfalso;rcases N X q w d with z|z
   .subst z;rw[x9]at h;exact F.cone.irr h
   .have:=F.cone.add h z;have x:X-q+(q-X)=0:=ext (by simp;lia) (by simp;lia) (by simp;lia);rw[x]at this;exact F.cone.irr this)
 rw[e];have o:=f.mem q (by simp);have k:Pos (P-q):=u q o;have p:c8 n (P-q)=0:=F.pl _ _ H (hd _ o);refine⟨λX d=>?_,λg A=>?_,?_,λX d z v=>?_⟩
 .rcases aAd.mp d with h|h
  .exact .inr h
  .exact .inl (f.mem X h)
 .rcases aAd.mp A with h|h
  .subst h;refine⟨k,λX d=>?_⟩;rcases d with d|d
   .rcases F.tot X q (hd _ d) (hd _ o)with z|z|z
    .subst z;exact⟨by rw[x9,fF];exact aCj _,λ_=>⟨.inl rfl,.inr k⟩⟩
    .exact⟨w X d (.inr z),λ_=>⟨.inr z,.inr (u X d)⟩⟩
    .
     have:0<f8 n (P-q) (X-q):=by
      match r,l,f with
      |[],_,f=>
       rcases f.last X d q rfl with y|y
       .subst y;rw[x9]at z;exact absurd z F.cone.irr
       .exfalso;have:=F.cone.add y z;have x:X-q+(q-X)=0:=ext (by simp;lia) (by simp;lia) (by simp;lia);rw[x]at this;exact F.cone.irr this
      |a::s,l,f=>
       have B:=l a s rfl;unfold turn at B;have O:=f.mem a (by simp);have I:=f.ed (a,q) (by simp[D5]);have J:=(I.2 X d).1;have t:X-a=(q-a)-(q-X):=ext (by simp;lia) (by simp;lia) (by simp;lia);dsimp only at J;rw[t,NS,C3]at J;have Q:0<=f8 n (q-X) (q-a):=by rw[j8];lia
       have:=F.cone.tr' (a:=n) z I.1 k (y7 F.nz (F.pl _ _ (hd _ o)<|hd _ d) (F.pl _ _ (hd _ o)<|hd _ O) p) Q B;have C:X-q=-(q-X):=ext (by simp;lia) (by simp;lia) (by simp;lia);rw[C,I9,j8];lia
     exact⟨aAJ this,λz=>by dsimp only at z;lia⟩
   .subst d;exact⟨by rw[C3];exact aCj _,λ_=>⟨.inr k,.inl rfl⟩⟩
  .
   have m:=f.ed g h;refine⟨m.1,λX d=>?_⟩;rcases d with d|d
   .exact m.2 X d
   .subst d;have B:=F.ac6 hd k p (q::r) f.mem (λe A=>(f.ed e A).1) f.bend (λb a s U=>by injection U with t C;subst t;exact l a s C) g h
    have Y:=(m.2 q o).1;have:0<f8 n (g.2-g.1) (X-g.1):=by have t:X-g.1=(q-g.1)+(X-q):=ext (by simp;lia) (by simp;lia) (by simp;lia);rw[t,aL];lia
    exact⟨aAJ this,λz=>by lia⟩
 .match r,l,f with
  |[],_,_=>trivial
  |a::s,l,f=>exact⟨l a s rfl,f.bend⟩
 .rcases d with d|d
  .exact f.last X d z (by rw[aBq]at v;exact v)
  .subst d;have E:(q::r).getLast?=some z:=by rw[aBq]at v;exact v
   exact .inr (u z<|f.mem z<|aCU E)
end
section
variable{n:V} {Pos:V->Prop} {T:V->Prop} (F:Row n Pos T)
include F
theorem ChOk.congr {done a:V->Prop}(ok:ChOk n Pos done c)(h:∀X,done X↔a X):ChOk n Pos a c:=
 ⟨λX b=>(h X).mp (ok.mem X b),λe d=>⟨(ok.ed e d).1,λX b=>(ok.ed e d).2 X ((h X).mpr b)⟩,ok.bend,λX b=>ok.last X ((h X).mpr b)⟩
theorem Row.fold:∀(rest:List V) (done:V->Prop) (c:List V),ChOk n Pos done c->c≠[]->(∀X q,c.head?=some q->done X->X=q\/Pos (q-X))->(∀X,done X->T X)->(∀X∈rest,T X)->
  (∀X Y,done X->Y∈rest->Pos (Y-X))->rest.Pairwise (λa b=>Pos (b-a))->
  ChOk n Pos (λX=>done X\/X∈rest) (rest.foldl (λc P=>P::Y1 n P c) c)/\rest.foldl (λc P=>P::Y1 n P c) c≠[]/\(∀X q,(rest.foldl (λc P=>P::Y1 n P c) c).head?=some q->(done X\/X∈rest)->X=q\/Pos (q-X))
 |[],done,c,ok,h,k,l,m,g,p=>⟨ChOk.congr F ok λX=>by simp,h,λX q f d=>by
   rcases d with d|d
   .exact k X q f d
   .cases d⟩
 |P::rest,done,c,ok,h,k,l,m,g,p=>by
  have r:=m P (by simp);have u:=F.push l r (λX d=>g X P d (by simp)) ok h k;have s:=aAx.mp p;obtain⟨v,w,x⟩:=Row.fold rest (λX=>done X\/X=P) (P::Y1 n P c) u (by simp) (λX q f d=>by
    have o:P=q:=aAn f;subst o;rcases d with d|d
    .exact .inr (g X P d (by simp))
    .exact .inl d) (λX d=>by
    rcases d with d|d
    .exact l X d
    .subst d;exact r) (λX d=>m X (aAe _ d)) (λX Y d t=>by
    rcases d with d|d
    .exact g X Y d (aAe _ t)
    .subst d;exact s.1 Y t) s.2
  have e:∀X,((done X\/X=P)\/X∈rest)↔(done X\/X∈P::rest):=λX=>by simp[or_assoc]
  exact⟨ChOk.congr F v e,w,λX q f d=>x X q f ((e X).mpr d)⟩
theorem Row.ac9 (l:ps≠[])(g:∀X∈ps,T X)(m:ps.Pairwise (λa b=>Pos (b-a))):
  ChOk n Pos (λX=>X∈ps) (x4 n ps)/\x4 n ps≠[]/\(∀X q,(x4 n ps).head?=some q->X∈ps->X=q\/Pos (q-X)):=by
 match ps,l with
 |p::rest,_=>
  have h:=aAx.mp m;have ok:ChOk n Pos (λX=>X=p) [p]:=⟨λX c=>by simpa using c,λe o=>by simp[D5]at o,trivial,λX c z k=>by simp at k;subst k;exact .inl c⟩
  obtain⟨r,s,t⟩:=F.fold rest (λX=>X=p) [p] ok (by simp) (λX q d c=>by have f:p=q:=aAn d;subst f;exact .inl c) (λX c=>by subst c;exact g _ (by simp)) (λX c=>g X (aAe _ c)) (λX Y c u=>by subst c;exact h.1 Y u) h.2
  have e:∀X,(X=p\/X∈rest)↔X∈p::rest:=λX=>by simp
  refine⟨ChOk.congr F r e,s,λX q d c=>t X q d ((e X).mpr c)⟩
end
def k5 (n:V)(a:List V):List V:=(x4 n a).reverse.dropLast++(x4 n a.reverse).reverse.dropLast
def q8:List V->List (V×V)
 |a::b::r=>(a,b)::q8 (b::r)
 |_=>[]
theorem lX:∀(l:List V) (a b:V),q8 (l++[a]++[b])=q8 (l++[a])++[(a,b)]
 |[],a,b=>rfl
 |[x],a,b=>rfl
 |x::y::l,a,b=>by have:=lX (y::l) a b;simp only[aBm,q8]at this⊢;rw[this]
theorem fZ:∀c:List V,q8 c.reverse=(D5 c).reverse
 |[]=>rfl
 |[_]=>rfl
 |b::a::r=>by
  have d:=fZ (a::r);rw[aAM,aAM]at*
  rw[lX,d,D5,aAM]
theorem lL:∀(l:List V) (a:V) (m:List V),q8 (l++a::m)=q8 (l++[a])++q8 (a::m)
 |[],a,m=>by cases m<;>rfl
 |[x],a,m=>rfl
 |x::y::l,a,m=>by have:=lL (y::l) a m;simp only[aBm,q8]at this⊢;rw[this]
def N1 (l:List V):List (V×V):=l.zip (l.tail++l.take 1)
theorem pA:∀(l:List V) (z:V),l.zip (l.tail++[z])=q8 (l++[z])
 |[],z=>rfl
 |[a],z=>rfl
 |a::b::r,z=>by have:=pA (b::r) z;simp only[List.tail_cons,aBm,q8,aBN]at this⊢;rw[this]
def W4:N1 (a::l)=q8 (a::l++[a]):=pA (a::l) a
def NQ (k:x4 n a=M::c)(l:x4 n a.reverse=m::d)(g:(M::c).getLast?=some m)(o:(m::d).getLast?=some M)(p:c≠[]):
  N1 (k5 n a)=(D5 (x4 n a)).reverse++(D5 (x4 n a.reverse)).reverse:=by
 rw[<-fZ,<-fZ];unfold k5;rw[k,l,aAM,aAM,aBr,aBr];have b:∃e,c.reverse=m::e:=by
  have:c.getLast?=some m:=by
   match c,p with
   |x::c,_=>rw[aBq]at g;exact g
  rw[<-aES]at this;match q:c.reverse,this with
  |x::r,this=>exact⟨r,by rw[show x=m from aAn this]⟩
 obtain⟨e,b⟩:=b;have f:∃h,d.reverse++[m]=M::h:=by
  have:(m::d).reverse.head?=some M:=by rw[aES];exact o
  rw[aAM]at this;match q:d.reverse++[m],this with
  |x::r,this=>exact⟨r,by rw[show x=M from aAn this]⟩
 obtain⟨h,f⟩:=f;have s:c.reverse++d.reverse=m::(e++d.reverse):=by rw[b];rfl
 rw[s,W4];have t:m::(e++d.reverse)++[m]=c.reverse++(d.reverse++[m]):=by rw[b];simp
 rw[t,f,lL]
def p7 (a b:V):-(a-b)=b-a:=ext (by simp;lia) (by simp;lia) (by simp;lia)
def o8:M8 (a-b)↔e9 (b-a):=by unfold M8;rw[p7]
def G9 (h:e9 (a-a)):False:=by rw[x9]at h;exact z6.irr h
def y6 (h:e9 (a-b))(h':e9 (b-a)):False:=by have:=z6.add h h';have c:a-b+(b-a)=0:=ext (by simp;lia) (by simp;lia) (by simp;lia);rw[c]at this;exact z6.irr this
def Q1 (a b:V):a=b\/e9 (a-b)\/e9 (b-a):=by
 rcases VU (a-b)with h|h|h
 .exact .inr (.inl h)
 .refine .inl (ext ?_ ?_ ?_)
  .have:=ll V.x h;simp at this;lia
  .have:=ll V.y h;simp at this;lia
  .have:=ll V.z h;simp at this;lia
 .exact .inr (.inr (o8.mp h))
def VT (P Q X:V):Prop:=(e9 (Q-P)->(X=P\/e9 (X-P))/\(X=Q\/e9 (Q-X)))/\(e9 (P-Q)->(X=P\/e9 (P-X))/\(X=Q\/e9 (X-Q)))
structure EdgeOf (n:V)(T:V->Prop)(P Q:V):Prop where
 p:T P
 q:T Q
 ne:P≠Q
 left:∀X,T X->0<=f8 n (Q-P) (X-P)
 btw:∀X,T X->f8 n (Q-P) (X-P)=0->VT P Q X
section
variable{n:V} {T:V->Prop}
def EdgeOf.next (h:EdgeOf n T P Q)(h':EdgeOf n T P R):Q=R:=by
 have m:=h.left R h'.q;have g:=h'.left Q h.q;rw[j8]at g;have k:f8 n (Q-P) (R-P)=0:=by lia
 have l:f8 n (R-P) (Q-P)=0:=by rw[j8];lia
 have d:=h.btw R h'.q k;have f:=h'.btw Q h.q l;rcases Q1 Q P with e|e|e
 .exact absurd e.symm h.ne
 .have b:=d.1 e;have c:e9 (R-P):=b.1.resolve_left (aCk h'.ne);rcases b.2 with q|q
  .exact q.symm
  .rcases(f.1 c).2 with a|a
   .exact a
   .exact(y6 q a).elim
 .have b:=d.2 e;have c:e9 (P-R):=b.1.resolve_left (aCk h'.ne);rcases b.2 with q|q
  .exact q.symm
  .rcases(f.2 c).2 with a|a
   .exact a
   .exact(y6 q a).elim
def oK (n P Q X:V):f8 n (Q-P) (X-P)=f8 n (Q-P) (X-Q):=by have e:X-P=(X-Q)+(Q-P):=ext (by simp;lia) (by simp;lia) (by simp;lia);rw[e,aL,C3];lia
end
theorem nK {Pos:V->Prop}(X:V):∀(c:List V),(∀Y∈c,X=Y\/Pos (X-Y)\/Pos (Y-X))->(∀q,c.head?=some q->X=q\/Pos (q-X))->(∀z,c.getLast?=some z->X=z\/Pos (X-z))->c≠[]->
  (∀u,Pos u->Pos (-u)->False)->X∈c\/∃a b,(a,b)∈D5 c/\Pos (X-a)/\Pos (b-X)
 |[],_,_,_,h,_=>absurd rfl h
 |[q],_,d,f,_,g=>by
  rcases d q rfl with e|e
  .exact .inl (by simp[e])
  .rcases f q rfl with k|k
   .exact .inl (by simp[k])
   .exact(g _ e (by rw[p7];exact k)).elim
 |b::a::r,l,d,f,_,g=>by
  rcases d b rfl with e|e
  .exact .inl (by simp[e])
  .rcases l a (by simp)with y|y|y
   .exact .inl (by simp[y])
   .exact .inr ⟨a,b,by simp[D5],y,e⟩
   .rcases nK X (a::r) (λY m=>l Y (aAe _ m)) (λq n=>by have:a=q:=aAn n;subst this;exact .inr y) (λz o=>f z (by rw[aBq];exact o)) (by simp) g with h|⟨p,s,h,t⟩
    .exact .inl (aAe _ h)
    .exact .inr ⟨p,s,P7 h,t⟩
def Row.ad4 {Pos:V->Prop}{T:V->Prop}(F:Row n Pos T)(f:T a)(g:T b)(c:T P)(h:T Q)(k:Pos (P-a))(l:Pos (b-P))(m:Pos (Q-P))(o:0<=f8 n (b-a) (P-a))(d:0<f8 n (Q-P) (a-P))(p:0<=f8 n (Q-P) (b-P)):False:=by
 have q:f8 n (Q-P) (a-P)=f8 n (P-a) (Q-P):=by have e:a-P=-(P-a):=(p7 _ _).symm;rw[e,I9,j8];lia
 rw[q]at d;have:=F.cone.tr k m l (y7 F.nz (F.pl _ _ c f) (F.pl _ _ h c)<|F.pl _ _ g c) d p;have r:b-a=(b-P)+(P-a):=ext (by simp;lia) (by simp;lia) (by simp;lia);rw[r,aJ,C3,j8]at o
 lia
structure Sheet (n:V)(ts:List V):Prop where
 nz:n≠0
 pl:∀X∈ts,∀Y∈ts,c8 n (X-Y)=0
 ord:ts.Pairwise (λa b=>e9 (b-a))
 two:∃X∈ts,∃Y∈ts,X≠Y
section
variable{n:V} {ts:List V} (S:Sheet n ts)
include S
theorem Sheet.row:Row n e9 (λX=>X∈ts):=⟨z6,S.nz,λX Y a b=>S.pl X a Y b,λX Y _ _=>Q1 X Y⟩
theorem Sheet.ae6:Row n M8 (λX=>X∈ts):=⟨aO,S.nz,λX Y a b=>S.pl X a Y b,λX Y _ _=>by
 rcases Q1 X Y with h|h|h
 .exact .inl h
 .exact .inr (.inr (o8.mpr h))
 .exact .inr (.inl (o8.mpr h))⟩
theorem Sheet.ne:ts≠[]:=by obtain⟨X,a,_⟩:=S.two;intro e;rw[e]at a;cases a
theorem Sheet.ab0:ChOk n e9 (λX=>X∈ts) (x4 n ts)/\x4 n ts≠[]/\(∀X q,(x4 n ts).head?=some q->X∈ts->X=q\/e9 (q-X)):=
 S.row.ac9 S.ne (λ_ h=>h) S.ord
theorem Sheet.aa9:ChOk n M8 (λX=>X∈ts) (x4 n ts.reverse)/\x4 n ts.reverse≠[]/\(∀X q,(x4 n ts.reverse).head?=some q->X∈ts->X=q\/M8 (q-X)):=by
 have h:=S.ae6.ac9 (ps:=ts.reverse) (by simpa using S.ne) (λX h=>by simpa using h) (by rw[aEn];exact S.ord.imp λh=>o8.mpr h)
 obtain⟨a,b,c⟩:=h;exact⟨ChOk.congr S.ae6 a λX=>by simp,b,λX q d e=>c X q d (by simpa using e)⟩
theorem Sheet.ad7 (h:(a,b)∈D5 (x4 n ts))(g:a∈ts)(k:b∈ts):EdgeOf n (λX=>X∈ts) a b/\e9 (b-a):=by obtain⟨c,d⟩:=S.ab0.1.ed _ h;dsimp only at c d;refine⟨⟨g,k,λe=>by subst e;exact G9 c,λX f=>(d X f).1,λX f z=>⟨λ_=>(d X f).2 z,λy=>(y6 c y).elim⟩⟩,c⟩
theorem Sheet.ae1 (h:(a,b)∈D5 (x4 n ts.reverse))(k:a∈ts)(l:b∈ts):EdgeOf n (λX=>X∈ts) a b/\e9 (a-b):=by obtain⟨g,d⟩:=S.aa9.1.ed _ h;dsimp only at g d;have c:=o8.mp g;refine⟨⟨k,l,λe=>by subst e;exact G9 c,λX f=>(d X f).1,λX f z=>⟨λy=>(y6 c y).elim,λ_=>?_⟩⟩,c⟩;obtain⟨m,o⟩:=(d X f).2 z;exact⟨m.imp id o8.mp,o.imp id o8.mp⟩
theorem L3 (h:(a,b)∈D5 c):a∈c/\b∈c:=by
 induction c with
 |nil=>cases h
 |cons x c d=>
  match c,h,d with
  |[],h,_=>cases h
  |y::r,h,d=>
   rcases aAd.mp h with e|e
   .cases e;simp
   .have:=d e;exact⟨aAe _ this.1,aAe _ this.2⟩
theorem Sheet.ends:∃m M c d,m∈ts/\M∈ts/\e9 (M-m)/\(∀X∈ts,X=m\/e9 (X-m))/\(∀X∈ts,X=M\/e9 (M-X))/\x4 n ts=M::c/\x4 n ts.reverse=m::d/\(M::c).getLast?=some m/\(m::d).getLast?=some M/\c≠[]/\d≠[]:=by
 obtain⟨p,w,x⟩:=S.ab0;obtain⟨q,A,B⟩:=S.aa9;obtain⟨M,c,b⟩:=aEN w;obtain⟨m,d,f⟩:=aEN A;have r:M∈ts:=p.mem M (by rw[b];simp);have u:m∈ts:=q.mem m (by rw[f];simp);have s:∀X∈ts,X=M\/e9 (M-X):=λX g=>x X M (by rw[b];rfl) g;have h:∀X∈ts,X=m\/e9 (X-m):=λX g=>(B X m (by rw[f];rfl) g).imp id o8.mp;obtain⟨z,l⟩:∃z,(M::c).getLast?=some z:=by simp[aET]
 obtain⟨y,o⟩:∃z,(m::d).getLast?=some z:=by simp[aET]
 have C:z=m:=by
  have E:z∈ts:=p.mem z (by rw[b];exact aCU l);rcases p.last m u z (by rw[b];exact l)with e|e
  .exact e.symm
  .rcases h z E with a|a
   .exact a
   .exact(y6 e a).elim
 have H:y=M:=by
  have I:y∈ts:=q.mem y (by rw[f];exact aCU o);rcases q.last M r y (by rw[f];exact o)with e|e
  .exact e.symm
  .rcases s y I with a|a
   .exact a
   .exact(y6 (o8.mp e) a).elim
 subst C H;have t:e9 (y-z):=by
  obtain⟨X,g,Y,J,ne⟩:=S.two;rcases h y r with e|e
  .exfalso;subst e;have k:∀W∈ts,W=y:=λW v=>by
    rcases h W v with e|e
    .exact e
    .rcases s W v with a|a
     .exact a
     .exact(y6 e a).elim
   exact ne ((k X g).trans (k Y J).symm)
  .exact e
 refine⟨z,y,c,d,u,r,t,h,s,b,f,l,o,λe=>?_,λe=>?_⟩
 .subst e;have:y=z:=by simpa using l
  subst this;exact G9 t
 .subst e;have:z=y:=by simpa using o
  subst this;exact G9 t
theorem Sheet.pair (h:(P,Q)∈N1 (k5 n ts)):EdgeOf n (λX=>X∈ts) P Q:=by
 obtain⟨m,M,c,d,k,l,o,p,q,a,b,e,f,g,r⟩:=S.ends;rw[NQ a b e f g,aAN,aCx,aCx]at h;rcases h with h|h
 .have:=L3 S h;exact(S.ad7 h (S.ab0.1.mem _ this.1)<|S.ab0.1.mem _ this.2).1
 .have:=L3 S h;exact(S.ae1 h (S.aa9.1.mem _ this.1)<|S.aa9.1.mem _ this.2).1
theorem bE (h:P∈l):∃Q,(P,Q)∈N1 l:=by
 obtain⟨i,b,e⟩:=aBj h;have c:l.length=(l.tail++l.take 1).length:=by
  match l,b with
  |a::l,_=>simp
 refine⟨(l.tail++l.take 1)[i]'(by lia),?_⟩;unfold N1;refine List.mem_of_getElem (i:=i) (h:=by rw[List.length_zip];lia) ?_;rw[List.getElem_zip,e]
theorem Sheet.ac5 (h:EdgeOf n (λX=>X∈ts) P Q):P∈k5 n ts:=by
 obtain⟨m,M,c,d,hm,hM,mM,H,I,C,E,h3,h4,hc,hd⟩:=S.ends;obtain⟨t,J,L⟩:=S.ab0;obtain⟨k,N,O⟩:=S.aa9;unfold k5;rw[aAN,C,E,aAM,aAM,aBr,aBr,aCx,aCx];rcases Q1 Q P with e|e|e
 .exact absurd e.symm h.ne
 .
  left;rcases nK (Pos:=e9) P (x4 n ts) (λY _=>Q1 P Y) (λq v=>L P q v h.p) (λz w=>t.last P h.p z w) J (λu a b=>by have:=z6.add a b;have x:u+-u=0:=ext (by simp;lia) (by simp;lia) (by simp;lia);rw[x]at this;exact z6.irr this)with r|⟨a,b,r,g,A⟩
  .rw[C]at r;rcases aAd.mp r with q|q
   .subst q;rcases I Q h.q with y|y
    .exact absurd y.symm h.ne
    .exact(y6 e y).elim
   .exact q
  .exfalso;have l:=L3 S r;have f:=t.mem _ l.1;have o:=t.mem _ l.2;have T:=h.left a f;have B:f8 n (Q-P) (a-P)≠0:=λz=>by
    rcases((h.btw a f z).1 e).1 with y|y
    .subst y;exact G9 g
    .exact y6 g y
   exact S.row.ad4 f o h.p h.q g A e ((t.ed _ r).2 P h.p).1 (by lia) (h.left b o)
 .right;rcases nK (Pos:=M8) P (x4 n ts.reverse) (λY _=>S.ae6.tot P Y h.p (by rename_i U;exact k.mem Y U)) (λq v=>O P q v h.p) (λz w=>k.last P h.p z w) N (λu a b=>by have:=aO.add a b;have x:u+-u=0:=ext (by simp;lia) (by simp;lia) (by simp;lia);rw[x]at this;exact aO.irr this)with r|⟨a,b,r,g,A⟩
  .rw[E]at r;rcases aAd.mp r with q|q
   .subst q;rcases H Q h.q with y|y
    .exact absurd y.symm h.ne
    .exact(y6 e y).elim
   .exact q
  .exfalso;have l:=L3 S r;have f:=k.mem _ l.1;have o:=k.mem _ l.2;have T:=h.left a f;have s:=o8.mp g;have B:f8 n (Q-P) (a-P)≠0:=λz=>by
    rcases((h.btw a f z).2 e).1 with y|y
    .subst y;exact G9 s
    .exact y6 s y
   exact S.ae6.ad4 f o h.p h.q g A (o8.mpr e) ((k.ed _ r).2 P h.p).1 (by lia) (h.left b o)
theorem Sheet.aa1:(P,Q)∈N1 (k5 n ts)↔EdgeOf n (λX=>X∈ts) P Q:=by
 refine⟨S.pair,λh=>?_⟩;obtain⟨R,a⟩:=bE S (S.ac5 h);have:=(S.pair a).next h
 subst this;exact a
end
theorem L9 {Pos:V->Prop}(C:Cone Pos):∀(c:List V),(∀e∈D5 c,Pos (e.2-e.1))->c.Pairwise (λb a=>Pos (b-a))
 |[],_=>aFh
 |[x],_=>aDW _ _
 |b::a::r,h=>by
  have d:=L9 C (a::r) (λe g=>h e (P7 g));have f:=h (a,b) (by simp[D5]);refine aAx.mpr ⟨λy k=>?_,d⟩;rcases aAd.mp k with e|e
  .subst e;exact f
  .have:=(aAx.mp d).1 y e;have s:=C.add f this;have l:b-a+(a-y)=b-y:=ext (by simp;lia) (by simp;lia) (by simp;lia);dsimp only at s
   rwa [l]at s
theorem kS:∀{h:V} {c:List V} {X:V},X∈c->∃b,(X,b)∈D5 (h::c)
 |h,[],X,d=>by cases d
 |h,a::r,X,d=>by
  rcases aAd.mp d with e|e
  .subst e;exact⟨h,by simp[D5]⟩
  .obtain⟨b,f⟩:=kS (h:=a) e;exact⟨b,P7 f⟩
section
variable{n:V} {ts:List V} (S:Sheet n ts)
include S
theorem Sheet.aa3 (h:X∈k5 n ts):X∈ts:=by obtain⟨Q,a⟩:=bE S h;exact(S.pair a).p
theorem Sheet.aa4:(k5 n ts).Nodup:=by
 obtain⟨m,M,c,d,I,J,L,N,O,f,g,Q,T,U,Y⟩:=S.ends;obtain⟨k,n1,t1⟩:=S.ab0;obtain⟨l,n2,t2⟩:=S.aa9;unfold k5;rw[f,g,aAM,aAM,aBr,aBr];have r:=L9 z6 (x4 n ts) λe o=>(k.ed e o).1;have s:=L9 aO (x4 n ts.reverse) λe o=>(l.ed e o).1;rw[f]at r;rw[g]at s;have z:=(aAx.mp r).2;have A:=(aAx.mp s).2;rw[aCW];refine⟨?_,?_,?_⟩
 .rw[aCg,aEn];exact z.imp λ{a b} h e=>by subst e;exact G9 h
 .rw[aCg,aEn];exact A.imp λ{a b} h e=>by subst e;exact G9 (o8.mp h)
 .intro x t y u e;subst e;rw[aCx]at t u;obtain⟨b,p⟩:=kS (h:=M) t;obtain⟨b',q⟩:=kS (h:=m) u;rw[<-f]at p;rw[<-g]at q;have v:=L3 S p;have w:=L3 S q;obtain⟨B,C⟩:=S.ad7 p (k.mem _ v.1) (k.mem _ v.2);obtain⟨E,H⟩:=S.ae1 q (l.mem _ w.1) (l.mem _ w.2);have:=B.next E;subst this;exact y6 C H
theorem Sheet.ab3:∃m r,k5 n ts=m::r/\m∈ts/\∀X∈ts,X=m\/e9 (X-m):=by
 obtain⟨m,M,c,d,f,o,p,g,q,h,k,e,s,l,t⟩:=S.ends;have a:∃b,c.reverse=m::b:=by
  have:c.getLast?=some m:=by
   match c,l with
   |x::c,_=>rw[aBq]at e;exact e
  rw[<-aES]at this;match u:c.reverse,this with
  |x::r,this=>exact⟨r,by rw[show x=m from aAn this]⟩
 obtain⟨b,a⟩:=a;refine⟨m,b++d.reverse,?_,f,g⟩;unfold k5;rw[h,k,aAM,aAM,aBr,aBr,a];rfl
theorem NX (h:Q∈l):∃P,(P,Q)∈N1 l:=by
 match l,h with
 |a::r,h=>
  have b:Q∈r++[a]:=by simpa[or_comm]using h
  obtain⟨i,c,e⟩:=aBj b;have d:i<(a::r).length:=by simpa using c
  refine⟨(a::r)[i],?_⟩;show _∈(a::r).zip (r++[a]);refine List.mem_of_getElem (i:=i) (h:=by rw[List.length_zip];simp;omega) ?_;rw[List.getElem_zip,e]
theorem nF (h:(P,Q)∈N1 l):P∈l/\Q∈l:=by
 have b:=aDX h;refine⟨b.1,?_⟩;match l,b.2 with
 |a::r,z=>simpa[or_comm]using z
theorem Sheet.strict (h:EdgeOf n (λX=>X∈ts) P Q)(B:X∈k5 n ts)(u:X≠P)(v:X≠Q):0<f8 n (Q-P) (X-P):=by
 have c:=S.aa3 B;have I:=h.left X c;by_cases z:f8 n (Q-P) (X-P)=0
 .exfalso;have b:=h.btw X c z;obtain⟨Y,E⟩:=bE S B;have g:=S.pair E;have w:=g.left P h.p;have o:=g.left Q h.q;rcases Q1 Q P with e|e|e
  .exact h.ne e.symm
  .have r:=b.1 e;have d:=r.1.resolve_left u;have f:=r.2.resolve_left v;have H:f8 n (X-P) (Q-X)=0:=by have a:Q-P=(Q-X)+(X-P):=ext (by simp;lia) (by simp;lia) (by simp;lia);rw[a,aJ,C3,j8]at z;lia
   have s:0<=f8 n (X-P) (Y-X):=by have a:P-X=-(X-P):=(p7 _ _).symm;rw[a,I9]at w;rw[j8];lia
   rcases Q1 Y X with y|y|y
   .exact g.ne y.symm
   .have J:=S.row.weak d y f (S.pl _ c _ h.p) (S.pl _ g.q _ c) (S.pl _ h.q _ c) s o;by_cases l:0<f8 n (X-P) (Y-X)
    .have:=z6.tr d y f (y7 S.nz (S.pl _ c _ h.p) (S.pl _ g.q _ c)<|S.pl _ h.q _ c) l o
     lia
    .have m:f8 n (Y-X) (P-X)=0:=by have a:P-X=-(X-P):=(p7 _ _).symm;rw[a,I9,j8];lia
     rcases((g.btw P h.p m).1 y).1 with k|k
     .exact u k.symm
     .exact y6 k d
   .have t:e9 (X-Y):=y;have C:0<=f8 n (X-Y) (X-P):=by have a:Y-X=-(X-Y):=(p7 _ _).symm;rw[a,I9,j8]at s;lia
    have x:0<=f8 n (Q-X) (X-Y):=by have a:Y-X=-(X-Y):=(p7 _ _).symm;rw[a,aH,j8]at o;lia
    by_cases l:0<f8 n (Q-X) (X-Y)
    .have:=z6.tr f t d (y7 S.nz (S.pl _ h.q _ c) (S.pl _ c _ g.q)<|S.pl _ c _ h.p) l C;rw[j8]at this;lia
    .have m:f8 n (Y-X) (Q-X)=0:=by have a:Y-X=-(X-Y):=(p7 _ _).symm;rw[a,aH,j8];lia
     rcases((g.btw Q h.q m).2 t).1 with k|k
     .exact v k.symm
     .exact y6 k f
  .have r:=b.2 e;have d:=r.1.resolve_left u;have f:=r.2.resolve_left v;have H:f8 n (P-X) (X-Q)=0:=by have a:Q-P=-((P-X)+(X-Q)):=ext (by simp;lia) (by simp;lia) (by simp;lia);have A:X-P=-(P-X):=(p7 _ _).symm;rw[a,A,aH,I9,aJ,C3,j8]at z;lia
   rcases Q1 Y X with y|y|y
   .exact g.ne y.symm
   .
    have x:0<=f8 n (X-Q) (Y-X):=by have a:Q-X=-(X-Q):=(p7 _ _).symm;rw[a,I9,j8]at o;lia
    by_cases l:0<f8 n (X-Q) (Y-X)
    .have:=z6.tr f y d (y7 S.nz (S.pl _ c _ h.q) (S.pl _ g.q _ c)<|S.pl _ h.p _ c) l w;rw[j8]at this;lia
    .have m:f8 n (Y-X) (Q-X)=0:=by have a:Q-X=-(X-Q):=(p7 _ _).symm;rw[a,I9,j8];lia
     rcases((g.btw Q h.q m).1 y).1 with k|k
     .exact v k.symm
     .exact y6 k f
   .have t:e9 (X-Y):=y;have C:0<=f8 n (P-X) (X-Y):=by have a:Y-X=-(X-Y):=(p7 _ _).symm;rw[a,aH,j8]at w;lia
    have x:0<=f8 n (X-Y) (X-Q):=by have a:Y-X=-(X-Y):=(p7 _ _).symm;have A:Q-X=-(X-Q):=(p7 _ _).symm;rw[a,A,aH,I9]at o;lia
    by_cases l:0<f8 n (P-X) (X-Y)
    .have:=z6.tr d t f (y7 S.nz (S.pl _ h.p _ c) (S.pl _ c _ g.q)<|S.pl _ c _ h.q) l x
     lia
    .have m:f8 n (Y-X) (P-X)=0:=by have a:Y-X=-(X-Y):=(p7 _ _).symm;rw[a,aH,j8];lia
     rcases((g.btw P h.p m).2 t).1 with k|k
     .exact u k.symm
     .exact y6 k d
 .lia
end
def iR {a:V}(h:a≠0):a.x≠0\/a.y≠0\/a.z≠0:=by
 by_cases p:a.x=0
 .by_cases q:a.y=0
  .by_cases r:a.z=0
   .exact absurd (ext p q r) h
   .exact .inr (.inr r)
  .exact .inr (.inl q)
 .exact .inl p
def v8 {a w:V}(c:a≠0)(h:cr a w=0):∃k m:Int,0<k/\k*w=m*a:=by
 have d:=ll V.x h;have f:=ll V.y h;have g:=ll V.z h;simp at d f g;have b:∀k m:Int,k≠0->k*w=m*a->∃k m:Int,0<k/\k*w=m*a:=λk m q e=>by
  by_cases p:0<k
  .exact⟨k,m,p,e⟩
  .refine⟨-k,-m,by lia,?_⟩;have l:=ll V.x e;have n:=ll V.y e;have o:=ll V.z e;simp at l n o;apply ext<;>simp<;>grind
 rcases iR c with p|p|p
 .exact b a.x w.x p (by apply ext<;>simp<;>grind)
 .exact b a.y w.y p (by apply ext<;>simp<;>grind)
 .exact b a.z w.z p (by apply ext<;>simp<;>grind)
def ConeM.ad1 {Pos:V->Prop}(C:ConeM a Pos)(c:a≠0)(d:Pos w):cr a w≠0:=λh=>by
 obtain⟨k,m,f,e⟩:=v8 c h;have b:=C.inv (-m) (C.mul f d);rw[e]at b;have g:m*a+-m*a=0:=by apply ext<;>simp<;>grind
 rw[g]at b;exact C.irr b
def E8 (a A:V):List V->V->V->V×V
 |[],c,b=>(c,b)
 |P::d,c,b=>if c=0\/0<c8 c (P-A)then E8 a A d (cr a (P-A)) P else E8 a A d c b
def UU (a A:V)(Pos:V->Prop)(seen:V->Prop)(c b:V):Prop:=
 (c=0/\∀P,seen P->cr a (P-A)=0)\/(seen b/\Pos (b-A)/\c=cr a (b-A)/\∀P,seen P->f8 a (b-A) (P-A)<=0)
def jE (h:cr a w=0)(u:V):f8 a u w=0:=by
 have e:f8 a u w=-c8 (cr a w) u:=by simp[f8,c8];grind
 rw[e,h];simp[c8]
theorem tK {Pos:V->Prop}(C:ConeM a Pos)(p:a≠0):∀(J:List V) (seen:V->Prop) (d c:V),UU a A Pos seen d c->(∀P,seen P->Pos (P-A)\/cr a (P-A)=0)->(∀P∈J,Pos (P-A)\/cr a (P-A)=0)->
  UU a A Pos (λP=>seen P\/P∈J) (E8 a A J d c).1 (E8 a A J d c).2
 |[],seen,d,c,h,_,_=>by
  show UU a A Pos _ d c;rcases h with⟨g,f⟩|⟨g,f,k,l⟩
  .exact .inl ⟨g,λP b=>f P (by simpa using b)⟩
  .exact .inr ⟨.inl g,f,k,λP b=>l P (by simpa using b)⟩
 |Q::J,seen,d,c,h,s,t=>by
  have m:=t Q (by simp);have n:UU a A Pos (λP=>seen P\/P=Q) (if d=0\/0<c8 d (Q-A)then(cr a<|Q-A)else d) (if d=0\/0<c8 d (Q-A)then Q else c):=by
   rcases h with⟨g,f⟩|⟨g,f,k,l⟩
   .rw[kd (.inl g),kd (.inl g)];by_cases z:cr a (Q-A)=0
    .exact .inl ⟨z,λP b=>by
      rcases b with b|b
      .exact f P b
      .subst b;exact z⟩
    .refine .inr ⟨.inr rfl,m.resolve_right z,rfl,λP b=>?_⟩;rcases b with b|b
     .rw[jE (f P b)];exact aCj _
     .subst b;rw[C3];exact aCj _
   .have u:d≠0:=by rw[k];exact C.ad1 p f
    have o:c8 d (Q-A)=f8 a (c-A) (Q-A):=by rw[k,U7]
    by_cases z:0<c8 d (Q-A)
    .rw[kd (.inr z),kd (.inr z)];have v:Pos (Q-A):=by
      rcases m with q|q
      .exact q
      .rw[o,jE q]at z;lia
     refine .inr ⟨.inr rfl,v,rfl,λP b=>?_⟩;rcases b with b|b
     .by_cases w:f8 a (Q-A) (P-A)<=0
      .exact w
      .exfalso;have x:Pos (P-A):=by
        rcases s P b with q|q
        .exact q
        .rw[jE q]at w;lia
       have:=C.tr f v x (by rw[<-o];exact z) (by lia);have:=l P b
       lia
     .subst b;rw[C3];exact aCj _
    .rw[kz (by rintro(q|q);exact u q;exact z q),kz (by rintro(q|q);exact u q;exact z q)];refine .inr ⟨.inl g,f,k,λP b=>?_⟩;rcases b with b|b
     .exact l P b
     .subst b;rw[<-o];lia
  have r:=tK C p J (λP=>seen P\/P=Q) _ _ n (λP b=>by
   rcases b with b|b
   .exact s P b
   .subst b;exact m) (λP b=>t P (aAe _ b))
  have e:E8 a A (Q::J) d c=E8 a A J (if d=0\/0<c8 d (Q-A)then(cr a<|Q-A)else d) (if d=0\/0<c8 d (Q-A)then Q else c):=by rw[E8];split<;>rfl
  rw[e];have y:(λP=>(seen P\/P=Q)\/P∈J)=(λP=>seen P\/P∈Q::J):=by funext P;simp[or_assoc]
  rw[<-y];exact r
def KY {Pos:V->Prop}(C:ConeM a Pos)(d:a≠0)(f:∀P∈J,Pos (P-A)\/cr a (P-A)=0)(g:∃P∈J,Pos (P-A)):
  (E8 a A J 0 A).2∈J/\Pos ((E8 a A J 0 A).2-A)/\∀P∈J,f8 a ((E8 a A J 0 A).2-A) (P-A)<=0:=by
 have h:=tK C d J (λ_=>False) 0 A (.inl ⟨rfl,λ_ h=>h.elim⟩) (λ_ h=>h.elim) f;rcases h with⟨e,b⟩|⟨e,b,m,k⟩
 .obtain⟨P,c,l⟩:=g;exact absurd (b P<|.inr c) (C.ad1 d l)
 .exact⟨by simpa using e,b,λP c=>k P (.inr c)⟩
def o7 (v:V):Nat:=aGl (aGl v.x.natAbs v.y.natAbs) v.z.natAbs
def cG (v:V)(g:Int):V:=⟨v.x/g,v.y/g,v.z/g⟩
def cV (n:V):Prop:=o7 n=1
def pN (k:Int)(v:V):o7 (k*v)=k.natAbs*o7 v:=by unfold o7;simp[Int.natAbs_mul,Nat.gcd_mul_left]
def JF (h:o7 v=0):v=0:=by unfold o7 at h;have a:=Nat.gcd_eq_zero_iff.mp h;have b:=Nat.gcd_eq_zero_iff.mp a.1;exact ext (aEU.mp b.1) (aEU.mp b.2) (aEU.mp a.2)
def ND (v:V):(o7 v:Int)∣v.x/\(o7 v:Int)∣v.y/\(o7 v:Int)∣v.z:=by
 unfold o7;refine⟨?_,?_,?_⟩
 .exact aEV.mpr (Nat.dvd_trans (aFA _ _)<|aFA _ _)
 .exact aEV.mpr (Nat.dvd_trans (aFA _ _)<|Nat.gcd_dvd_right _ _)
 .exact aEV.mpr (Nat.gcd_dvd_right _ _)
def fB (h:c≠0):0<(o7 c:Int)/\c=(o7 c:Int)*cG c (o7 c)/\cV (cG c (o7 c)):=by
 have k:o7 c≠0:=λz=>h (JF z);have a:0<(o7 c:Int):=by lia
 obtain⟨b,d,f⟩:=ND c;have e:c=(o7 c:Int)*cG c (o7 c):=by
  apply ext
  .show _=_*(c.x/_);rw[aEy b]
  .show _=_*(c.y/_);rw[aEy d]
  .show _=_*(c.z/_);rw[aEy f]
 refine⟨a,e,?_⟩;have:=ll o7 e;rw[pN]at this;simp only[Int.natAbs_natCast]at this;unfold cV;have g:o7 c*1=o7 c*o7 (cG c<|o7 c):=by lia
 exact(Nat.eq_of_mul_eq_mul_left (by lia) g).symm
def cV.ne (h:cV n):n≠0:=λe=>by subst e;unfold cV at h;exact absurd h (by decide)
def mV {n m:V}{k l:Int}(f:cV n)(g:cV m)(h:0<k)(o:0<l)(e:k*n=l*m):n=m:=by
 have:=ll o7 e;rw[pN,pN,f,g]at this;have a:k=l:=by lia
 subst a;have b:=ll V.x e;have c:=ll V.y e;have d:=ll V.z e;simp at b c d;exact ext (aDJ (by lia) b) (aDJ (by lia) c) (aDJ (by lia) d)
def d5 (P Q R:V):V×Int:=let n:=cG (cr (Q-P)<|R-P) (o7<|cr (Q-P)<|R-P);(n,c8 n P)
structure IsFace (J:List V)(n:V)(d:Int):Prop where
 prim:cV n
 sup:∀X∈J,c8 n X<=d
 three:∃A∈J,∃B∈J,∃C∈J,c8 n A=d/\c8 n B=d/\c8 n C=d/\cr (B-A) (C-A)≠0
def E6 (a:c8 n u=0)(b:c8 n v=0):cr n (cr u v)=0:=by simp[c8]at a b;apply ext<;>simp<;>grind
def qF (f:c≠0)(b:cr n c=0)(d:cr m c=0):cr n m=0:=by
 have h:cr c n=0:=by have:=ll V.x b;have:=ll V.y b;have:=ll V.z b;simp at*;apply ext<;>simp<;>grind
 have o:cr c m=0:=by have:=ll V.x d;have:=ll V.y d;have:=ll V.z d;simp at*;apply ext<;>simp<;>grind
 obtain⟨k,p,t,r⟩:=v8 f h;obtain⟨l,q,u,s⟩:=v8 f o;have e:(k*l)*cr n m=0:=by
  have:(k*l)*cr n m=cr (k*n) (l*m):=by apply ext<;>simp<;>grind
  rw[this,r,s];apply ext<;>simp<;>grind
 have a:k*l≠0:=λz=>by rcases aAs.mp z with q|q<;>lia
 have b:=ll V.x e;have d:=ll V.y e;have g:=ll V.z e;simp only[AM,xV,xO,R8,S7,S8]at b d g;exact ext ((aAs.mp b).resolve_left a) ((aAs.mp d).resolve_left a) ((aAs.mp g).resolve_left a)
def iX {J:List V}{n m:V}{d e:Int}(f:cV n)(a:cV m)(H:∀X∈J,c8 n X<=d)(g:∀X∈J,c8 m X<=e){A B C Z:V}(I:c8 n A=d)(L:c8 n B=d)(N:c8 n C=d)(h:c8 m A=e)(o:c8 m B=e)(r:c8 m C=e)
  (s:cr (B-A) (C-A)≠0) (t:Z∈J) (hz:c8 n Z<d):n=m/\d=e:=by
 have u:cr n (cr (B-A)<|C-A)=0:=E6 (by rw[d8];lia) (by rw[d8];lia);have w:cr m (cr (B-A)<|C-A)=0:=E6 (by rw[d8];lia) (by rw[d8];lia);have p:=qF s w u;obtain⟨k,l,b,c⟩:=v8 a.ne p;have x:0<l:=by
  have q:=ll (λv=>c8 v (Z-A)) c;rw[G7,G7]at q;have y:c8 n (Z-A)<0:=by rw[d8];lia
  have O:c8 m (Z-A)<=0:=by rw[d8];have:=g Z t;lia
  have Q:k*c8 n (Z-A)<0:=aBe b y;by_cases z:0<l
  .exact z
  .exfalso;have:0<=l*c8 m (Z-A):=by
    have:=aBd (show 0<=-l by lia) (show 0<=-c8 m (Z-A)by lia)
    rwa [aDu]at this
   lia
 have E:=mV f a b x c;subst E;exact⟨rfl,by lia⟩
def b7 (A B:V)(J:List V):V×Int:=d5 A B (E8 (B-A) A J 0 A).2
def w8 (n:V)(d:Int)(J:List V):List V:=J.filter λX=>decide (c8 n X=d)
def d4:X∈w8 n d J↔X∈J/\c8 n X=d:=by simp[w8]
def bR (h:cr (Q-P) (R-P)≠0):∃g:Int,0<g/\cr (Q-P) (R-P)=g*(d5 P Q R).1/\cV (d5 P Q R).1/\(d5 P Q R).2=c8 (d5 P Q R).1 P:=by obtain⟨a,b,c⟩:=fB h;exact⟨_,a,b,c,rfl⟩
def X7 {Pos:V->Prop}(C:ConeM (B-A) Pos)(c:B-A≠0)(o:∀P∈J,Pos (P-A)\/cr (B-A) (P-A)=0)(p:∃P∈J,Pos (P-A)):
  ∃(a:V) (g:Int),a∈J/\Pos (a-A)/\0<g/\cr (B-A) (a-A)=g*(b7 A B J).1/\cV (b7 A B J).1/\(b7 A B J).2=c8 (b7 A B J).1 A/\
   (∀P∈J,c8 (b7 A B J).1 P<=(b7 A B J).2)/\c8 (b7 A B J).1 B=(b7 A B J).2/\c8 (b7 A B J).1 a=(b7 A B J).2/\
   (∀P∈J,c8 (b7 A B J).1 P=(b7 A B J).2->f8 (B-A) (a-A) (P-A)=0):=by
 obtain⟨q,d,r⟩:=KY C c o p;have s:=C.ad1 c d;obtain⟨g,f,k,t,l⟩:=bR s;have b:∀w:V,g*c8 (b7 A B J).1 w=f8 (B-A) ((E8 (B-A) A J 0 A).2-A) w:=λw=>by have:c8 (cr (B-A)<|(E8 (B-A) A J 0 A).2-A) w=f8 (B-A) ((E8 (B-A) A J 0 A).2-A) w:=U7 _ _ _;rw[<-this,k,G7];rfl
 have v:(b7 A B J).2=c8 (b7 A B J).1 A:=l;have m:∀w:V,f8 (B-A) ((E8 (B-A) A J 0 A).2-A) w=0->c8 (b7 A B J).1 w=0:=λw u=>by have:=b w;rw[u]at this;exact(aAs.mp this).resolve_left (by lia)
 refine⟨_,g,q,d,f,k,t,l,λP n=>?_,?_,?_,λP n e=>?_⟩
 .have h:=r P n;rw[<-b]at h;have:c8 (b7 A B J).1 (P-A)<=0:=by
   by_cases z:c8 (b7 A B J).1 (P-A)<=0
   .exact z
   .have:=aAV f (show 0<c8 (b7 A B J).1 (P-A)by lia)
    lia
  rw[d8]at this
  lia
 .have:=m (B-A) (by simp[f8,c8];grind);rw[d8]at this;lia
 .have:=m ((E8 (B-A) A J 0 A).2-A) (C3 _ _);rw[d8]at this;lia
 .rw[<-b,d8];have:c8 (b7 A B J).1 P-c8 (b7 A B J).1 A=0:=by lia
  rw[this];simp
def zA {Pos:V->Prop}(C:ConeM a Pos)(c:a≠0)(d:Pos o)(e:Pos w)(h:f8 a o w=0):0<c8 (cr a o) (cr a w):=by
 by_cases z:0<c8 (cr a o) (cr a w)
 .exact z
 .exfalso;have f:=C.ad1 c d;have g:=w6 f;have k:Pos (c8 (cr a o) (cr a o)*w+(-c8 (cr a o) (cr a w))*o):=C.comb g (by lia) e d;refine C.ad1 c k ?_;have b:cr (cr a o) (cr a w)=f8 a o w*a:=by simp[f8,c8];apply ext<;>simp<;>grind
  rw[h,u9]at b;have l:cr a (c8 (cr a o) (cr a o)*w+(-c8 (cr a o) (cr a w))*o)=c8 (cr a o) (cr a o)*cr a w+(-c8 (cr a o) (cr a w))*cr a o:=by apply ext<;>simp<;>grind
  rw[l];have m:∀p q:V,c8 p p*q+(-c8 p q)*p=cr p (cr q p):=λp q=>by simp[c8];apply ext<;>simp<;>grind
  rw[m];have n:cr (cr a w) (cr a o)=0:=by have r:=ll V.x b;have s:=ll V.y b;have t:=ll V.z b;simp only[UV,SK,UM,R8,S7,S8]at r s t;apply ext<;>simp only[UV,SK,UM,R8,S7,S8]<;>grind
  rw[n];apply ext<;>simp
def VT.symm (h:VT P Q X):VT Q P X:=⟨λa=>⟨(h.2 a).2,(h.2 a).1⟩,λa=>⟨(h.1 a).2,(h.1 a).1⟩⟩
def tW (g:n≠0)(c:c8 n (a-b)=0):ConeM (a-b) (λw=>c8 n w<0\/(c8 n w=0/\0<f8 n (b-a) w))where
 add:=λ{u v} l m=>by
  rw[aY,aL]
  lia
 mul:=λ{k u} d h=>by
  rw[t7,yS];rcases h with h|⟨h,f⟩
  .exact .inl (aBe d h)
  .exact .inr ⟨by rw[h];simp,aAV d f⟩
 irr:=by rw[M9,fF];lia
 inv:=λ{u} k h=>by
  have e:f8 n (b-a) (a-b)=0:=by have:a-b=-(b-a):=(p7 _ _).symm;rw[this,I9,C3];rfl
  rw[aY,aL,t7,yS,c,e];simpa using h
def X0 (a:n≠0)(f:c8 n u=0)(g:c8 n w=0)(h:f8 n u w=0):cr u w=0:=by
 have l:cr n (cr u w)=0:=E6 f g;obtain⟨k,m,r,e⟩:=v8 a l;have q:=ll (c8 n) e;rw[t7,t7]at q;have:c8 n (cr u w)=0:=h;rw[this]at q;have o:m=0:=by
  have:=w6 a;have p:m*c8 n n=0:=by lia
  rcases aAs.mp p with z|z
  .exact z
  .lia
 rw[o,u9]at e;have b:=ll V.x e;have c:=ll V.y e;have d:=ll V.z e;simp only[AM,xV,xO,R8,S7,S8]at b c d;exact ext ((aAs.mp b).resolve_left (by lia)) ((aAs.mp c).resolve_left (by lia)) ((aAs.mp d).resolve_left (by lia))
def yG (h:cr u w=0):cr (-u) w=0:=by have a:=ll V.x h;have b:=ll V.y h;have c:=ll V.z h;simp only[UV,SK,UM,R8,S7,S8]at a b c;apply ext<;>simp<;>grind
def sV (E:n≠0)(U:∀X∈J,c8 n X<=d)(hz:∃Z∈J,c8 n Z<d)(h:EdgeOf n (λX=>X∈w8 n d J) a b):
  IsFace J (b7 b a J).1 (b7 b a J).2/\EdgeOf (b7 b a J).1 (λX=>X∈w8 (b7 b a J).1 (b7 b a J).2 J) b a:=by
 obtain⟨H,da⟩:=d4.mp h.p;obtain⟨pb,db⟩:=d4.mp h.q;have o:c8 n (a-b)=0:=by rw[d8];lia
 have t:c8 n (b-a)=0:=by rw[d8];lia
 have C:=tW (n:=n) E o;have r:a-b≠0:=λe=>h.ne (by have Y:=ll V.x e;have q2:=ll V.y e;have q3:=ll V.z e;simp at Y q2 q3;exact ext (by lia) (by lia) (by lia))
 have u:∀P∈J,(c8 n (P-b)<0\/(c8 n (P-b)=0/\0<f8 n (b-a) (P-b)))\/cr (a-b) (P-b)=0:=λP I=>by
  have h1:=U P I;by_cases z:c8 n P<d
  .exact .inl (.inl (by rw[d8];lia))
  .have e:c8 n P=d:=by lia
   have tP:P∈w8 n d J:=d4.mpr ⟨I,e⟩;have l:=h.left P tP;rw[oK]at l;have L:c8 n (P-b)=0:=by rw[d8];lia
   by_cases y:0<f8 n (b-a) (P-b)
   .exact .inl (.inr ⟨L,y⟩)
   .have y0:f8 n (b-a) (P-b)=0:=by lia
    have:=yG (X0 E t L y0);rw[p7]at this;exact .inr this
 obtain⟨Z,hZ,hz⟩:=hz;obtain⟨c,g,o1,v,g0,N,gp,O,w,Q,sO,T⟩:=X7 C r u ⟨Z,hZ,.inl (by rw[d8];lia)⟩;refine⟨⟨gp,w,b,pb,a,H,c,o1,O.symm,Q,sO,C.ad1 r v⟩,⟨d4.mpr ⟨pb,O.symm⟩,d4.mpr ⟨H,Q⟩,λe=>h.ne e.symm,λX A=>?_,λX A e=>?_⟩⟩
 .obtain⟨f,B⟩:=d4.mp A;have z:=T X f B;have s:g*f8 (b7 b a J).1 (a-b) (X-b)=c8 (cr (a-b)<|c-b) (cr (a-b)<|X-b):=by rw[N];unfold f8;rw[G7]
  have:0<=c8 (cr (a-b)<|c-b) (cr (a-b)<|X-b):=by
   rcases u X f with q|q
   .exact aAJ (zA C r v q z)
   .rw[q,M9];exact aCj _
  rw[<-s]at this;by_cases zz:0<=f8 (b7 b a J).1 (a-b) (X-b)
  .exact zz
  .have:=aBe g0 (show f8 (b7 b a J).1 (a-b) (X-b)<0 by lia)
   lia
 .obtain⟨f,B⟩:=d4.mp A;have z:=T X f B;have s:g*f8 (b7 b a J).1 (a-b) (X-b)=c8 (cr (a-b)<|c-b) (cr (a-b)<|X-b):=by rw[N];unfold f8;rw[G7]
  rw[e]at s;rcases u X f with q|q
  .have:=zA C r v q z;rw[<-s]at this;simp at this
  .
   have dX:c8 n X=d:=by obtain⟨k,m,hk,e⟩:=v8 r q;have q:=ll (c8 n) e;rw[t7,t7,o]at q;have:c8 n (X-b)=0:=(aAs.mp (show k*c8 n (X-b)=0 by lia)).resolve_left (by lia);rw[d8]at this;lia
   refine(h.btw X (d4.mpr ⟨f,dX⟩) ?_).symm;rw[oK];have:cr (b-a) (X-b)=0:=by
    have:=yG q
    rwa [p7]at this
   unfold f8;rw[this,M9]
def A8:List V->Option V
 |[]=>none
 |w::a=>if w≠0 then some w else A8 a
def t9 (h:A8 ws=some w):w∈ws/\w≠0:=by
 induction ws with
 |nil=>cases h
 |cons v ws a=>
  unfold A8 at h;split at h
  .rename_i b;cases h;exact⟨by simp,b⟩
  .have:=a h;exact⟨aAe _ this.1,this.2⟩
def M0 (h:A8 ws=none):∀w∈ws,w=0:=by
 induction ws with
 |nil=>intro w a;cases a
 |cons v ws b=>
  unfold A8 at h;split at h
  .cases h
  .rename_i c;intro w a;rcases aAd.mp a with e|e
   .subst e;exact Decidable.not_not.mp c
   .exact b h w e
def T5:List V->Nat
 |[]=>0
 |p::c=>
  let a:=(p::c).map (· -p)
  match A8 a with
  |none=>0
  |some b=>match A8 (a.map<|cr b)with
   |none=>1
   |some d=>if a.any (λw=>decide (c8 d w≠0))then 3 else 2
def j7 (J:List V):Prop:=∃A∈J,∃B∈J,∃C∈J,∃D∈J,f8 (B-A) (C-A) (D-A)≠0
def ID (h:T5 J=3):j7 J:=by
 match J,h with
 |p::w,h=>
  unfold T5 at h;dsimp only at h;split at h
  .cases h
  .rename_i b e;split at h
   .cases h
   .rename_i f g;split at h
    .rename_i d;obtain⟨k,x⟩:=t9 e;obtain⟨c,y⟩:=t9 g;obtain⟨z,c,l⟩:=aAl.mp c;rw[aEt]at d;obtain⟨m,n,o⟩:=d;obtain⟨B,q,r⟩:=aAl.mp k;obtain⟨C,s,t⟩:=aAl.mp c;obtain⟨D,u,v⟩:=aAl.mp n;refine⟨p,by simp,B,q,C,s,D,u,?_⟩;rw[r,t,v];have a:c8 f m≠0:=by simpa using o
     rw[<-l,U7]at a;exact a
    .cases h
def MX (h:T5 J≠3):¬j7 J:=by
 rintro⟨A,k,B,l,C,m,D,o,v⟩;match J,h,k,l,m,o with
 |p::d,h,k,l,m,o=>
  unfold T5 at h;dsimp only at h;have r:∀X∈p::d,X-p∈(p::d).map (· -p):=λX b=>aAl.mpr ⟨X,b,rfl⟩;have c:∀n:V,n≠0->(∀X∈p::d,c8 n (X-p)=0)->False:=λn w s=>by
   have q:∀X∈p::d,c8 n (X-A)=0:=λX b=>by have f:=s X b;have g:=s A k;rw[d8]at*;lia
   exact v (y7 w (q B l) (q C m)<|q D o)
  split at h
  .rename_i f;have z:=M0 f;refine c ⟨1,0,0⟩ (λe=>by have:=ll V.x e;simp at this) λX b=>?_;rw[z _ (r X b)];exact M9 _
  .rename_i a f;obtain⟨N,y⟩:=t9 f;split at h
   .rename_i g;have z:=M0 g;have E:∀X∈p::d,cr a (X-p)=0:=λX b=>z _ (aAl.mpr ⟨_,r X b,rfl⟩);obtain⟨u,H,O⟩:∃u:V,cr a u≠0/\True:=by
     rcases iR y with q|q|q
     .exact⟨⟨0,1,0⟩,λe=>q (by have:=ll V.z e;simpa using this),trivial⟩
     .exact⟨⟨1,0,0⟩,λe=>q (by have:=ll V.z e;simpa using this),trivial⟩
     .exact⟨⟨0,1,0⟩,λe=>q (by have:=ll V.x e;simpa using this),trivial⟩
    refine c (cr a u) H λX b=>?_;rw[U7,jE (E X b)]
   .rename_i t g;obtain⟨Q,I⟩:=t9 g;split at h
    .exact h rfl
    .rename_i L;refine c t I λX b=>?_;by_cases z:c8 t (X-p)=0
     .exact z
     .exact absurd (aEt.mpr ⟨X-p,r X b,by simpa using z⟩) L
def NI (h:T5 J<2):∀X∈J,∀Y∈J,∀Z∈J,cr (Y-X) (Z-X)=0:=by
 match J,h with
 |[],_=>intro X b;cases b
 |p::c,h=>
  unfold T5 at h;dsimp only at h;have m:∀X∈p::c,X-p∈(p::c).map (· -p):=λX b=>aAl.mpr ⟨X,b,rfl⟩;intro X b Y n Z q;split at h
  .rename_i g;have z:=M0 g;have e:∀W∈p::c,W=p:=λW l=>by have:=z _ (m W l);have d:=ll V.x this;have f:=ll V.y this;have r:=ll V.z this;simp at d f r;exact ext (by lia) (by lia) (by lia)
   rw[e X b,e Y n,x9];apply ext<;>simp
  .rename_i a g;obtain⟨H,s⟩:=t9 g;split at h
   .rename_i t;have z:=M0 t;have o:∀X∈p::c,cr a (X-p)=0:=λX b=>z _ (aAl.mpr ⟨_,m X b,rfl⟩);have k:∀U∈p::c,∀W∈p::c,cr (U-W) a=0:=λU u W l=>by have d:=o U u;have f:=o W l;have v:=ll V.x d;have w:=ll V.y d;have A:=ll V.z d;have B:=ll V.x f;have C:=ll V.y f;have E:=ll V.z f;simp at v w A B C E;apply ext<;>simp<;>grind
    exact qF s (k Y n X b) (k Z q X b)
   .split at h<;>lia
def IH (h:2<=T5 J):∃X∈J,∃Y∈J,∃Z∈J,cr (Y-X) (Z-X)≠0:=by
 match J,h with
 |[],h=>exact absurd h (by simp[T5])
 |p::o,h=>
  unfold T5 at h;dsimp only at h;split at h
  .lia
  .rename_i a c;obtain⟨d,q⟩:=t9 c;split at h
   .lia
   .rename_i r e;obtain⟨b,f⟩:=t9 e;obtain⟨s,b,g⟩:=aAl.mp b;obtain⟨B,k,l⟩:=aAl.mp d;obtain⟨C,m,n⟩:=aAl.mp b;exact⟨p,by simp,B,k,C,m,by rw[l,n,g];exact f⟩
def j7.off (h:j7 J)(f:n≠0):∃Z∈J,c8 n Z≠d:=by
 obtain⟨A,g,B,k,C,l,D,m,o⟩:=h;by_cases a:c8 n A=d
 .by_cases b:c8 n B=d
  .by_cases c:c8 n C=d
   .by_cases e:c8 n D=d
    .exact absurd (y7 f (by rw[d8];lia) (by rw[d8];lia) (by rw[d8];lia)) o
    .exact⟨D,m,e⟩
   .exact⟨C,l,c⟩
  .exact⟨B,k,b⟩
 .exact⟨A,g,a⟩
def j7.below (h:j7 J)(b:n≠0)(c:∀X∈J,c8 n X<=d):∃Z∈J,c8 n Z<d:=by obtain⟨Z,a,e⟩:=h.off (d:=d) b;exact⟨Z,a,by have:=c Z a;lia⟩
def kk:V:=⟨0,0,1⟩
def f6 (m:V)(J:List V):V×V:=
 let u:=b7 m (m+kk) J
 let a:=w8 u.1 u.2 J
 if T5 a=2 then(m,m+kk)else(a.getD 0 0,a.getD 1 0)
def HF:ConeM kk (λw=>0<w.x\/(w.x=0/\0<w.y))where
 add:=λ{u v} c d=>by simp;lia
 mul:=λ{k u} a h=>by
  simp;rcases h with h|⟨h,b⟩
  .exact .inl (aAV a h)
  .exact .inr ⟨by rw[h];simp,aAV a b⟩
 irr:=by simp
 inv:=λ{u} k h=>by simpa[kk]using h
def CT (h:c8 n a=0):ConeM a (λw=>c8 n w<0)where
 add:=λ{u v} d e=>by rw[aY];lia
 mul:=λ{k u} b h=>by rw[t7];exact aBe b h
 irr:=by rw[M9];lia
 inv:=λ{u} k c=>by rw[aY,t7,h];simpa using c
def K9 (m k:V):m+k-m=k:=ext (by simp;lia) (by simp;lia) (by simp;lia)
def gK (T:j7 J)(ho:J.Pairwise (λa b=>e9 (b-a)))(hm:m∈J)(hl:∀X∈J,X=m\/e9 (X-m)):
  IsFace J (b7 (f6 m J).1 (f6 m J).2 J).1 (b7 (f6 m J).1 (f6 m J).2 J).2:=by
 have C:ConeM (m+kk-m) (λw=>0<w.x\/(w.x=0/\0<w.y)):=by rw[K9];exact HF
 have ag:m+kk-m≠0:=by rw[K9];intro e;have:=ll V.z e;simp[kk]at this
 have U:∀P∈J,(0<(P-m).x\/((P-m).x=0/\0<(P-m).y))\/cr (m+kk-m) (P-m)=0:=λP E=>by
  rw[K9];rcases hl P E with e|e
  .right;subst e;rw[x9];apply ext<;>simp
  .unfold e9 at e;rcases e with e|⟨e1,e|⟨e2,e3⟩⟩
   .exact .inl (.inl e)
   .exact .inl (.inr ⟨e1,e⟩)
   .right;apply ext
    .simp[kk];simp at e2;lia
    .simp[kk];simp at e1;lia
    .simp[kk]
 have hx:∃P∈J,0<(P-m).x\/((P-m).x=0/\0<(P-m).y):=by
  by_cases z:∃P∈J,0<(P-m).x\/((P-m).x=0/\0<(P-m).y)
  .exact z
  .exfalso;obtain⟨Z,c,e⟩:=T.off (n:=⟨1,0,0⟩) (d:=m.x) (λe=>by have:=ll V.x e;simp at this);have w:=(U Z c).resolve_left λq=>z ⟨Z,c,q⟩;rw[K9]at w;have:=ll V.y w;simp[kk]at this;simp[c8]at e
   lia
 obtain⟨l,g,o1,o2,g0,ge,L,gd,f,sB,sO,sP⟩:=X7 C ag U hx;have h:m∈w8 (b7 m (m+kk) J).1 (b7 m (m+kk) J).2 J:=d4.mpr ⟨hm,gd.symm⟩;have o:l∈w8 (b7 m (m+kk) J).1 (b7 m (m+kk) J).2 J:=d4.mpr ⟨o1,sO⟩;have N:m≠l:=λe=>by subst e;rw[x9]at o2;simp at o2
 by_cases h2:T5 (w8 (b7 m (m+kk) J).1 (b7 m (m+kk) J).2 J)=2
 .have e:f6 m J=(m,m+kk):=by unfold f6;simp only[h2,if_true]
  rw[e];obtain⟨X,H,Y,I,Z,c,hc⟩:=IH (J:=w8 (b7 m (m+kk) J).1 (b7 m (m+kk) J).2 J) (by lia);have H:=d4.mp H;have I:=d4.mp I;have c:=d4.mp c;exact⟨L,f,X,H.1,Y,I.1,Z,c.1,H.2,I.2,c.2,hc⟩
 .
  have h1:T5 (w8 (b7 m (m+kk) J).1 (b7 m (m+kk) J).2 J)≠3:=λz=>by obtain⟨A,hA,B,hB,C,hC,D,hD,hd⟩:=ID z;have hA:=d4.mp hA;have hB:=d4.mp hB;have hC:=d4.mp hC;have hD:=d4.mp hD;exact hd (y7 L.ne (by rw[d8];lia) (by rw[d8];lia) (by rw[d8];lia))
  have ar:T5 (w8 (b7 m (m+kk) J).1 (b7 m (m+kk) J).2 J)<2:=by
   have:T5 (w8 (b7 m (m+kk) J).1 (b7 m (m+kk) J).2 J)<=3:=by
    generalize w8 (b7 m (m+kk) J).1 (b7 m (m+kk) J).2 J=t;unfold T5;split
    .lia
    .dsimp only;split
     .lia
     .split
      .lia
      .split<;>lia
   lia
  have p:=NI ar;have e:f6 m J=((w8 (b7 m (m+kk) J).1 (b7 m (m+kk) J).2 J).getD 0 0,(w8 (b7 m (m+kk) J).1 (b7 m (m+kk) J).2 J).getD 1 0):=by unfold f6;simp only[h2,if_false]
  rw[e];have ord:(w8 (b7 m (m+kk) J).1 (b7 m (m+kk) J).2 J).Pairwise (λa b=>e9 (b-a)):=aFW _ ho;have k:∀X,X∈w8 (b7 m (m+kk) J).1 (b7 m (m+kk) J).2 J↔X∈J/\c8 (b7 m (m+kk) J).1 X=(b7 m (m+kk) J).2:=λX=>d4;generalize w8 (b7 m (m+kk) J).1 (b7 m (m+kk) J).2 J=t at*
  match t,h,o with
  |[],h,_=>cases h
  |[x],h,o=>simp at h o;exact absurd (h.trans o.symm) N
  |x::y::r,h,o=>
   dsimp only[List.getD_cons_zero,List.getD_cons_succ];have s:e9 (y-x):=(aAx.mp ord).1 y (by simp);have ox:=(k x).mp (by simp);have oy:=(k y).mp (by simp);have xp:y-x≠0:=λz=>by rw[z]at s;exact z6.irr s
   have na:c8 (b7 m (m+kk) J).1 (y-x)=0:=by rw[d8];lia
   have C2:=CT na;obtain⟨Z,c,hz⟩:=T.below L.ne f;obtain⟨u,g2,p1,p2,p0,pe,pp,pd,v,O,Q,sP2⟩:=X7 C2 xp (J:=J) (λP E=>by
    have:=f P E;by_cases q:c8 (b7 m (m+kk) J).1 P<(b7 m (m+kk) J).2
    .exact .inl (by rw[d8];lia)
    .exact .inr (p x (by simp) y (by simp) P ((k P).mpr ⟨E,by lia⟩))) ⟨Z,c,by rw[d8];lia⟩
   exact⟨pp,v,x,ox.1,y,oy.1,u,p1,pd.symm,O,Q,C2.ad1 xp p2⟩
def L7 {a b:V}(h:a-b=0):a=b:=by have c:=ll V.x h;have d:=ll V.y h;have e:=ll V.z h;simp at c d e;exact ext (by lia) (by lia) (by lia)
def IsFace.aa2 (f:J.Pairwise (λa b=>e9 (b-a)))(h:IsFace J n d):Sheet n (w8 n d J)where
 nz:=h.prim.ne
 pl:=λX g Y k=>by have:=(d4.mp g).2;have:=(d4.mp k).2;rw[d8];lia
 ord:=aFW _ f
 two:=by obtain⟨A,l,B,m,C,o,a,b,c,e⟩:=h.three;refine⟨A,d4.mpr ⟨l,a⟩,B,d4.mpr ⟨m,b⟩,λz=>e ?_⟩;subst z;rw[x9];apply ext<;>simp
def IsFace.ad0 {J:List V}{n:V}{d:Int}(h:IsFace J n d){a b:V}(c:EdgeOf n (λX=>X∈w8 n d J) a b):∃X∈w8 n d J,0<f8 n (b-a) (X-a):=by
 by_cases z:∃X∈w8 n d J,0<f8 n (b-a) (X-a)
 .exact z
 .exfalso;have w:=h.prim.ne;obtain⟨pa,da⟩:=d4.mp c.p;obtain⟨pb,db⟩:=d4.mp c.q;have f:c8 n (b-a)=0:=by rw[d8];lia
  have E:b-a≠0:=λe=>c.ne (L7 e).symm;have k:∀X∈J,c8 n X=d->cr (b-a) (X-a)=0:=λX g m=>by have s:=d4.mpr ⟨g,m⟩;have l:=c.left X s;have l':¬0<f8 n (b-a) (X-a):=λq=>z ⟨X,s,q⟩;exact X0 w f (by rw[d8];lia) (by lia)
  obtain⟨A,t,B,H,C,I,u,L,N,e⟩:=h.three;have v:∀X∈J,c8 n X=d->∀Y∈J,c8 n Y=d->cr (X-Y) (b-a)=0:=λX g m Y O Q=>by have o:=k X g m;have r:=k Y O Q;have T:=ll V.x o;have U:=ll V.y o;have a3:=ll V.z o;have b1:=ll V.x r;have b2:=ll V.y r;have b3:=ll V.z r;simp at T U a3 b1 b2 b3;apply ext<;>simp<;>grind
  exact e (qF E (v B H L A t u)<|v C I N A t u)
def MJ (o:j7 J)(c:IsFace J n d)(f:IsFace J m e)(h:EdgeOf n (λX=>X∈w8 n d J) a b)(g:EdgeOf m (λX=>X∈w8 m e J) b a)(k:X∈w8 n d J)(l:0<f8 n (b-a) (X-a)):c8 m X<e:=by
 obtain⟨r,s⟩:=d4.mp k;have B:=f.sup X r;by_cases z:c8 m X=e
 .exfalso;obtain⟨C,t⟩:=d4.mp h.p;obtain⟨pb,u⟩:=d4.mp h.q;obtain⟨_,v⟩:=d4.mp g.q;obtain⟨_,w⟩:=d4.mp g.p;obtain⟨Z,x,y⟩:=o.below c.prim.ne c.sup;have A:cr (b-a) (X-a)≠0:=λq=>by unfold f8 at l;rw[q,M9]at l;lia
  obtain⟨rfl,rfl⟩:=iX c.prim f.prim c.sup f.sup t u s v w z A x y;have:=g.left X k;have E:f8 n (a-b) (X-b)=-f8 n (b-a) (X-a):=by simp[f8,c8];grind
  lia
 .lia
def AQ:List V->V
 |[]=>0
 |X::l=>X+AQ l
theorem nP (n:V):∀l:List V,c8 n (AQ l)=(l.map (c8 n)).sum
 |[]=>M9 n
 |X::l=>by simp only[AQ,aAz,aDY];rw[aY,nP n l]
theorem DF {α:Type}(f g:α->Int):∀l:List α,(∀x∈l,f x<=g x)->(l.map f).sum<=(l.map g).sum
 |[],_=>aCj _
 |x::l,h=>by
  simp only[aAz,aDY];have:=h x (by simp);have:=DF f g l (λy a=>h y (aAe _ a))
  lia
theorem BC {α:Type}(f g:α->Int):∀l:List α,(∀x∈l,f x<=g x)->(∃x∈l,f x<g x)->(l.map f).sum<(l.map g).sum
 |[],_,⟨x,b,_⟩=>by cases b
 |x::l,h,⟨y,a,c⟩=>by
  simp only[aAz,aDY];have d:=h x (by simp);have k:=DF f g l (λy a=>h y (aAe _ a));rcases aAd.mp a with e|e
  .subst e;lia
  .have:=BC f g l (λy a=>h y (aAe _ a)) ⟨y,e,c⟩
   lia
theorem aK {α:Type}(c:Int):∀l:List α,(l.map λ_=>c).sum=(l.length:Int)*c
 |[]=>by simp
 |x::l=>by simp only[aAz,aDY,aAv];rw[aK c l];push_cast;grind
def B8 (J:List V)(X:V):V:=(J.length:Int)*X-AQ J
def T2 (J:List V)(n:V)(d:Int):Int:=(J.length:Int)*d-c8 n (AQ J)
def uY (J:List V)(n X:V):c8 n (B8 J X)=(J.length:Int)*c8 n X-c8 n (AQ J):=by unfold B8;rw[d8,t7]
def fA (a:j7 J)(b:n≠0)(h:∀X∈J,c8 n X<=d):0<T2 J n d:=by
 unfold T2;rw[nP,<-aK];have:=BC (c8 n) (λ_=>d) J h (a.below b h)
 lia
def len_pos (a:j7 J):0<(J.length:Int):=by
 obtain⟨A,b,_⟩:=a;have:0<J.length:=aEf b
 lia
def Z6 (h:c8 n X=d):c8 n (B8 J X)=T2 J n d:=by rw[uY,h];rfl
def pM (h:c8 n X<=d):c8 n (B8 J X)<=T2 J n d:=by
 rw[uY];unfold T2;have:=aAS h (show(0:Int)<=J.length by lia)
 lia
def NB (a:0<(J.length:Int))(h:c8 n X<d):c8 n (B8 J X)<T2 J n d:=by
 rw[uY];unfold T2;have:=aEO h a
 lia
def UH (J:List V)(a b X:V):f8 (B8 J a) (B8 J b) (B8 J X)=(J.length:Int)*(J.length:Int)*c8 (B8 J a) (cr (b-a) (X-a)):=by unfold B8;generalize(J.length:Int)=N;generalize AQ J=s;simp[f8,c8];grind
def xT (h:cr w c=0)(x y:V):c8 w y*c8 c x=c8 w x*c8 c y:=by
 have e:c8 w y*c8 c x-c8 w x*c8 c y=c8 (cr w c) (cr y x):=by simp[c8];grind
 rw[h]at e;have:c8 0 (cr y x)=0:=by simp[c8]
 lia
def HB (c:j7 J)(e:IsFace J n d)(k:c8 n a=d)(r:c8 n b=d)(s:c8 n X=d)(h:0<f8 n (b-a) (X-a)):0<f8 (B8 J a) (B8 J b) (B8 J X):=by
 rw[UH];have f:=len_pos c;refine aAV (aAV f f) ?_;have g:=e.prim.ne;have p:cr n (cr (b-a)<|X-a)=0:=E6 (by rw[d8];lia) (by rw[d8];lia);have q:=xT p n (B8 J a);have l:0<c8 n (B8 J a):=by rw[Z6 k];exact fA c g e.sup
 have m:0<c8 (cr (b-a)<|X-a) n:=by rw[dH];exact h
 have t:=aAV l m;have o:=w6 g;rw[dH (B8 J a)];by_cases z:0<c8 (cr (b-a)<|X-a) (B8 J a)
 .exact z
 .exfalso;have:c8 n n*c8 (cr (b-a)<|X-a) (B8 J a)<=0:=by have:=aAS (show c8 (cr (b-a)<|X-a) (B8 J a)<=0 by lia) (aAJ o);simpa using this
  lia
def VF (c:j7 J)(f:IsFace J n d)(k:IsFace J m e)(g:EdgeOf n (λX=>X∈w8 n d J) a b)(l:EdgeOf m (λX=>X∈w8 m e J) b a)(T:c8 m B*T2 J n d<=c8 n B*T2 J m e):0<=f8 (B8 J a) (B8 J b) B:=by
 obtain⟨X,o,t⟩:=f.ad0 g;have x:=MJ c f k g l o t;obtain⟨U,u⟩:=d4.mp o;obtain⟨Y,v⟩:=d4.mp g.p;obtain⟨pb,w⟩:=d4.mp g.q;obtain⟨_,A⟩:=d4.mp l.q;obtain⟨_,C⟩:=d4.mp l.p;have c0:=fA c f.prim.ne f.sup;have c1:=fA c k.prim.ne k.sup;have E:=HB c f v w u t;by_cases z:0<=f8 (B8 J a) (B8 J b) B
 .exact z
 .exfalso;have h:∀y,c8 (T2 J n d*m-T2 J m e*n) y=T2 J n d*c8 m y-T2 J m e*c8 n y:=λy=>by rw[dH,d8,t7,t7,dH y m,dH y n]
  have H:c8 (T2 J n d*m-T2 J m e*n) (B8 J a)=0:=by rw[h,Z6 v,Z6 A];grind
  have I:c8 (T2 J n d*m-T2 J m e*n) (B8 J b)=0:=by rw[h,Z6 w,Z6 C];grind
  have L:c8 (T2 J n d*m-T2 J m e*n) (B8 J X)<0:=by
   rw[h,Z6 u];have N:=NB (len_pos c) x;have:=aEO N c0;have e1:T2 J m e*T2 J n d=T2 J n d*T2 J m e:=aGF _ _
   lia
  have p:=xT (E6 H I) (B8 J X) B;have O:c8 (cr (B8 J a)<|B8 J b) (B8 J X)=f8 (B8 J a) (B8 J b) (B8 J X):=U7 _ _ _;have Q:c8 (cr (B8 J a)<|B8 J b) B=f8 (B8 J a) (B8 J b) B:=U7 _ _ _;rw[O,Q]at p;have r:0<c8 (T2 J n d*m-T2 J m e*n) (B8 J X)*f8 (B8 J a) (B8 J b) B:=Int.mul_pos_of_neg_of_neg L (by lia);rw[<-p]at r;have s:0<c8 (T2 J n d*m-T2 J m e*n) B:=by
   by_cases q:0<c8 (T2 J n d*m-T2 J m e*n) B
   .exact q
   .have:=aAY (show c8 (T2 J n d*m-T2 J m e*n) B<=0 by lia) (aAJ E);simp at this;lia
  rw[h]at s;have e4:c8 m B*T2 J n d=T2 J n d*c8 m B:=aGF _ _;have e5:c8 n B*T2 J m e=T2 J m e*c8 n B:=aGF _ _
  lia
def DD {a b c d e f:Int}(g:0<b)(h:0<d)(k:0<f)(l:a*d<=c*b)(m:c*f<=e*d):a*f<=e*b:=by
 have o:=aAY l (aAJ k);have p:=aAY m (aAJ g);have n:(a*f)*d<=(e*b)*d:=by grind
 exact aEP n h
theorem EK {α:Type}(p q:α->Int):∀(l:List α),l≠[]->(∀x∈l,0<q x)->∃x∈l,∀y∈l,p y*q x<=p x*q y
 |[],h,_=>absurd rfl h
 |[x],_,_=>⟨x,by simp,λy d=>by simp at d;subst d;exact aCj _⟩
 |x::y::l,_,b=>by
  obtain⟨z,f,h⟩:=EK p q (y::l) (by simp) (λw a=>b w (aAe _ a));by_cases c:p x*q z<=p z*q x
  .refine⟨z,aAe _ f,λw a=>?_⟩;rcases aAd.mp a with e|e
   .subst e;exact c
   .exact h w e
  .refine⟨x,by simp,λw a=>?_⟩;rcases aAd.mp a with e|e
   .subst e;exact aCj _
   .exact DD (b w a) (b z<|aAe _ f) (b x (by simp)) (h w e) (by lia)
theorem qj (h:V->Int):∀(x:V) (l:List V),0<=h x->(∀z,(x::l).getLast?=some z->h z<=0)->l≠[]->∃u v,(u,v)∈q8 (x::l)/\0<=h u/\h v<=0
 |x,[],_,_,b=>absurd rfl b
 |x,y::r,d,a,_=>by
  by_cases c:h y<=0
  .exact⟨x,y,by simp[q8],d,c⟩
  .match r,a with
   |[],a=>exact absurd (a y rfl) c
   |z::r,a=>obtain⟨u,v,m,p⟩:=qj h y (z::r) (by lia) (λw e=>a w (by rw[aBq];exact e)) (by simp);exact⟨u,v,by simp only[q8]at m⊢;exact aAe _ m,p⟩
theorem lR:∀(l:List V) (x z w:V),(x::l).getLast?=some z->(z,w)∈q8 (x::l++[w])
 |[],x,z,w,h=>by simp at h;subst h;simp[q8]
 |y::l,x,z,w,h=>by rw[aBq]at h;have:=lR l y z w h;simp only[aBm,q8]at this⊢;exact aAe _ this
theorem iD:∀(l:List V) (x w:V),∀e∈q8 (x::l),e∈q8 (x::l++[w])
 |[],x,w,e,h=>by simp[q8]at h
 |y::l,x,w,e,h=>by
  simp only[aBm,q8]at h⊢;rcases aAd.mp h with q|q
  .subst q;simp
  .exact aAe _ (iD l y w e q)
def W0 (f:J.Pairwise (λa b=>e9 (b-a)))(c:IsFace J n d):∃r s t l,k5 n (w8 n d J)=r::s::t::l:=by
 have S:=c.aa2 f;obtain⟨r,l,e,_⟩:=S.ab3;match l,e with
 |[],e=>
  have h:(r,r)∈N1 (k5 n<|w8 n d J):=by rw[e];simp[N1]
  exact absurd rfl (S.pair h).ne
 |[s],e=>
  have g:(r,s)∈N1 (k5 n<|w8 n d J):=by rw[e];simp[N1]
  have k:(s,r)∈N1 (k5 n<|w8 n d J):=by rw[e];simp[N1]
  have m:=S.pair g;have o:=S.pair k;obtain⟨X,p,q⟩:=c.ad0 m;have:=o.left X p;have u:f8 n (r-s) (X-s)=-f8 n (s-r) (X-r):=by simp[f8,c8];grind
  lia
 |s::t::l,e=>exact⟨r,s,t,l,e⟩
def sQ (T:j7 J)(ho:J.Pairwise (λa b=>e9 (b-a)))(fs:List (V×Int))(ag:fs≠[])(hf:∀f∈fs,IsFace J f.1 f.2)(hc:∀f∈fs,∀a b,EdgeOf f.1 (λX=>X∈w8 f.1 f.2 J) a b->∃g∈fs,EdgeOf g.1 (λX=>X∈w8 g.1 g.2 J) b a)(H:IsFace J n d):(n,d)∈fs:=by
 obtain⟨B,hBd⟩:∃B,B=AQ ((w8 n d J).map (B8 J)):=⟨_,rfl⟩;have dB:∀m,c8 m B=((w8 n d J).map λX=>c8 m (B8 J X)).sum:=λm=>by rw[hBd,nP,aBJ];rfl
 have cn:=fA T H.prim.ne H.sup;have ub:∀m e,(∀X∈J,c8 m X<=e)->c8 m B<=((w8 n d J).length:Int)*T2 J m e:=λm e hm=>by rw[dB,<-aK];exact DF _ _ _ λX k=>pM (hm X (d4.mp k).1)
 have eB:c8 n B=((w8 n d J).length:Int)*T2 J n d:=by rw[dB,<-aK];congr 1;exact aED λX k=>Z6 (d4.mp k).2
 obtain⟨⟨m,e⟩,hm,htop⟩:=EK (λf:V×Int=>c8 f.1 B) (λf=>T2 J f.1 f.2) fs ag λf h=>fA T (hf f h).prim.ne (hf f h).sup;have o:=hf _ hm;have U:∀a b,EdgeOf m (λX=>X∈w8 m e J) a b->0<=f8 (B8 J a) (B8 J b) B:=λa b hab=>by obtain⟨g,hg,yp⟩:=hc _ hm a b hab;exact VF T o (hf g hg) hab yp (htop g hg)
 have S:=o.aa2 ho;obtain⟨r,s,t,l,er⟩:=W0 ho o;have nd:=S.aa4;have pr:=λ{P Q}=>S.aa1 (P:=P) (Q:=Q);rw[er]at pr nd;have rm:r∈k5 m (w8 m e J):=by rw[er];simp
 have on:∀X∈r::s::t::l,c8 m X=e:=λX k=>by rw[<-er]at k;exact(d4.mp<|S.aa3 k).2
 obtain⟨z,hz⟩:∃z,(s::t::l).getLast?=some z:=by simp[aET]
 have c1:(r,s)∈N1 (r::s::t::l):=by rw[W4];simp[q8]
 have c2:(z,r)∈N1 (r::s::t::l):=by rw[W4];exact lR _ _ _ _ (by rw[aBq];exact hz)
 have w1:=U _ _ (pr.mp c1);have w2:=U _ _ (pr.mp c2);obtain⟨u,v,huv,hu,hv⟩:=qj (λX=>f8 (B8 J r) (B8 J X) B) s (t::l) w1 (λy hy=>by
  have:y=z:=aAn (hy.symm.trans hz);subst this;have e1:f8 (B8 J r) (B8 J y) B=-f8 (B8 J y) (B8 J r) B:=by simp[f8,c8];grind
  lia) (by simp)
 have c3:(u,v)∈N1 (r::s::t::l):=by rw[W4];have:=iD (t::l) s r _ huv;simp only[aBm,q8]at this⊢;exact aAe _ this
 have g3:=pr.mp c3;have mu:u∈s::t::l/\v∈s::t::l:=by
  have:=huv;have hh:∀(l:List V) (p q:V),(p,q)∈q8 l->p∈l/\q∈l:=λl=>by
   induction l with
   |nil=>intro p q h;simp[q8]at h
   |cons x l ih=>
    intro p q h;match l,h,ih with
    |[],h,_=>simp[q8]at h
    |y::l,h,ih=>
     simp only[q8]at h;rcases aAd.mp h with c|c
     .cases c;simp
     .have:=ih p q c;exact⟨aAe _ this.1,aAe _ this.2⟩
  exact hh _ _ _ huv
 have nr:=(aAF.mp nd).1;have ru:r≠u:=λq=>by subst q;exact nr mu.1
 have rv:r≠v:=λq=>by subst q;exact nr mu.2
 have st:=S.strict g3 rm ru rv;have du:=on u (aAe _ mu.1);have dv:=on v (aAe _ mu.2);have dr:=on r (by simp);have D0:=HB T o du dv dr st;have w3:=U _ _ g3;have w:=EC B (B8 J r) (B8 J u) (B8 J v);have a1:f8 B (B8 J u) (B8 J v)=f8 (B8 J u) (B8 J v) B:=by simp[f8,c8];grind
 have a2:f8 B (B8 J v) (B8 J r)=-f8 (B8 J r) (B8 J v) B:=by simp[f8,c8];grind
 have a3:f8 B (B8 J r) (B8 J u)=f8 (B8 J r) (B8 J u) B:=by simp[f8,c8];grind
 have a4:f8 (B8 J r) (B8 J u) (B8 J v)=f8 (B8 J u) (B8 J v) (B8 J r):=by simp[f8,c8];grind
 rw[a1,a2,a3,a4]at w;obtain⟨I,hal⟩:∃I,I=f8 (B8 J u) (B8 J v) B:=⟨_,rfl⟩;obtain⟨N,yr⟩:∃N,N=-f8 (B8 J r) (B8 J v) B:=⟨_,rfl⟩;obtain⟨O,hga⟩:∃O,O=f8 (B8 J r) (B8 J u) B:=⟨_,rfl⟩;obtain⟨E,hDe⟩:∃E,E=f8 (B8 J u) (B8 J v) (B8 J r):=⟨_,rfl⟩;rw[<-hal,<-yr,<-hga,<-hDe]at w;have al0:0<=I:=by lia
 have be0:0<=N:=by lia
 have ga0:0<=O:=by lia
 have De0:0<E:=by lia
 have cd:∀f:V,E*c8 f B=O*c8 f (B8 J v)+I*c8 f (B8 J r)+N*c8 f (B8 J u):=λf=>by
  have:=ll (c8 f) w;rw[aY,aY,t7,t7,t7,t7]at this
  lia
 have q1:=cd m;rw[Z6 dr,Z6 du,Z6 dv]at q1;have q2:=cd n;have cm:=fA T o.prim.ne o.sup;have pt:∀X∈r::s::t::l,X∈J:=λX k=>by rw[<-er]at k;exact(d4.mp<|S.aa3 k).1
 have r1:=pM (J:=J) (H.sup r (pt r (by simp)));have r2:=pM (J:=J) (H.sup u<|pt u<|aAe _ mu.1);have r3:=pM (J:=J) (H.sup v<|pt v<|aAe _ mu.2);have s1:=aAS r1 al0;have s2:=aAS r2 be0;have s3:=aAS r3 ga0;obtain⟨L,hL⟩:∃L:Int,L=((w8 n d J).length:Int):=⟨_,rfl⟩;have ub1:=ub m e o.sup;rw[<-hL]at eB ub1;have k1:E*L<=I+N+O:=by
  have:(E*L)*T2 J n d<=(I+N+O)*T2 J n d:=by
   rw[eB]at q2;have e1:E*L*T2 J n d=E*(L*T2 J n d):=aFq _ _ _;have e2:(I+N+O)*T2 J n d=I*T2 J n d+N*T2 J n d+O*T2 J n d:=by grind
   lia
  exact aEP this cn
 have k2:E*c8 m B=(I+N+O)*T2 J m e:=by rw[q1];grind
 have k3:(E*L)*T2 J m e<=E*c8 m B:=by rw[k2];exact aAY k1 (aAJ cm)
 have k4:L*T2 J m e<=c8 m B:=by rw[aFq]at k3;exact Int.le_of_mul_le_mul_left k3 De0
 have all:∀X∈w8 n d J,c8 m X=e:=λX k=>by
  have le:c8 m X<=e:=o.sup X (d4.mp k).1;by_cases z:c8 m X=e
  .exact z
  .exfalso;have:=BC (λX=>c8 m (B8 J X)) (λ_=>T2 J m e) (w8 n d J) (λY hY=>pM (o.sup Y (d4.mp hY).1)) ⟨X,k,NB (len_pos T) (by lia)⟩;rw[<-dB,aK,<-hL]at this
   lia
 obtain⟨A,hA,B',hB',C,hC,ea,eb,ec,hcr⟩:=H.three;obtain⟨Z,hZ,hz⟩:=T.below H.prim.ne H.sup;obtain⟨rfl,rfl⟩:=iX H.prim o.prim H.sup o.sup ea eb ec (all A<|d4.mpr ⟨hA,ea⟩) (all B'<|d4.mpr ⟨hB',eb⟩) (all C<|d4.mpr ⟨hC,ec⟩) hcr hZ hz;exact hm
def j9 (J:List V)(f:V×Int):List V:=k5 f.1 (w8 f.1 f.2 J)
structure LInv (J:List V)(p0:V×V)(fs:List (V×Int))(walked:V×V->Prop)(waiting:List (V×V)):Prop where
 face:∀f∈fs,IsFace J f.1 f.2
 nd:fs.Nodup
 wk:∀e,walked e↔∃f∈fs,e∈N1 (j9 J f)
 cl:∀f∈fs,∀a b,(a,b)∈N1 (j9 J f)->(∃g∈fs,(b,a)∈N1 (j9 J g))\/(b,a)∈waiting
 wt:∀p∈waiting,(∃f∈fs,(p.2,p.1)∈N1 (j9 J f))\/(fs=[]/\p=p0)
 ne:fs=[]->waiting=[p0]
structure Good (J:List V)(m:V):Prop where
 solid:j7 J
 ord:J.Pairwise (λa b=>e9 (b-a))
 mem:m∈J
 least:∀X∈J,X=m\/e9 (X-m)
section
variable{J:List V} {m:V} (G:Good J m) {fs:List (V×Int)} {walked:V×V->Prop} {waiting rest:List (V×V)} {p:V×V}
include G
theorem BO:LInv J (f6 m J) [] (λ_=>False) [f6 m J]where
 face:=λf h=>by cases h
 nd:=aDm
 wk:=λe=>⟨λh=>h.elim,λ⟨f,h,_⟩=>by cases h⟩
 cl:=λf h=>by cases h
 wt:=λq h=>.inr ⟨rfl,by simpa using h⟩
 ne:=λ_=>rfl
theorem OU (h:LInv J (f6 m J) fs walked waiting)(k:waiting=rest++[p])(l:walked p):LInv J (f6 m J) fs walked rest:=by
 have g:∀q,q∈waiting↔q=p\/q∈rest:=λq=>by rw[k];simp[or_comm]
 obtain⟨n,c,o⟩:=(h.wk p).mp l;have r:fs≠[]:=λe=>by subst e;cases c
 refine⟨h.face,h.nd,h.wk,λf s a b d=>?_,λq t=>h.wt q ((g q).mpr (.inr t)),λe=>absurd e r⟩;rcases h.cl f s a b d with q|q
 .exact .inl q
 .rcases(g (b,a)).mp q with z|z
  .subst z;exact .inl ⟨n,c,o⟩
  .exact .inr z
theorem zR (h:LInv J (f6 m J) fs walked waiting)(d:p∈waiting)(e:¬walked p):IsFace J (b7 p.1 p.2 J).1 (b7 p.1 p.2 J).2/\b7 p.1 p.2 J∉fs/\(fs≠[]->p∈N1 (j9 J (b7 p.1 p.2 J))):=by
 rcases h.wt p d with⟨f,g,k⟩|⟨l,n⟩
 .have a:=h.face f g;have S:=a.aa2 G.ord;have o:=S.aa1.mp k;obtain⟨b,q⟩:=sV a.prim.ne a.sup (G.solid.below a.prim.ne a.sup) o;have r:=b.aa2 G.ord;have c:p∈N1 (j9 J<|b7 p.1 p.2 J):=r.aa1.mpr q;exact⟨b,λz=>e ((h.wk p).mpr ⟨_,z,c⟩),λ_=>c⟩
 .subst l n;exact⟨gK G.solid G.ord G.mem G.least,by simp,λz=>absurd rfl z⟩
theorem QS (h:LInv J (f6 m J) fs walked waiting)(o:waiting=rest++[p])(s:¬walked p){walked':V×V->Prop}(t:∀e,walked' e↔walked e\/e∈N1 (j9 J (b7 p.1 p.2 J)))(l:∀q,q∈waiting'↔q∈rest\/(q.2,q.1)∈N1 (j9 J (b7 p.1 p.2 J))):
  LInv J (f6 m J) (fs++[b7 p.1 p.2 J]) walked' waiting':=by
 have n:∀q,q∈waiting↔q=p\/q∈rest:=λq=>by rw[o];simp[or_comm]
 obtain⟨u,v,w⟩:=zR G h ((n p).mpr (.inl rfl)) s;refine⟨λf c=>?_,?_,λe=>?_,λf c a b k=>?_,λq x=>?_,λe=>by simp at e⟩
 .rcases aAN.mp c with z|z
  .exact h.face f z
  .have:f=b7 p.1 p.2 J:=by simpa using z
   subst this;exact u
 .rw[aCW];exact⟨h.nd,by simp,λa A b B=>λe=>by
   have:b=b7 p.1 p.2 J:=by simpa using B
   subst e this;exact v A⟩
 .rw[t,h.wk];constructor
  .rintro(⟨f,c,d⟩|d)
   .exact⟨f,aBK _ c,d⟩
   .exact⟨_,aAI _ (by simp),d⟩
  .rintro⟨f,c,d⟩;rcases aAN.mp c with z|z
   .exact .inl ⟨f,z,d⟩
   .have:f=b7 p.1 p.2 J:=by simpa using z
    subst this;exact .inr d
 .rcases aAN.mp c with z|z
  .rcases h.cl f z a b k with⟨g,C,e⟩|q
   .exact .inl ⟨g,aBK _ C,e⟩
   .rcases(n (b,a)).mp q with y|y
    .have E:fs≠[]:=λe=>by subst e;cases z
     exact .inl ⟨b7 p.1 p.2 J,aAI _ (by simp),by rw[y];exact w E⟩
    .exact .inr ((l _).mpr (.inl y))
  .have:f=b7 p.1 p.2 J:=by simpa using z
   subst this;exact .inr ((l _).mpr (.inr k))
 .rcases(l q).mp x with z|z
  .rcases h.wt q ((n q).mpr (.inr z))with⟨f,c,e⟩|⟨H,I⟩
   .exact .inl ⟨f,aBK _ c,e⟩
   .have:=h.ne H;exfalso;rw[o]at this;have r:=ll aFr this;simp at r;subst r;cases z
  .exact .inl ⟨_,aAI _ (by simp),z⟩
theorem OT (h:LInv J (f6 m J) fs walked []):fs≠[]/\∀n d,(n,d)∈fs↔IsFace J n d:=by
 have l:fs≠[]:=λe=>by have:=h.ne e;cases this
 refine⟨l,λn d=>⟨λc=>h.face _ c,λc=>?_⟩⟩;refine sQ G.solid G.ord fs l h.face (λf c a b k=>?_) c;have S:=(h.face f c).aa2 G.ord;rcases h.cl f c a b (S.aa1.mpr k)with⟨g,o,e⟩|q
 .exact⟨g,o,((h.face g o).aa2 G.ord).aa1.mp e⟩
 .cases q
end
def lE (h:IsFace J n d):∃A∈J,∃B∈J,∃C∈J,cr (B-A) (C-A)≠0/\d5 A B C=(n,d):=by
 obtain⟨A,t,B,f,C,m,a,b,c,e⟩:=h.three;have o:∀B∈J,∀C∈J,c8 n B=d->c8 n C=d->cr (B-A) (C-A)≠0->0<c8 n (cr (B-A)<|C-A)->d5 A B C=(n,d):=λB f C m b c e r=>by
  obtain⟨g,H,I,L,N⟩:=bR e;have p:cr n (cr (B-A)<|C-A)=0:=E6 (by rw[d8];lia) (by rw[d8];lia);obtain⟨k,l,u,s⟩:=v8 h.prim.ne p;have O:0<l:=by
   have q:=ll (c8 n) s;rw[t7,t7]at q;have:=aAV u r;have Q:=w6 h.prim.ne;by_cases z:0<l
   .exact z
   .have:=aAY (show l<=0 by lia) (aAJ Q);simp at this;lia
  rw[I]at s;have T:(k*g)*(d5 A B C).1=l*n:=by rw[<-s];apply ext<;>simp<;>grind
  have v:=mV L h.prim (aAV u H) O T;refine aFs v ?_;rw[N,v];exact a
 by_cases z:0<c8 n (cr (B-A)<|C-A)
 .exact⟨A,t,B,f,C,m,e,o B f C m b c e z⟩
 .have w:cr (C-A) (B-A)=-cr (B-A) (C-A):=by apply ext<;>simp<;>grind
  have E:cr (C-A) (B-A)≠0:=λq=>e (by rw[w]at q;have U:=ll V.x q;have Y:=ll V.y q;have q3:=ll V.z q;simp only[XR,XB,WK,R8,S7,S8]at U Y q3;exact ext (by simp only[R8];lia) (by simp only[S7];lia) (by simp only[S8];lia))
  have ag:c8 n (cr (B-A)<|C-A)≠0:=λq=>e (X0 h.prim.ne (by rw[d8];lia) (by rw[d8];lia) q);refine⟨A,t,C,m,B,f,E,o C m B f c b E ?_⟩;have:c8 n (cr (C-A)<|B-A)=-c8 n (cr (B-A)<|C-A):=by rw[w];simp[c8];grind
  lia
def cands (J:List V):List (V×Int):=J.flatMap λA=>J.flatMap λB=>J.map λC=>d5 A B C
def II (J:List V):(cands J).length=J.length*(J.length*J.length):=by
 unfold cands;have h:∀(l:List V) (f:V->List (V×Int)) (k:Nat),(∀x,(f x).length=k)->(l.flatMap f).length=l.length*k:=λl f k a=>by
  induction l with
  |nil=>simp
  |cons x l b=>rw[List.flatMap_cons,aAD,b,a,aAv,aFM,Nat.add_comm]
 rw[h J _ (J.length*J.length) λA=>h J _ J.length λB=>by simp]
theorem z8 {α:Type}[DecidableEq α]:∀{l m:List α},l.Nodup->(∀x∈l,x∈m)->l.length<=m.length
 |[],_,_,_=>aBb _
 |x::l,m,h,a=>by
  have b:=a x (by simp);have c:=aAF.mp h;have:=z8 (l:=l) (m:=m.erase x) c.2 (λy d=>by
   have ne:y≠x:=λe=>by subst e;exact c.1 d
   exact(aFX ne).mpr (a y<|aAe _ d))
  rw[aFi b]at this;have:0<m.length:=aEf b;simp only[aAv]
  lia
def IT {J:List V}{fs:List (V×Int)}(a:fs.Nodup)(b:∀f∈fs,IsFace J f.1 f.2):fs.length<=J.length*(J.length*J.length):=by rw[<-II];refine z8 a λf h=>?_;obtain⟨A,c,B,d,C,g,_,e⟩:=lE (b f h);unfold cands;rw[aBg];refine⟨A,c,?_⟩;rw[aBg];exact⟨B,d,aAl.mpr ⟨C,g,e⟩⟩
section
variable{J:List V} (hs:j7 J) (ho:J.Pairwise (λa b=>e9 (b-a)))
include hs ho
theorem gG (c:IsFace J n d)(h:EdgeOf n (λX=>X∈w8 n d J) a b):
 IsFace J (b7 b a J).1 (b7 b a J).2/\EdgeOf (b7 b a J).1 (λX=>X∈w8 (b7 b a J).1 (b7 b a J).2 J) b a:=sV c.prim.ne c.sup (hs.below c.prim.ne c.sup) h
theorem eS (c:IsFace J n d)(e:EdgeOf n (λX=>X∈w8 n d J) a b)(f:EdgeOf n (λX=>X∈w8 n d J) b a):False:=by
 obtain⟨X,g,h⟩:=c.ad0 e;have:=f.left X g;have k:f8 n (a-b) (X-b)=-f8 n (b-a) (X-a):=by simp[f8,c8];grind
 lia
theorem iH (a:IsFace J n d)(o:X∈j9 J (n,d)):∃f g:V×Int,IsFace J f.1 f.2/\IsFace J g.1 g.2/\(n,d)≠f/\(n,d)≠g/\f≠g/\c8 n X=d/\c8 f.1 X=f.2/\c8 g.1 X=g.2:=by
 have S:=a.aa2 ho;obtain⟨Y,t⟩:=bE S o;obtain⟨W,r⟩:=NX S o;have b:=S.aa1.mp t;have h:=S.aa1.mp r;obtain⟨l,c⟩:=gG hs ho a b;obtain⟨u,k⟩:=gG hs ho a h;have m:W≠Y:=λe=>by subst e;exact eS hs ho a b h
 refine⟨_,_,l,u,λe=>?_,λe=>?_,λe=>?_,(d4.mp b.p).2,(d4.mp c.q).2,(d4.mp k.p).2⟩
 .rw[<-e]at c;exact eS hs ho a b c
 .rw[<-e]at k;exact eS hs ho a h k
 .
  have st:=S.strict b (nF S r).1 (h.ne) m;have v:=(d4.mp h.p).2;have w:=(d4.mp b.p).2;have x:=(d4.mp b.q).2;have y:=(d4.mp c.p).2;have z:=(d4.mp c.q).2;have s:=(d4.mp k.q).2;rw[<-e]at s;have A:cr (Y-X) (W-X)≠0:=λq=>by unfold f8 at st;rw[q,M9]at st;lia
  obtain⟨Z,B,C⟩:=hs.below a.prim.ne a.sup;obtain⟨E,H⟩:=iX a.prim l.prim a.sup l.sup w x v z y s A B C;have:(n,d)=b7 Y X J:=aFs E H;rw[<-this]at c;exact eS hs ho a b c
theorem JM (s:IsFace J n d)(f:IsFace J m e)(h:EdgeOf n (λX=>X∈w8 n d J) a b)(ga:c8 m a=e)(gb:c8 m b=e):(m,e)=(n,d)\/(m,e)=b7 b a J:=by
 obtain⟨pa,da⟩:=d4.mp h.p;obtain⟨pb,db⟩:=d4.mp h.q;obtain⟨I,L⟩:=gG hs ho s h;have hab:c8 n (a-b)=0:=by rw[d8];lia
 have C:=tW (n:=n) s.prim.ne hab;have ag:a-b≠0:=λq=>h.ne (L7 q);obtain⟨P,pP,eP,hP⟩:∃P∈J,c8 m P=e/\cr (a-b) (P-b)≠0:=by
  by_cases z:∃P∈J,c8 m P=e/\cr (a-b) (P-b)≠0
  .exact z
  .exfalso;obtain⟨A,hA,B,hB,D,hD,eA,eB,eD,hc⟩:=f.three;have k:∀X∈J,c8 m X=e->cr (a-b) (X-b)=0:=λX hX dX=>by
    by_cases q:cr (a-b) (X-b)=0
    .exact q
    .exact absurd ⟨X,hX,dX,q⟩ z
   have k2:∀X∈J,c8 m X=e->∀Y∈J,c8 m Y=e->cr (X-Y) (a-b)=0:=λX hX dX Y hY dY=>by have t:=k X hX dX;have c:=k Y hY dY;have a1:=ll V.x t;have a2:=ll V.y t;have a3:=ll V.z t;have L:=ll V.x c;have b2:=ll V.y c;have b3:=ll V.z c;simp at a1 a2 a3 L b2 b3;apply ext<;>simp<;>grind
   exact hc (qF ag (k2 B hB eB A hA eA)<|k2 D hD eD A hA eA)
 have mab:c8 m (a-b)=0:=by rw[d8];lia
 have mP:c8 m (P-b)=0:=by rw[d8];lia
 have par:cr m (cr (a-b)<|P-b)=0:=E6 mab mP;obtain⟨k,l,hk,N⟩:=v8 f.prim.ne par;have dl:∀w,k*f8 (a-b) (P-b) w=l*c8 m w:=λw=>by have:=ll (λv=>c8 v w) N;simp only[G7,U7]at this;exact this
 have l0:l≠0:=λq=>hP (by rw[q,u9]at N;have t:=ll V.x N;have c:=ll V.y N;have q3:=ll V.z N;simp only[AM,xV,xO,R8,S7,S8]at t c q3;exact ext ((aAs.mp t).resolve_left (by lia)) ((aAs.mp c).resolve_left (by lia)) ((aAs.mp q3).resolve_left (by lia)))
 have T:∀Q∈J,c8 m (Q-b)<=0:=λQ hQ=>by rw[d8];have:=f.sup Q hQ;lia
 obtain⟨Z,hZ,hz⟩:=hs.below s.prim.ne s.sup;by_cases hl:0<l
 .
  right;obtain⟨O,hO,eO⟩:∃O∈w8 (b7 b a J).1 (b7 b a J).2 J,0<f8 (b7 b a J).1 (a-b) (O-b):=I.ad0 L;obtain⟨pO,dO⟩:=d4.mp hO;obtain⟨_,e1b⟩:=d4.mp L.p;obtain⟨_,e1a⟩:=d4.mp L.q;have t1:f8 (a-b) (P-b) (O-b)<=0:=by
   have q:=dl (O-b);have:=aAS (T O pO) (aAJ hl);rw[aDv]at this;by_cases z:f8 (a-b) (P-b) (O-b)<=0
   .exact z
   .have:=aAV hk (show 0<f8 (a-b) (P-b) (O-b)by lia);lia
  have g:cr (b7 b a J).1 (cr (a-b)<|O-b)=0:=E6 (by rw[d8];lia) (by rw[d8];lia);obtain⟨k',u,U,o⟩:=v8 I.prim.ne g;have r:∀w,k'*f8 (a-b) (O-b) w=u*c8 (b7 b a J).1 w:=λw=>by have:=ll (λv=>c8 v w) o;simp only[G7,U7]at this;exact this
  have jg:0<u:=by
   have q:=ll (c8 (b7 b a J).1) o;rw[t7,t7]at q;have c:0<c8 (b7 b a J).1 (cr (a-b)<|O-b):=eO;have:=aAV U c;have hn:=w6 I.prim.ne;by_cases z:0<u
   .exact z
   .have:=aAY (show u<=0 by lia) (aAJ hn);simp at this;lia
  have t2:f8 (a-b) (O-b) (P-b)<=0:=by
   have q:=r (P-b);have h0:c8 (b7 b a J).1 (P-b)<=0:=by rw[d8];have:=I.sup P pP;lia
   have:=aAS h0 (aAJ jg);rw[aDv]at this;by_cases z:f8 (a-b) (O-b) (P-b)<=0
   .exact z
   .have:=aAV U (show 0<f8 (a-b) (O-b) (P-b)by lia);lia
  have t3:f8 (a-b) (O-b) (P-b)=0:=by rw[j8]at t1;lia
  have q0:=r (P-b);rw[t3,aDv]at q0;have onP':c8 (b7 b a J).1 P=(b7 b a J).2:=by have:=(aAs.mp q0.symm).resolve_left (by lia);rw[d8]at this;lia
  obtain⟨Z',E,H⟩:=hs.below f.prim.ne f.sup;obtain⟨t,c⟩:=iX f.prim I.prim f.sup I.sup gb ga eP e1b e1a onP' hP E H;exact aFs t c
 .
  left;have lb:l<0:=by lia
  obtain⟨O,hO,eO⟩:=s.ad0 h;obtain⟨pO,dO⟩:=d4.mp hO;rw[oK]at eO;have t1:0<=f8 (a-b) (P-b) (O-b):=by
   have q:=dl (O-b);have h2:0<=l*c8 m (O-b):=by
    have:=aBd (show 0<=-l by lia) (show 0<=-c8 m (O-b)by have:=T O pO;lia)
    rwa [aDu]at this
   by_cases z:0<=f8 (a-b) (P-b) (O-b)
   .exact z
   .have:=aBe hk (show f8 (a-b) (P-b) (O-b)<0 by lia);lia
  have g:cr n (cr (b-a)<|O-b)=0:=E6 (by rw[d8];lia) (by rw[d8];lia);obtain⟨k',u,U,o⟩:=v8 s.prim.ne g;have r:∀w,k'*f8 (b-a) (O-b) w=u*c8 n w:=λw=>by have:=ll (λv=>c8 v w) o;simp only[G7,U7]at this;exact this
  have jg:0<u:=by
   have q:=ll (c8 n) o;rw[t7,t7]at q;have c:0<c8 n (cr (b-a)<|O-b):=eO;have:=aAV U c;have hn:=w6 s.prim.ne;by_cases z:0<u
   .exact z
   .have:=aAY (show u<=0 by lia) (aAJ hn);simp at this;lia
  have t2:f8 (b-a) (O-b) (P-b)<=0:=by
   have q:=r (P-b);have h0:c8 n (P-b)<=0:=by rw[d8];have:=s.sup P pP;lia
   have:=aAS h0 (aAJ jg);rw[aDv]at this;by_cases z:f8 (b-a) (O-b) (P-b)<=0
   .exact z
   .have:=aAV U (show 0<f8 (b-a) (O-b) (P-b)by lia);lia
  have e3:f8 (b-a) (O-b) (P-b)=f8 (a-b) (P-b) (O-b):=by simp[f8,c8];grind
  have t3:f8 (b-a) (O-b) (P-b)=0:=by lia
  have q0:=r (P-b);rw[t3,aDv]at q0;have onn:c8 n P=d:=by have:=(aAs.mp q0.symm).resolve_left (by lia);rw[d8]at this;lia
  obtain⟨Z',E,H⟩:=hs.below f.prim.ne f.sup;obtain⟨t,c⟩:=iX f.prim s.prim f.sup s.sup gb ga eP db da onn hP E H;exact aFs t c
end
def AJ (k:j7 J)(l:m∈J)(o:∀X∈J,X=m\/e9 (X-m)):
  cV (b7 m (m+kk) J).1/\m∈w8 (b7 m (m+kk) J).1 (b7 m (m+kk) J).2 J/\∃a∈w8 (b7 m (m+kk) J).1 (b7 m (m+kk) J).2 J,m≠a:=by
 have C:ConeM (m+kk-m) (λw=>0<w.x\/(w.x=0/\0<w.y)):=by rw[K9];exact HF
 have p:m+kk-m≠0:=by rw[K9];intro e;have:=ll V.z e;simp[kk]at this
 have b:∀P∈J,(0<(P-m).x\/((P-m).x=0/\0<(P-m).y))\/cr (m+kk-m) (P-m)=0:=λP r=>by
  rw[K9];rcases o P r with e|e
  .right;subst e;rw[x9];apply ext<;>simp
  .unfold e9 at e;rcases e with e|⟨c,e|⟨s,H⟩⟩
   .exact .inl (.inl e)
   .exact .inl (.inr ⟨c,e⟩)
   .right;apply ext
    .simp[kk];simp at s;lia
    .simp[kk];simp at c;lia
    .simp[kk]
 have t:∃P∈J,0<(P-m).x\/((P-m).x=0/\0<(P-m).y):=by
  by_cases z:∃P∈J,0<(P-m).x\/((P-m).x=0/\0<(P-m).y)
  .exact z
  .exfalso;obtain⟨Z,f,e⟩:=k.off (n:=⟨1,0,0⟩) (d:=m.x) (λe=>by have:=ll V.x e;simp at this);have w:=(b Z f).resolve_left λq=>z ⟨Z,f,q⟩;rw[K9]at w;have:=ll V.y w;simp[kk]at this;simp[c8]at e
   lia
 obtain⟨a,g,u,h,I,L,v,A,B,N,E,O⟩:=X7 C p b t;refine⟨v,d4.mpr ⟨l,A.symm⟩,a,d4.mpr ⟨u,E⟩,λe=>?_⟩;subst e;rw[x9]at h;simp at h
section
variable{J:List V} (hs:j7 J) (ho:J.Pairwise (λa b=>e9 (b-a)))
include hs ho
theorem QM (c:IsFace J f.1 f.2)(d:IsFace J g.1 g.2)(l:(a,b)∈N1 (j9 J f))(m:(a,b)∈N1 (j9 J g)):f=g:=by
 have h:=(c.aa2 ho).aa1.mp l;have e:=(d.aa2 ho).aa1.mp m;obtain⟨n,k⟩:=gG hs ho c h;rcases JM hs ho c d h (d4.mp e.p).2 (d4.mp e.q).2 with q|q
 .exact q.symm
 .exfalso;have:g=b7 b a J:=q;rw[<-this]at k;exact eS hs ho d e k
theorem KI (h:l.Nodup):(N1 l).Nodup:=by
 have:((N1 l).map (·.1)).Nodup:=by
  unfold N1;rw[List.map_fst_zip]
  .exact h
  .simp;lia
 exact(aBf.mp this).imp λ{a b} h e=>h (by rw[e])
theorem VC:(N1 l).length=l.length:=by unfold N1;simp;lia
def lC (J:List V)(fs:List (V×Int)):List (V×V):=fs.flatMap λf=>N1 (j9 J f)
omit hs ho in
theorem RI (fs:List (V×Int)):(lC J fs).length=(fs.map λf=>(j9 J f).length).sum:=by
 induction fs with
 |nil=>rfl
 |cons f fs a=>show(N1 (j9 J f)++lC J fs).length=_;rw[aAD,a,aAz,aDY];congr 1;unfold N1;simp;lia
theorem nJ:∀{fs:List (V×Int)},fs.Nodup->(∀f∈fs,IsFace J f.1 f.2)->(lC J fs).Nodup
 |[],_,_=>aDm
 |f::fs,l,d=>by have h:=aAF.mp l;have k:=d f (.head _);show(N1 (j9 J f)++lC J fs).Nodup;rw[aCW];refine⟨KI hs ho ((k.aa2 ho).aa4),nJ h.2 λg c=>d g (.tail _ c),λe m p n q=>?_⟩;subst q;obtain⟨g,c,o⟩:=aBg.mp n;exact h.1 (QM hs ho k (d g<|.tail _ c) (a:=e.1) (b:=e.2) m o▸c)
theorem aI {fs:List (V×Int)}(t:fs.Nodup)(m:∀f∈fs,IsFace J f.1 f.2):(fs.map λf=>(j9 J f).length).sum+J.length<=J.length*J.length:=by
 have d:J.Nodup:=ho.imp λ{a b} h e=>by subst e;exact G9 h
 have u:=nJ hs ho t m;have v:(lC J fs++J.map λa=>(a,a)).Nodup:=by rw[aCW];refine⟨u,aBf.mpr (d.imp λ{a b} h e=>h (Prod.mk.inj e).1),λe c A w q=>?_⟩;subst q;obtain⟨g,n,k⟩:=aBg.mp c;obtain⟨a,_,rfl⟩:=aAl.mp w;exact(((m g n).aa2 ho).aa1.mp k).ne rfl
 have x:∀e∈lC J fs++J.map (λa=>(a,a)),e∈J.flatMap λa=>J.map λb=>(a,b):=λe c=>by
  rcases aAN.mp c with c|c
  .obtain⟨g,n,k⟩:=aBg.mp c;have k:(e.1,e.2)∈N1 (j9 J g):=k;have o:=((m g n).aa2 ho).aa1.mp k;exact aBg.mpr ⟨e.1,(d4.mp o.p).1,aAl.mpr ⟨e.2,(d4.mp o.q).1,rfl⟩⟩
  .obtain⟨a,r,rfl⟩:=aAl.mp c;exact aBg.mpr ⟨a,r,aAl.mpr ⟨a,r,rfl⟩⟩
 have s:=z8 v x;have y:(J.flatMap λa=>J.map λb=>(a,b)).length=J.length*J.length:=by
  have:∀l:List V,(l.flatMap λa=>J.map λb=>(a,b)).length=l.length*J.length:=λl=>by
   induction l with
   |nil=>simp
   |cons a l z=>rw[List.flatMap_cons,aAD,z,aAj,aAv,aFM];lia
  exact this J
 rw[aAD,RI,aAj,y]at s;exact s
theorem dJ {fs:List (V×Int)}(a:∀f∈fs,IsFace J f.1 f.2):3*fs.length<=(fs.map λf=>(j9 J f).length).sum:=by
 induction fs with
 |nil=>simp
 |cons f fs b=>
  have:=b λg c=>a g (.tail _ c);obtain⟨r,s,t,l,e⟩:=W0 ho (a f<|.head _);have d:(j9 J f).length=l.length+3:=by show(k5 f.1 (w8 f.1 f.2 J)).length=_;rw[e];simp
  rw[aAz,aDY,aAv,d]
  lia
end
theorem kU:∀(J:List V) (c b:V),(E8 a A J c b).2∈J\/(E8 a A J c b).2=b
 |[],c,b=>.inr rfl
 |P::d,c,b=>by
  unfold E8;split
  .rcases kU d (cr a (P-A)) P with h|h
   .exact .inl (.tail _ h)
   .exact .inl (by rw[h];exact .head _)
  .rcases kU d c b with h|h
   .exact .inl (.tail _ h)
   .exact .inr h
section
variable{J c:List V} (hs:j7 J) (ho:J.Pairwise (λa b=>e9 (b-a))) (de:c.Pairwise (λa b=>e9 (b-a))) (hc:∀X,X∈c↔∃f:V×Int,IsFace J f.1 f.2/\X∈j9 J f)
include hs ho de hc
theorem WQ (h:X∈c):X∈J:=by obtain⟨f,a,b⟩:=(hc X).mp h;exact(d4.mp<|(a.aa2 ho).aa3 b).1
theorem jU (a:IsFace J n d)(h:X∈j9 J (n,d)):X∈w8 n d c:=by have b:=(d4.mp<|(a.aa2 ho).aa3 h).2;exact d4.mpr ⟨(hc X).mpr ⟨(n,d),a,h⟩,b⟩
theorem ZK (h:X∈w8 n d c):X∈w8 n d J:=d4.mpr ⟨WQ hs ho de hc (d4.mp h).1,(d4.mp h).2⟩
theorem kN (a:IsFace J n d):IsFace c n d:=by
 have S:=a.aa2 ho;obtain⟨r,s,t,l,e⟩:=W0 ho a;have m:r∈k5 n (w8 n d J):=by rw[e];simp
 have o:s∈k5 n (w8 n d J):=by rw[e];simp
 have f:t∈k5 n (w8 n d J):=by rw[e];simp
 have b:=S.aa4;rw[e]at b;simp only[aAF,aAd,not_or]at b;have g:EdgeOf n (λX=>X∈w8 n d J) r s:=S.aa1.mp (by rw[e];simp[N1]);have st:=S.strict g f (λq=>b.1.2.1 q.symm) (λq=>b.2.1.1 q.symm);have k:=λ{X} (h:X∈k5 n (w8 n d J))=>jU hs ho de hc a (X:=X) h;refine⟨a.prim,λX p=>a.sup X (WQ hs ho de hc p),r,(d4.mp<|k m).1,s,(d4.mp<|k o).1,t,(d4.mp<|k f).1,(d4.mp<|k m).2,(d4.mp<|k o).2,(d4.mp<|k f).2,λq=>?_⟩;unfold f8 at st;rw[q,M9]at st
 lia
theorem vH (e:IsFace J n d)(h:EdgeOf n (λX=>X∈w8 n d J) a b):EdgeOf n (λX=>X∈w8 n d c) a b:=by have S:=e.aa2 ho;have m:=nF S (S.aa1.mpr h);exact⟨jU hs ho de hc e m.1,jU hs ho de hc e m.2,h.ne,λX f=>h.left X (ZK hs ho de hc f),λX f=>h.btw X (ZK hs ho de hc f)⟩
omit hs ho de hc in
theorem oT {R:V->Prop}{E:List (V×V)}(g:∀a b,R a->(a,b)∈E->R b):∀(x:V) (l:List V),R x->(∀e∈q8 (x::l),e∈E)->∀X∈x::l,R X
 |x,[],f,_,X,d=>by rw[aBh.mp d];exact f
 |x,y::l,f,h,X,d=>by
  have k:=g x y f (h (x,y) (by simp[q8]));rcases aAd.mp d with rfl|d
  .exact f
  .exact oT g y l k (λe m=>h e (by simp only[q8,aAd];exact .inr m)) X d
theorem DM (k:IsFace J n d)(h:X∈k5 n (w8 n d c)):X∈k5 n (w8 n d J):=by
 have S:=k.aa2 ho;have s:=(kN hs ho de hc k).aa2 de;obtain⟨m,r,e,v,w⟩:=s.ab3;obtain⟨g,L,t,x,y⟩:=S.ab3;have A:m=g:=by
  have B:g∈w8 n d c:=jU hs ho de hc k (show g∈k5 n (w8 n d J)by rw[t];simp);rcases w g B with q|q
  .exact q.symm
  .rcases y m (ZK hs ho de hc v)with l|l
   .exact l
   .exact absurd (z6.add q l) (by
     have:(g-m)+(m-g)=0:=by apply ext<;>simp<;>lia
     rw[this];exactλz=>by simp[e9]at z)
 have step:∀a b,a∈k5 n (w8 n d J)->(a,b)∈N1 (k5 n<|w8 n d c)->b∈k5 n (w8 n d J):=λa b C o=>by obtain⟨N,u⟩:=bE S C;have H:=s.aa1.mp o;have I:=vH hs ho de hc k (S.aa1.mp u);rw[H.next I];exact(nF S u).2
 rw[e]at h;refine oT (E:=N1 (k5 n<|w8 n d c)) (R:=λX=>X∈k5 n (w8 n d J)) step m r (by rw[A,t];simp) (λf p=>?_) X h;rw[e,W4];exact iD r m m f p
theorem xG (f:IsFace J n d)(h:EdgeOf n (λX=>X∈w8 n d c) a b):EdgeOf n (λX=>X∈w8 n d J) a b:=by have S:=f.aa2 ho;have g:=(kN hs ho de hc f).aa2 de;have k:=DM hs ho de hc f (g.ac5 h);obtain⟨m,l⟩:=bE S k;have e:=S.aa1.mp l;rw[h.next (vH hs ho de hc f e)];exact e
theorem ES (p:IsFace J n d):j7 c:=by
 have S:=p.aa2 ho;obtain⟨r,s,t,l,e⟩:=W0 ho p;have N:r∈k5 n (w8 n d J):=by rw[e];simp
 have B:t∈k5 n (w8 n d J):=by rw[e];simp
 have x:=S.aa4;rw[e]at x;simp only[aAF,aAd,not_or]at x;have o:EdgeOf n (λX=>X∈w8 n d J) r s:=S.aa1.mp (by rw[e];simp[N1]);have st:=S.strict o B (λq=>x.1.2.1 q.symm) (λq=>x.2.1.1 q.symm);obtain⟨y,O⟩:=gG hs ho p o;generalize(b7 s r J).1=m at*
 generalize(b7 s r J).2=f at*
 have T:=y.aa2 ho;obtain⟨a,b,Q,l2,A⟩:=W0 ho y;have g:=T.aa4;rw[A]at g;simp only[aAF,aAd,not_or]at g;obtain⟨Y,C,y1,y2⟩:∃Y∈k5 m (w8 m f J),Y≠s/\Y≠r:=by
  have q1:a∈k5 m (w8 m f J):=by rw[A];simp
  have q2:b∈k5 m (w8 m f J):=by rw[A];simp
  have q3:Q∈k5 m (w8 m f J):=by rw[A];simp
  by_cases E:a≠s/\a≠r
  .exact⟨a,q1,E⟩
  .by_cases H:b≠s/\b≠r
   .exact⟨b,q2,H⟩
   .refine⟨Q,q3,λz=>?_,λz=>?_⟩
    .subst z;have I:a=r:=by
      by_cases h:a=r
      .exact h
      .exact absurd ⟨g.1.2.1,h⟩ E
     have L:b=r:=by
      by_cases h:b=r
      .exact h
      .exact absurd ⟨g.2.1.1,h⟩ H
     exact g.1.1 (I.trans L.symm)
    .subst z;have I:a=s:=by
      by_cases h:a=s
      .exact h
      .exact absurd ⟨h,g.1.2.1⟩ E
     have L:b=s:=by
      by_cases h:b=s
      .exact h
      .exact absurd ⟨h,g.2.1.1⟩ H
     exact g.1.1 (I.trans L.symm)
 have sY:=T.strict O C y1 y2;have lt:=MJ hs y p O o (T.aa3 C) sY;have k:=λ{X} (h:X∈k5 n (w8 n d J))=>jU hs ho de hc p (X:=X) h;have kY:=jU hs ho de hc y C;have U:s∈k5 n (w8 n d J):=by rw[e];simp
 have dr:=(d4.mp<|k N).2;have dss:=(d4.mp<|k U).2;have dt:=(d4.mp<|k B).2;refine⟨r,(d4.mp<|k N).1,s,(d4.mp<|k U).1,t,(d4.mp<|k B).1,Y,(d4.mp kY).1,λz=>?_⟩;have p1:c8 n (s-r)=0:=by rw[d8];lia
 have p2:c8 n (t-r)=0:=by rw[d8];lia
 have pY:c8 n (Y-r)<0:=by rw[d8];lia
 have id:f8 (s-r) (t-r) (Y-r)*c8 n n=f8 n (s-r) (t-r)*c8 n (Y-r)+c8 n (s-r)*(c8 n (t-r)*0)+(c8 n (s-r)*f8 n (t-r) (Y-r)+c8 n (t-r)*f8 n (Y-r) (s-r)):=by generalize s-r=u;generalize t-r=v;generalize Y-r=w;have:=MD n n u v w;simp[f8,c8]at this⊢;grind
 rw[z,p1,p2]at id;have:f8 n (s-r) (t-r)*c8 n (Y-r)<0:=aBe st pY
 lia
theorem SC (fs:List (V×Int))(m:fs≠[])(e:∀f,f∈fs↔IsFace J f.1 f.2):IsFace c n d↔IsFace J n d:=by
 refine⟨λh=>?_,kN hs ho de hc⟩;obtain⟨q,g⟩:=aFe fs m;have r:=ES hs ho de hc ((e q).mp g);have:=sQ r de fs m (λf k=>kN hs ho de hc ((e f).mp k)) (λf k a b l=>?_) h
 .exact(e _).mp this
 .have o:=(e f).mp k;obtain⟨p,s⟩:=gG hs ho o (xG hs ho de hc o l);exact⟨b7 b a J,(e _).mpr p,vH hs ho de hc p s⟩
theorem LM (b:X∈c):∃f:V×Int,IsFace c f.1 f.2/\X∈j9 c f:=by obtain⟨⟨n,d⟩,a,h⟩:=(hc X).mp b;have S:=a.aa2 ho;obtain⟨Q,e⟩:=bE S h;exact⟨(n,d),kN hs ho de hc a,((kN hs ho de hc a).aa2 de).ac5 (vH hs ho de hc a<|S.aa1.mp e)⟩
end
def YI {Pos:V->Prop}(C:Cone Pos){n m p v q u:V}(g:n≠0)(t:c8 n p=0)(d:c8 n v=0)(f:c8 n q=0)(w:c8 n u=0)(H:Pos p)(k:Pos v)(l:Pos q)(I:Pos u)(J:0<c8 m p)(mv:c8 m v<0)(o:0<c8 m q)(mu:c8 m u<0)(A:0<=f8 n v p)(B:0<=f8 n q u):False:=by
 have id:∀{a b c:V},c8 n a=0->c8 n b=0->c8 n c=0->f8 n a b*c8 m c+f8 n b c*c8 m a+f8 n c a*c8 m b=0:=λ{a b c} L N O=>by have:=MD m n a b c;rw[y7 g L N O,Int.zero_mul]at this;exact this
 have Q:=id d t f;have T:=id f w d;rcases aDw 0 (f8 n q v)with h|h
 .
  have r:=C.tr l k H (y7 g f d t) h A;have s:f8 n p q=-f8 n q p:=j8 n q p;rw[s]at Q;have U:0<=f8 n v p*c8 m q:=aBd A (aAJ o);have Y:0< -f8 n q p*c8 m v:=by have:=aAV r (show 0< -c8 m v by lia);grind
  have a3:0<f8 n q v*c8 m p:=aAV h J
  lia
 .rcases aDw (f8 n q v) 0 with h'|h'
  .have e0:f8 n v q=-f8 n q v:=j8 n q v;have E:0<f8 n v q:=by lia
   have r:=C.tr k l I (y7 g d f w) E B;have s:f8 n u v=-f8 n v u:=j8 n v u;rw[s]at T;have U:f8 n q u*c8 m v<=0:=by have:=aBd B (show 0<=-c8 m v by lia);grind
   have Y:-f8 n v u*c8 m q<0:=by have:=aAV r o;grind
   have a3:f8 n v q*c8 m u<0:=by have:=aAV E (show 0< -c8 m u by lia);grind
   lia
  .have z:f8 n q v=0:=by lia
   have c0:=X0 g f d z;have e:c8 m q*v+(-c8 m v)*q=0:=by have hx:=ll V.x c0;have hy:=ll V.y c0;have hz:=ll V.z c0;simp at hx hy hz;apply ext<;>simp[c8]<;>grind
   have:=C.add (C.mul o k) (C.mul (show 0< -c8 m v by lia) l);rw[e]at this;exact C.irr this
section
variable{n:V} {ts:List V} (S:Sheet n ts)
include S
theorem Sheet.ac7 (h:X∈x4 n ts\/X∈x4 n ts.reverse):X∈k5 n ts:=by
 obtain⟨m,M,c,d,l,o,f,p,q,b,e,g,k,r,s⟩:=S.ends;unfold k5;rw[aAN,b,e,aAM,aAM,aBr,aBr,aCx,aCx];rw[b,e]at h;have a:m≠M:=λz=>by subst z;exact G9 f
 rcases h with h|h
 .rcases aAd.mp h with rfl|h
  .right;have:=aCU k;rcases aAd.mp this with z|z
   .exact absurd z.symm a
   .exact z
  .exact .inl h
 .rcases aAd.mp h with rfl|h
  .left;have:=aCU g;rcases aAd.mp this with z|z
   .exact absurd z a
   .exact z
  .exact .inr h
theorem Sheet.top (c:X∈ts)(h:∀Y∈ts,Y≠X->c8 m Y<c8 m X):X∈k5 n ts:=by
 obtain⟨t,n1,t1⟩:=S.ab0;obtain⟨w,n2,t2⟩:=S.aa9;have x:∀u,e9 u->e9 (-u)->False:=λu y A=>by have:=z6.add y A;have B:u+-u=0:=ext (by simp;lia) (by simp;lia) (by simp;lia);rw[B]at this;exact z6.irr this
 have C:∀u,M8 u->M8 (-u)->False:=λu y A=>by have:=aO.add y A;have B:u+-u=0:=ext (by simp;lia) (by simp;lia) (by simp;lia);rw[B]at this;exact aO.irr this
 rcases nK X (x4 n ts) (λY _=>Q1 X Y) (λq E=>t1 X q E c) (λz H=>t.last X c z H) n1 x with I|⟨a,b,k,Q,T⟩
 .exact S.ac7 (.inl I)
 .rcases nK X (x4 n ts.reverse) (λY _=>by
    rcases Q1 X Y with z|z|z
    .exact .inl z
    .exact .inr (.inr (o8.mpr z))
    .exact .inr (.inl (o8.mpr z))) (λq E=>t2 X q E c) (λz H=>w.last X c z H) n2 C with I|⟨l,s,d,J,iu⟩
  .exact S.ac7 (.inr I)
  .exfalso;have U:=L3 S k;have m2:=L3 S d;have L:=t.mem _ U.1;have N:=t.mem _ U.2;have f:=w.mem _ m2.1;have g:=w.mem _ m2.2;have E1:=(S.ad7 k L N).1.left X c;have E2:=(S.ae1 d f g).1.left X c;have o:=o8.mp J;have xt:=o8.mp iu;have ne:∀{Y},e9 (X-Y)->Y≠X:=λO z=>by subst z;exact G9 O
   have r:∀{Y},e9 (Y-X)->Y≠X:=λO z=>by subst z;exact G9 O
   have va:=h a L (ne Q);have vb:=h b N (r T);have va':=h l f (r o);have vb':=h s g (ne xt);refine YI z6 (n:=n) (m:=m) (p:=X-a) (v:=b-X) (q:=X-s) (u:=l-X) S.nz (S.pl _ c _ L) (S.pl _ N _ c) (S.pl _ c _ g) (S.pl _ f _ c) Q T xt o (by rw[d8];lia) (by rw[d8];lia) (by rw[d8];lia) (by rw[d8];lia) ?_ ?_
   .have e:f8 n (b-a) (X-a)=f8 n (b-X) (X-a):=by simp[f8,c8];grind
    rw[<-e];exact E1
   .have e:f8 n (s-l) (X-l)=f8 n (X-s) (l-X):=by simp[f8,c8];grind
    rw[<-e];exact E2
end
section
variable{J:List V} (hs:j7 J)
include hs
theorem eN (a:IsFace J n d)(b:IsFace J m e)(g:c8 n X=d)(o:c8 m X=e)(h:cr m n=0):(n,d)=(m,e):=by
 obtain⟨k,l,c,f⟩:=v8 b.prim.ne h;obtain⟨Z,p,u⟩:=hs.below a.prim.ne a.sup;have r:0<l:=by
  have q:=ll (λv=>c8 v (Z-X)) f;rw[G7,G7]at q;have s:c8 n (Z-X)<0:=by rw[d8];lia
  have w:c8 m (Z-X)<=0:=by rw[d8];have:=b.sup Z p;lia
  have x:k*c8 n (Z-X)<0:=aBe c s;by_cases z:0<l
  .exact z
  .exfalso;have:0<=l*c8 m (Z-X):=by
    have:=aBd (show 0<=-l by lia) (show 0<=-c8 m (Z-X)by lia)
    rwa [aDu]at this
   lia
 have t:=mV a.prim b.prim c r f;subst t;rw[<-g,<-o]
theorem DI {a b c:Int}(p:IsFace J n d)(r:IsFace J m e)(s:IsFace J k f)(hX:c8 n X=d)(pg:c8 m X=e)(t:c8 k X=f)(hc:0<c)(u:0<a)(w:0<b)(h:c*k=a*n+b*m)(x:cr n m≠0):False:=by
 obtain⟨A,y,B,E,C,H,I,L,N,g⟩:=s.three;have l:∀Y∈J,c8 k Y=f->c8 n Y=d/\c8 m Y=e:=λY o hy=>by
  have h1:=p.sup Y o;have h2:=r.sup Y o;have q:=ll (λv=>c8 v (Y-X)) h;have q:c*c8 k (Y-X)=a*c8 n (Y-X)+b*c8 m (Y-X):=by
   have O:c8 (c*k) (Y-X)=c*c8 k (Y-X):=G7 ..;have Q:c8 (a*n+b*m) (Y-X)=a*c8 n (Y-X)+b*c8 m (Y-X):=by simp[c8];grind
   rw[<-O,<-Q];exact q
  have k0:c8 k (Y-X)=0:=by rw[d8];lia
  rw[k0,aDv]at q;have T:c8 n (Y-X)<=0:=by rw[d8];lia
  have U:c8 m (Y-X)<=0:=by rw[d8];lia
  have a0:a*c8 n (Y-X)<=0:=aDV (aAJ u) T;have b0:b*c8 m (Y-X)<=0:=aDV (aAJ w) U;have z1:a*c8 n (Y-X)=0:=by lia
  have z2:b*c8 m (Y-X)=0:=by lia
  have y1:c8 n (Y-X)=0:=by rcases aAs.mp z1 with z|z;lia;exact z
  have y2:c8 m (Y-X)=0:=by rcases aAs.mp z2 with z|z;lia;exact z
  rw[d8]at y1 y2;exact⟨by lia,by lia⟩
 obtain⟨a1,a2⟩:=l A y I;obtain⟨b1,b2⟩:=l B E L;obtain⟨c1,c2⟩:=l C H N;have p1:cr n (cr (B-A)<|C-A)=0:=E6 (by rw[d8];lia) (by rw[d8];lia);have p2:cr m (cr (B-A)<|C-A)=0:=E6 (by rw[d8];lia) (by rw[d8];lia);exact x (qF g p1 p2)
theorem tV (A:IsFace J n d)(B:IsFace J m e)(l:IsFace J k f)(E:c8 n X=d)(H:c8 m X=e)(I:c8 k X=f)(n12:(n,d)≠(m,e))(n13:(n,d)≠(k,f))(n23:(m,e)≠(k,f)):f8 n m k≠0:=λz=>by
 have L:cr n m≠0:=λq=>n12 (eN hs B A H E q).symm;have N:cr n k≠0:=λq=>n13 (eN hs l A I E q).symm;have O:cr m k≠0:=λq=>n23 (eN hs l B I H q).symm;have o:∀{u v:V},cr u v≠0->cr v u≠0:=λ{u v} h q=>h (by have Q:=ll V.x q;have g:=ll V.y q;have C:=ll V.z q;simp at Q g C;apply ext<;>simp<;>grind)
 obtain⟨w,ew⟩:∃w,w=cr n m:=⟨_,rfl⟩;have r:=EC w n m k;rw[z]at r;have T:0<f8 w n m:=by
  have:f8 w n m=c8 w w:=by rw[ew];rfl
  rw[this,ew];exact w6 L
 obtain⟨c,ec⟩:∃c,c=f8 w n m:=⟨_,rfl⟩;obtain⟨a,ea⟩:∃a,a=-f8 w m k:=⟨_,rfl⟩;obtain⟨b,eb⟩:∃b,b=-f8 w k n:=⟨_,rfl⟩;have Y:c*k=a*n+b*m:=by rw[ec,ea,eb];have Q:=ll V.x r;have g:=ll V.y r;have C:=ll V.z r;simp at Q g C;apply ext<;>simp<;>lia
 rw[<-ec]at T;have vx:=ll V.x Y;have vy:=ll V.y Y;have vz:=ll V.z Y;simp at vx vy vz;have p:∀{u v:V} {s t:Int},s≠0->s*u=t*v->cr u v=0:=λ{u v s t} ke h=>by
  have Q:=ll V.x h;have g:=ll V.y h;have C:=ll V.z h;simp at Q g C;have go:∀y:Int,s*y=0->y=0:=λy g=>by rcases aAs.mp g with q|q;exact absurd q ke;exact q
  apply ext<;>simp<;>apply go<;>grind
 rcases aDw 0 a with ha|ha
 .rcases aDw 0 b with U|U
  .exact DI hs A B l E H I T ha U Y L
  .rcases aDw b 0 with iu|iu
   .
    refine DI hs l B A I H E ha T (show 0< -b by lia) (c:=a) (a:=c) (b:=-b) ?_ (o O);apply ext<;>simp<;>lia
   .have b0:b=0:=by lia
    refine N (p (u:=n) (v:=k) (s:=a) (t:=c) (by lia) ?_);rw[b0]at vx vy vz;apply ext<;>simp<;>lia
 .rcases aDw a 0 with ha'|ha'
  .rcases aDw 0 b with U|U
   .refine DI hs l A B I E H U T (show 0< -a by lia) (c:=b) (a:=c) (b:=-a) ?_ (o N);apply ext<;>simp<;>lia
   .
    obtain⟨Z,hZ,C⟩:=hs.below l.prim.ne l.sup;have q:c*c8 k (Z-X)=a*c8 n (Z-X)+b*c8 m (Z-X):=by simp[c8];grind
    have k0:c8 k (Z-X)<0:=by rw[d8];lia
    have n0:c8 n (Z-X)<=0:=by rw[d8];have:=A.sup Z hZ;lia
    have m0:c8 m (Z-X)<=0:=by rw[d8];have:=B.sup Z hZ;lia
    have t1:c*c8 k (Z-X)<0:=aBe T k0;have t2:0<=a*c8 n (Z-X):=by
     have:=aBd (show 0<=-a by lia) (show 0<=-c8 n (Z-X)by lia)
     rwa [aDu]at this
    have t3:0<=b*c8 m (Z-X):=by
     have:=aBd (show 0<=-b by lia) (show 0<=-c8 m (Z-X)by lia)
     rwa [aDu]at this
    lia
  .have a0:a=0:=by lia
   by_cases b0:b=0
   .rw[a0,b0]at vx vy vz;have k0:k=0:=by
     have go:∀y:Int,c*y=0->y=0:=λy g=>by rcases aAs.mp g with q|q;lia;exact q
     apply ext<;>simp<;>apply go<;>lia
    exact l.prim.ne k0
   .refine O (p (u:=m) (v:=k) (s:=b) (t:=c) b0 ?_);rw[a0]at vx vy vz;apply ext<;>simp<;>lia
theorem BL (v:J.Pairwise (λa b=>e9 (b-a)))(w:X∈J)(c:IsFace J n d)(r:IsFace J m e)(s:IsFace J k f)(t:c8 n X=d)(x:c8 m X=e)(z:c8 k X=f)(g:(n,d)≠(m,e))(h:(n,d)≠(k,f))(l:(m,e)≠(k,f)):X∈j9 J (n,d):=by
 have o:=tV hs c r s t x z g h l;refine(c.aa2 v).top (m:=n+m+k) (d4.mpr ⟨w,t⟩) λY A B=>?_;have p:=(d4.mp A).1;have N:=c.sup Y p;have O:=r.sup Y p;have Q:=s.sup Y p;have u:∀Z,c8 (n+m+k) Z=c8 n Z+c8 m Z+c8 k Z:=λZ=>by simp[c8];grind
 rw[u,u];rcases aDw (c8 n Y+c8 m Y+c8 k Y) (c8 n X+c8 m X+c8 k X)with q|q
 .exact q
 .exfalso;have C:c8 n (Y-X)=0:=by rw[d8];lia
  have E:c8 m (Y-X)=0:=by rw[d8];lia
  have H:c8 k (Y-X)=0:=by rw[d8];lia
  refine B (L7 ?_);generalize Y-X=y at*
  have I:∀y:Int,f8 n m k*y=0->y=0:=λy L=>by rcases aAs.mp L with q|q;exact absurd q o;exact q
  simp[c8]at C E H;apply ext<;>simp<;>apply I<;>simp[f8,c8]<;>grind
end
def Up (J:List V)(A B C:V):Prop:=(∀X∈J,c8 (cr (B-A)<|C-A) (X-A)<=0)/\∃X∈J,c8 (cr (B-A)<|C-A) (X-A)<0
def Dn (J:List V)(A B C:V):Prop:=(∀X∈J,0<=c8 (cr (B-A)<|C-A) (X-A))/\∃X∈J,0<c8 (cr (B-A)<|C-A) (X-A)
def uW (A B C:V):cr (C-A) (B-A)=-cr (B-A) (C-A):=by apply ext<;>simp<;>grind
def GH {J:List V}{A B C:V}:Dn J A B C↔Up J A C B:=by
 have e:∀X:V,c8 (cr (C-A)<|B-A) X=-c8 (cr (B-A)<|C-A) X:=λX=>by rw[uW];simp[c8];grind
 constructor
 .rintro⟨h,X,a,l⟩;exact⟨λY b=>by have:=h Y b;rw[e];lia,X,a,by rw[e];lia⟩
 .rintro⟨h,X,a,l⟩;exact⟨λY b=>by have:=h Y b;rw[e]at this;lia,X,a,by rw[e]at l;lia⟩
def mR {J:List V}{A B C:V}(c:A∈J)(d:B∈J)(e:C∈J)(h:Up J A B C):IsFace J (d5 A B C).1 (d5 A B C).2:=by
 obtain⟨f,X,p,a⟩:=h;have ne:cr (B-A) (C-A)≠0:=λz=>by rw[z]at a;simp[c8]at a
 obtain⟨g,k,l,m,n⟩:=bR ne;have b:∀Y:V,c8 (cr (B-A)<|C-A) (Y-A)=g*(c8 (d5 A B C).1 Y-(d5 A B C).2):=λY=>by rw[n,l,G7,d8]
 have zero:∀Y:V,c8 (cr (B-A)<|C-A) (Y-A)=0->c8 (d5 A B C).1 Y=(d5 A B C).2:=λY h=>by rw[b]at h;rcases aAs.mp h with h|h<;>lia
 refine⟨m,λY o=>?_,A,c,B,d,C,e,zero A ?_,zero B ?_,zero C ?_,ne⟩
 .have:=f Y o;rw[b]at this;by_cases z:c8 (d5 A B C).1 Y<=(d5 A B C).2
  .exact z
  .have:=aAV k (show 0<c8 (d5 A B C).1 Y-(d5 A B C).2 by lia);lia
 .simp[c8]
 .simp[c8];grind
 .simp[c8];grind
def HC {J:List V}{n:V}{d:Int}(S:j7 J)(h:IsFace J n d){A B C:V}(hA:A∈J)(a:c8 n A=d)(b:c8 n B=d)(c:c8 n C=d)(m:0<c8 n (cr (B-A) (C-A))):Up J A B C/\d5 A B C=(n,d):=by
 have e:cr (B-A) (C-A)≠0:=λz=>by rw[z]at m;simp[c8]at m
 obtain⟨g,o,t,w,x⟩:=bR e;have p:cr n (cr (B-A)<|C-A)=0:=E6 (by rw[d8];lia) (by rw[d8];lia);obtain⟨k,l,u,r⟩:=v8 h.prim.ne p;have y:0<l:=by
  have q:=ll (c8 n) r;rw[t7,t7]at q;have:=aAV u m;have E:=w6 h.prim.ne;by_cases z:0<l
  .exact z
  .have:=aAY (show l<=0 by lia) (aAJ E);simp at this;lia
 rw[t]at r;have H:(k*g)*(d5 A B C).1=l*n:=by rw[<-r];apply ext<;>simp<;>grind
 have s:=mV w h.prim (aAV u o) y H;have I:(d5 A B C).2=d:=by rw[x,s];exact a
 have v:∀Y:V,c8 (cr (B-A)<|C-A) (Y-A)=g*(c8 n Y-d):=λY=>by rw[<-a,t,s,G7,d8]
 refine⟨⟨λX f=>?_,?_⟩,aFs s I⟩
 .rw[v];have:=aBd (aAJ o) (show 0<=d-c8 n X by have:=h.sup X f;lia);have L:g*(d-c8 n X)=-(g*(c8 n X-d)):=by grind
  lia
 .by_cases q:∃X∈J,c8 n X<d
  .obtain⟨X,f,l⟩:=q;refine⟨X,f,?_⟩;rw[v];have:=aAV o (show 0<d-c8 n X by lia);have L:g*(d-c8 n X)=-(g*(c8 n X-d)):=by grind
   lia
  .exfalso;have all:∀X∈J,c8 n X=d:=λX f=>by
    have:=h.sup X f;by_cases l:c8 n X<d
    .exact absurd ⟨X,f,l⟩ q
    .lia
   obtain⟨P,N,Q,O,R,U,T,hT,dz⟩:=S;have z:∀X∈J,c8 n (X-P)=0:=λX f=>by rw[d8,all X f,all P N];lia
   exact dz (y7 h.prim.ne (z Q O) (z R U)<|z T hT)
def DS {J:List V}{n:V}{d:Int}(S:j7 J)(h:IsFace J n d){A B C:V}(f:A∈J)(a:c8 n A=d)(b:c8 n B=d)(c:c8 n C=d)(e:cr (B-A) (C-A)≠0):(Up J A B C/\d5 A B C=(n,d))\/(Dn J A B C/\d5 A C B=(n,d)):=by
 by_cases z:0<c8 n (cr (B-A)<|C-A)
 .exact .inl (HC S h f a b c z)
 .have g:c8 n (cr (B-A)<|C-A)≠0:=λq=>e (X0 h.prim.ne (by rw[d8];lia) (by rw[d8];lia) q);have t:c8 n (cr (C-A)<|B-A)=-c8 n (cr (B-A)<|C-A):=by rw[uW];simp[c8];grind
  have:=HC S h f a c b (by lia);exact .inr ⟨GH.mpr this.1,this.2⟩
def qw (J:List V)(A B C:V):Prop:=∃i j k:Nat,i<j/\j<k/\J[i]?=some A/\J[j]?=some B/\J[k]?=some C
def TN {J:List V}{A B C:V}(E:A∈J)(H:B∈J)(I:C∈J)(e:cr (B-A) (C-A)≠0):∃r s t,qw J r s t/\cr (s-r) (t-r)≠0/\∀p:V->Prop,p A->p B->p C->p r/\p s/\p t:=by
 obtain⟨i,g⟩:=aBX.mp E;obtain⟨j,f⟩:=aBX.mp H;obtain⟨k,d⟩:=aBX.mp I;have l:∀{v w:V},v≠0->(w=v\/w=-v)->w≠0:=λ{v w} u h z=>by
  rcases h with h|h
  .exact u (h▸z)
  .rw[h]at z;have L:=ll V.x z;have N:=ll V.y z;have O:=ll V.z z;simp only[XR,XB,WK,R8,S7,S8]at L N O;exact u (ext (by simp only[R8];lia) (by simp only[S7];lia) (by simp only[S8];lia))
 have Q:i≠j:=λq=>by
  subst q;rw[g]at f;injection f with f;subst f
  exact e (by apply ext<;>simp)
 have T:i≠k:=λq=>by
  subst q;rw[g]at d;injection d with d;subst d
  exact e (by apply ext<;>simp)
 have U:j≠k:=λq=>by
  subst q;rw[f]at d;injection d with d;subst d
  exact e (by apply ext<;>simp<;>grind)
 rcases aEW Q with m|m<;>rcases aEW T with n|n<;>rcases aEW U with o|o
 .exact⟨A,B,C,⟨i,j,k,m,o,g,f,d⟩,e,λp a b c=>⟨a,b,c⟩⟩
 .exact⟨A,C,B,⟨i,k,j,n,o,g,d,f⟩,l e (.inr (by apply ext<;>simp<;>grind)),λp a b c=>⟨a,c,b⟩⟩
 .omega
 .exact⟨C,A,B,⟨k,i,j,n,m,d,g,f⟩,l e (.inl (by apply ext<;>simp<;>grind)),λp a b c=>⟨c,a,b⟩⟩
 .exact⟨B,A,C,⟨j,i,k,m,n,f,g,d⟩,l e (.inr (by apply ext<;>simp<;>grind)),λp a b c=>⟨b,a,c⟩⟩
 .omega
 .exact⟨B,C,A,⟨j,k,i,o,n,f,d,g⟩,l e (.inl (by apply ext<;>simp<;>grind)),λp a b c=>⟨b,c,a⟩⟩
 .exact⟨C,B,A,⟨k,j,i,o,m,d,f,g⟩,l e (.inr (by apply ext<;>simp<;>grind)),λp a b c=>⟨c,b,a⟩⟩
def IK {J:List V}(S:j7 J){n:V}{d:Int}:IsFace J n d↔∃A B C,qw J A B C/\((Up J A B C/\d5 A B C=(n,d))\/(Dn J A B C/\d5 A C B=(n,d))):=by
 constructor
 .intro h;obtain⟨A,m,B,o,C,p,a,b,c,e⟩:=h.three;obtain⟨q,r,s,t,u,v⟩:=TN m o p e;obtain⟨w,x,y⟩:=v (λX=>c8 n X=d) a b c;obtain⟨i,j,k,_,_,f,g,l⟩:=id t;exact⟨q,r,s,t,DS S h (aAk f) w x y u⟩
 .rintro⟨A,B,C,⟨i,j,k,_,_,f,g,l⟩,h|h⟩
  .have:=mR (aAk f) (aAk g) (aAk l) h.1;rw[h.2]at this;exact this
  .have:=mR (aAk f) (aAk l) (aAk g) (GH.mp h.1);rw[h.2]at this;exact this
abbrev T3:=V×V×V
def SY (r:T3)(v:V):V:=⟨c8 r.1 v,c8 r.2.1 v,c8 r.2.2 v⟩
def tr (r:T3):T3:=(⟨r.1.x,r.2.1.x,r.2.2.x⟩,⟨r.1.y,r.2.1.y,r.2.2.y⟩,⟨r.1.z,r.2.1.z,r.2.2.z⟩)
def wq (f:V->V)(r:T3):T3:=(f r.1,f r.2.1,f r.2.2)
def wR (r:T3):Int:=c8 r.1 (cr r.2.1 r.2.2)
def a2b:T3:=(⟨1,0,0⟩,⟨0,1,0⟩,⟨0,0,1⟩)
def a3l (r:T3):tr (tr r)=r:=rfl
def UO (r c:T3):wR (wq (SY r) c)=wR r*wR c:=by obtain⟨⟨a,b,t⟩,⟨d,e,f⟩,⟨g,h,i⟩⟩:=r;obtain⟨⟨j,k,l⟩,⟨m,n,o⟩,⟨p,q,s⟩⟩:=c;simp[wR,wq,SY,c8];grind
def UF (r:T3)(u v:V):SY r (u-v)=SY r u-SY r v:=by apply ext<;>simp[SY,c8]<;>grind
abbrev Mv:=T3×V
def cB (m:Mv)(P:V):V:=SY m.1 P+m.2
def WY:Mv:=(a2b,0)
def XJ (r:T3):Prop:=wR r=1\/wR r=-1
def pV (m:Mv)(P Q:V):cB m P-cB m Q=SY m.1 (P-Q):=by rw[UF];apply ext<;>simp[cB]<;>lia
def RL (m:Mv)(A B C D:V):f8 (cB m B-cB m A) (cB m C-cB m A) (cB m D-cB m A)=wR m.1*f8 (B-A) (C-A) (D-A):=by rw[pV,pV,pV];exact UO m.1 (B-A,C-A,D-A)
section
variable{J qts:List V} {m:Mv} {n:V} {d:Int}
end
section
def mX {k:Int}(b:0<k){u:V}:e9 (k*u)↔e9 u:=by
 have p:∀{a:Int},0<k*a↔0<a:=λ{a}=>⟨λh=>by
  by_cases z:0<a
  .exact z
  .have:=aAS (show a<=0 by lia) (aAJ b);simp at this;lia,λh=>aAV b h⟩
 have z:∀{a:Int},k*a=0↔a=0:=λ{a}=>⟨λh=>by rcases aAs.mp h with h|h<;>lia,λh=>by rw[h,aDv]⟩;simp[e9,p,z]
def fL {u:V}(h:e9 u):¬e9 (-u):=λa=>by simp[e9]at h a;lia
def LQ (u:V):u=0\/e9 u\/e9 (-u):=by
 by_cases h:u=0
 .exact .inl h
 .refine .inr ?_;by_cases a:u.x=0
  .by_cases b:u.y=0
   .by_cases c:u.z=0
    .exact absurd (ext a b c) h
    .simp[e9];lia
   .simp[e9];lia
  .simp[e9];lia
def SL {P Q X:V}{k l:Int}(g:0<k)(e:k*(X-P)=l*(Q-P))(ne:P≠Q):VT P Q X↔0<=l/\l<=k:=by
 have B:k*(Q-X)=(k-l)*(Q-P):=by have f:=ll V.x e;have d:=ll V.y e;have c:=ll V.z e;simp at f d c;apply ext<;>simp<;>grind
 have p:∀{a b:V},a-b=0->a=b:=λ{a b} h=>by have f:=ll V.x h;have d:=ll V.y h;have c:=ll V.z h;simp at f d c;exact ext (by lia) (by lia) (by lia)
 have n:∀{u w:V} {k l:Int},0<k->k*u=l*w->e9 w->((u=0\/e9 u)↔0<=l):=λ{u w k l} g e t=>by
  rcases Int.lt_trichotomy l 0 with m|m|m
  .have d:e9 (k*(-u)):=by
    have:k*(-u)=(-l)*w:=by have f:=ll V.x e;have d:=ll V.y e;have c:=ll V.z e;simp at f d c;apply ext<;>simp<;>grind
    rw[this];exact(mX (by lia)).mpr t
   have c:=(mX g).mp d;constructor
   .rintro(h|h)
    .subst h;simp[e9]at c
    .exact absurd c (fL h)
   .intro h;lia
  .subst m;refine⟨λ_=>aCj _,λ_=>.inl ?_⟩;have r:∀{a:Int},k*a=0->a=0:=λ{a} h=>by rcases aAs.mp h with h|h<;>lia
   exact ext (by simp only[R8];apply r;simpa using ll V.x e) (by simp only[S7];apply r;simpa using ll V.y e) (by simp only[S8];apply r;simpa using ll V.z e)
  .exact⟨λ_=>aAJ m,λ_=>.inr ((mX g).mp (by rw[e];exact(mX m).mpr t))⟩
 have v:∀{a b:V},(a=b)↔a-b=0:=λ{a b}=>⟨λh=>by subst h;apply ext<;>simp,p⟩;have A:∀{a b:V},(a=b)↔b-a=0:=λ{a b}=>⟨λh=>by subst h;apply ext<;>simp,λh=>(p h).symm⟩;unfold VT;rcases LQ (Q-P)with h|h|h
 .exact absurd (p h).symm ne
 .have s:¬e9 (P-Q):=by
   have:P-Q=-(Q-P):=by apply ext<;>simp<;>grind
   rw[this];exact fL h
  have a:=n g e h;have b:=n g B h;rw[v (a:=X) (b:=P),A (a:=X) (b:=Q)];constructor
  .intro w;exact⟨a.mp (w.1 h).1,by have:=b.mp (w.1 h).2;lia⟩
  .intro w;exact⟨λ_=>⟨a.mpr w.1,b.mpr (by lia)⟩,λq=>absurd q s⟩
 .have C:P-Q=-(Q-P):=by apply ext<;>simp<;>grind
  have o:e9 (P-Q):=by rw[C];exact h
  have s:¬e9 (Q-P):=λq=>fL q h;have E:k*(P-X)=l*(P-Q):=by have f:=ll V.x e;have d:=ll V.y e;have c:=ll V.z e;simp at f d c;apply ext<;>simp<;>grind
  have H:k*(X-Q)=(k-l)*(P-Q):=by have f:=ll V.x e;have d:=ll V.y e;have c:=ll V.z e;simp at f d c;apply ext<;>simp<;>grind
  have a:=n g E o;have b:=n g H o;rw[A (a:=X) (b:=P),v (a:=X) (b:=Q)];constructor
  .intro w;exact⟨a.mp (w.2 o).1,by have:=b.mp (w.2 o).2;lia⟩
  .intro w;exact⟨λq=>absurd q s,λ_=>⟨a.mpr w.1,b.mpr (by lia)⟩⟩
end
section
variable{J qts:List V} {n:V} {d:Int}
end
structure Sl where
 a:Int
 b:Int
 c:Int
 w:V
 t:Bool
def Sl.put (s:Sl)(P:V):V:=
 let x:=P.x+s.a*P.y
 let y:=P.y+s.b*P.z
 let z:=P.z+s.c*x
 if s.t then⟨y+s.w.x,x+s.w.y,z+s.w.z⟩else⟨x+s.w.x,y+s.w.y,z+s.w.z⟩
def Sl.mv (s:Sl):Mv:=
 let d:V:=⟨1,s.a,0⟩
 let e:V:=⟨0,1,s.b⟩
 let f:V:=⟨s.c,s.c*s.a,1⟩
 (if s.t then(e,d,f)else(d,e,f),s.w)
def Sl.ad8 (s:Sl)(P:V):s.put P=cB s.mv P:=by obtain⟨a,b,c,w,t⟩:=s;cases t<;>apply ext<;>simp[Sl.put,Sl.mv,cB,SY,c8]<;>grind
def Sl.unit (s:Sl):XJ s.mv.1:=by
 obtain⟨a,b,c,w,t⟩:=s;cases t
 .left;simp[Sl.mv,wR,c8,cr];try grind
 .right;simp[Sl.mv,wR,c8,cr];try grind
def NF {m:Mv}(h:XJ m.1){J a:List V}(b:∀X∈J,cB m X∈a)(S:j7 J):j7 a:=by
 obtain⟨A,c,B,d,C,f,D,g,e⟩:=S;refine⟨_,b A c,_,b B d,_,b C f,_,b D g,?_⟩;rw[RL];intro z;rcases aAs.mp z with z|z
 .rcases h with h|h<;>lia
 .exact e z
def zM (P:V){J:List V}(h:P∈J):j7 (J++[⟨P.x+1,P.y,P.z⟩,⟨P.x,P.y+1,P.z⟩,⟨P.x,P.y,P.z+1⟩]):=by
 refine⟨P,by simp[h],⟨P.x+1,P.y,P.z⟩,by simp,⟨P.x,P.y+1,P.z⟩,by simp,⟨P.x,P.y,P.z+1⟩,by simp,?_⟩;have:f8 ((⟨P.x+1,P.y,P.z⟩:V)-P) (⟨P.x,P.y+1,P.z⟩-P) (⟨P.x,P.y,P.z+1⟩-P)=1:=by simp[f8,c8,cr];try grind
 rw[this];decide
def nT {P:V}{J:List V}(h:P∈J):j7 J↔∃u∈J,∃v∈J,cr (u-P) (v-P)≠0/\∃w∈J,c8 (cr (u-P) (v-P)) (w-P)≠0:=by
 have f:∀u v w:V,f8 w u v=c8 (cr u v) w:=λu v w=>by simp[f8,c8,cr];grind
 have g:∀u v w:V,f8 w u v=f8 u v w:=λu v w=>by simp[f8,c8,cr];grind
 constructor
 .rintro⟨A,a,B,b,C,c,D,d,e⟩;have id:f8 (B-A) (C-A) (D-A)=f8 (B-P) (C-P) (D-P)-f8 (A-P) (C-P) (D-P)+f8 (A-P) (B-P) (D-P)-f8 (A-P) (B-P) (C-P):=by simp[f8,c8,cr];grind
  have mk:∀{X Y Z:V},X∈J->Y∈J->Z∈J->f8 (X-P) (Y-P) (Z-P)≠0->∃u∈J,∃v∈J,cr (u-P) (v-P)≠0/\∃w∈J,c8 (cr (u-P)<|v-P) (w-P)≠0:=λ{X Y Z} k l m q=>by rw[<-g,f]at q;exact⟨X,k,Y,l,λz=>q (by rw[z];simp[c8]),Z,m,q⟩
  by_cases n:f8 (B-P) (C-P) (D-P)=0
  .by_cases o:f8 (A-P) (C-P) (D-P)=0
   .by_cases p:f8 (A-P) (B-P) (D-P)=0
    .exact mk a b c (by lia)
    .exact mk a b d p
   .exact mk a c d o
  .exact mk b c d n
 .rintro⟨u,r,v,s,_,w,t,q⟩;exact⟨P,h,u,r,v,s,w,t,by rw[<-g,f];exact q⟩
def qT {n m k y:V}(a:f8 n m k≠0)(c:c8 n y=0)(d:c8 m y=0)(g:c8 k y=0):y=0:=by
 have h:∀t:Int,f8 n m k*t=0->t=0:=λt l=>by
  rcases aAs.mp l with q|q
  .exact absurd q a
  .exact q
 have e:∀f:V->Int,(f=(·.x)\/f=(·.y)\/f=(·.z))->f8 n m k*f y=c8 n y*f (cr m k)+c8 m y*f (cr k n)+c8 k y*f (cr n m):=λf b=>by rcases b with rfl|rfl|rfl<;>simp[f8,c8,cr]<;>grind
 have z:∀f:V->Int,(f=(·.x)\/f=(·.y)\/f=(·.z))->f y=0:=λf b=>h _ (by rw[e f b,c,d,g];simp);exact ext (z _<|.inl rfl) (z _<|.inr (.inl rfl)) (z _<|.inr (.inr rfl))
def SF {a b p q d:Int}(c:0<a)(f:0<b)(h:p<=d)(k:q<=d)(e:(a+b)*d=a*p+b*q):p=d:=by
 have l:=aBd (aAJ c) (show 0<=d-p by lia);have m:=aBd (aAJ f) (show 0<=d-q by lia);have n:a*(d-p)+b*(d-q)=0:=by
  have:a*(d-p)+b*(d-q)=(a+b)*d-(a*p+b*q):=by grind
  lia
 have g:a*(d-p)=0:=by
  clear e;generalize a*(d-p)=u at*
  generalize b*(d-q)=v at*
  lia
 rcases aAs.mp g with q|q<;>lia
section
variable{J:List V} (hs:j7 J) (ho:J.Pairwise (λa b=>e9 (b-a)))
include hs ho
theorem pK (f:IsFace J n d)(t:X∈j9 J (n,d))(u:P∈J)(v:Q∈J){a b:Int}(w:0<a)(x:0<b)(e:(a+b)*X=a*P+b*Q):P=X:=by
 obtain⟨B,C,k,l,y,z,A,o,p,r⟩:=iH hs ho f t;have g:∀{m:V} {c:Int},IsFace J m c->c8 m X=c->c8 m (P-X)=0:=λ{m c} h s=>by have q:=ll (c8 m) e;rw[t7,show c8 m (a*P+b*Q)=a*c8 m P+b*c8 m Q by simp[c8];grind,s]at q;rw[d8,s,SF w x (h.sup P u) (h.sup Q v) q];lia
 exact L7 (qT (tV hs f k l o p r y z A) (g f o) (g k p)<|g l r)
end
section
variable{J:List V} (hs:j7 J) (ho:J.Pairwise (λa b=>e9 (b-a)))
include hs ho
theorem KQ {P Q n m:V}{d e:Int}(Y:∃f:V×Int,IsFace J f.1 f.2/\P∈j9 J f)(hQ:∃f:V×Int,IsFace J f.1 f.2/\Q∈j9 J f)(ne:P≠Q)(H:IsFace J n d)(hg:IsFace J m e)(nm:(n,d)≠(m,e))(p1:c8 n P=d)(p2:c8 m P=e)(q1:c8 n Q=d)(q2:c8 m Q=e):EdgeOf n (λX=>X∈w8 n d J) P Q\/EdgeOf n (λX=>X∈w8 n d J) Q P:=by
 have o:∀{X:V},(∃f:V×Int,IsFace J f.1 f.2/\X∈j9 J f)->X∈J:=λ{X} ⟨f,H,c⟩=>(d4.mp<|(H.aa2 ho).aa3 c).1;have ex:∀{X A B:V} {a b:Int},(∃f:V×Int,IsFace J f.1 f.2/\X∈j9 J f)->A∈J->B∈J->0<a->0<b->(a+b)*X=a*A+b*B->A=X:=λ⟨f,H,c⟩ hA hB ha hb e=>pK hs ho H c hA hB ha hb e;have cn:cr n m≠0:=λz=>nm (eN hs hg H p2 p1 z).symm;have un:Q-P≠0:=λz=>ne (L7 z).symm;have u1:c8 n (Q-P)=0:=by rw[d8];lia
 have u2:c8 m (Q-P)=0:=by rw[d8];lia
 have N:∀a b:V,c8 a b=c8 b a:=λa b=>by simp[c8];grind
 have cz:cr (cr n m) (Q-P)=0:=by have:=E6 (n:=Q-P) (u:=n) (v:=m) (by rw[N];exact u1) (by rw[N];exact u2);have p:=ll V.x this;have r:=ll V.y this;have t:=ll V.z this;simp at p r t;apply ext<;>simp<;>grind
 obtain⟨k,l,hk,L⟩:=v8 (a:=cr n m) (w:=Q-P) cn cz;have nn:0<c8 n n:=w6 H.prim.ne;have key:∀w:V,c8 n w=0->k*f8 n (Q-P) w=-l*(c8 n n*c8 m w):=λw hw=>by
  have a1:k*f8 n (Q-P) w=f8 n (k*(Q-P)) w:=by simp[f8,c8];grind
  have a2:f8 n (l*cr n m) w=l*(c8 n m*c8 n w-c8 n n*c8 m w):=by simp[f8,c8];grind
  rw[a1,L,a2,hw];grind
 have onl:∀X∈J,c8 n X=d->c8 m X=e->VT P Q X:=λX c x1 x2=>by
  have w1:c8 n (X-P)=0:=by rw[d8];lia
  have w2:c8 m (X-P)=0:=by rw[d8];lia
  have wz:cr (Q-P) (X-P)=0:=by
   have:=E6 (n:=X-P) (u:=n) (v:=m) (by rw[N];exact w1) (by rw[N];exact w2);have wc:cr (cr n m) (X-P)=0:=by have p:=ll V.x this;have r:=ll V.y this;have t:=ll V.z this;simp at p r t;apply ext<;>simp<;>grind
   obtain⟨O,l',kg,e'⟩:=v8 (a:=cr n m) (w:=X-P) cn wc;have z:(k*O)*cr (Q-P) (X-P)=0:=by
    have:(k*O)*cr (Q-P) (X-P)=cr (k*(Q-P)) (O*(X-P)):=by apply ext<;>simp<;>grind
    rw[this,L,e'];apply ext<;>simp<;>grind
   have kk:0<k*O:=aAV hk kg;have p:=ll V.x z;have r:=ll V.y z;have t:=ll V.z z;simp only[AM,xV,xO,R8,S7,S8]at p r t;exact ext ((aAs.mp p).resolve_left (by lia)) ((aAs.mp r).resolve_left (by lia)) ((aAs.mp t).resolve_left (by lia))
  obtain⟨k2,T,E,U⟩:=v8 (a:=Q-P) (w:=X-P) un wz;have ex1:=ll V.x U;have ey1:=ll V.y U;have ez1:=ll V.z U;simp at ex1 ey1 ez1;rw[SL E U ne];constructor
  .by_cases z:0<=T
   .exact z
   .exact absurd (ex Y (o hQ) c (show 0< -T by lia) E (by apply ext<;>simp<;>grind)).symm ne
  .by_cases z:T<=k2
   .exact z
   .exact absurd (ex hQ (o Y) c (show 0<T-k2 by lia) E (by apply ext<;>simp<;>grind)) ne
 have g:∀X∈w8 n d J,k*f8 n (Q-P) (X-P)=-l*(c8 n n*c8 m (X-P))/\c8 m (X-P)<=0/\(c8 m (X-P)=0->VT P Q X):=λX c=>by obtain⟨x0,x1⟩:=d4.mp c;have s:=hg.sup X x0;refine⟨key _ (by rw[d8];lia),by rw[d8];lia,λz=>onl X x0 x1 (by rw[d8]at z;lia)⟩
 have oP:P∈w8 n d J:=d4.mpr ⟨o Y,p1⟩;have oQ:Q∈w8 n d J:=d4.mpr ⟨o hQ,q1⟩;have l0:l≠0:=λz=>by subst z;have p:=ll V.x L;have r:=ll V.y L;have t:=ll V.z L;simp only[AM,xV,xO,Int.zero_mul]at p r t;exact un (ext ((aAs.mp p).resolve_left (by lia)) ((aAs.mp r).resolve_left (by lia)) ((aAs.mp t).resolve_left (by lia)))
 have C:∀{x:Int},0<=k*x->0<=x:=λ{x} h=>by
  by_cases z:0<=x
  .exact z
  .have:=aBe hk (show x<0 by lia)
   lia
 have zero:∀X∈w8 n d J,f8 n (Q-P) (X-P)=0->VT P Q X:=λX c z=>by
  obtain⟨I,s2,s3⟩:=g X c;rw[z,aDv]at I;refine s3 ?_;rcases aAs.mp I.symm with q|q
  .lia
  .rcases aAs.mp q with q|q<;>lia
 rcases Int.lt_trichotomy l 0 with q|q|q
 .refine .inr ⟨oQ,oP,ne.symm,λX c=>?_,λX c z=>?_⟩
  .obtain⟨I,s2,s3⟩:=g X c;have e1:f8 n (P-Q) (X-Q)=-f8 n (Q-P) (X-P):=by simp[f8,c8];grind
   have:=aBd (show 0<=-l by lia) (aBd (aAJ nn) (show 0<=-c8 m (X-P)by lia));rw[e1];refine C ?_;rw[aFt,I];rw[aFt,aFt]at this;exact this
  .have e1:f8 n (P-Q) (X-Q)=-f8 n (Q-P) (X-P):=by simp[f8,c8];grind
   exact(zero X c (by lia)).symm
 .exact absurd q l0
 .refine .inl ⟨oP,oQ,ne,λX c=>?_,λX c z=>zero X c z⟩;obtain⟨I,s2,s3⟩:=g X c;have:=aBd (show 0<=l by lia) (aBd (aAJ nn) (show 0<=-c8 m (X-P)by lia));refine C ?_;rw[I,Int.neg_mul];rw[aFt,aFt]at this;exact this
theorem BM {a b n:V}{d:Int}(f:IsFace J n d)(h:EdgeOf n (λX=>X∈w8 n d J) a b):∃m e,IsFace J m e/\(n,d)≠(m,e)/\c8 m a=e/\c8 m b=e:=by obtain⟨g,c⟩:=gG hs ho f h;refine⟨_,_,g,λe=>?_,(d4.mp c.q).2,(d4.mp c.p).2⟩;have:(n,d)=b7 b a J:=e;rw[<-this]at c;exact eS hs ho f h c
end
end G
namespace ST
open PySem PySem.SetTable
def HY (Y:Array Nat):Prop:=∀(i k:Nat) (a:i<Y.size) (b:k<Y.size),i<k->Y[i]<Y[k]
theorem vG (Y:Array Nat)(j:Nat)(c:HY Y):∀(a lo b:Nat),lo<=b->b<=Y.size->b-lo<=a->(∀i (h:i<Y.size),i<lo->Y[i]<j)->(∀i (h:i<Y.size),b<=i->j<=Y[i])->
  below.go Y j a lo b<=Y.size/\(∀i (h:i<Y.size),i<below.go Y j a lo b->Y[i]<j)/\(∀i (h:i<Y.size),below.go Y j a lo b<=i->j<=Y[i])
 |0,lo,b,n,d,o,f,g=>by
  have:lo=b:=by lia
  subst this;unfold below.go;exact⟨d,f,g⟩
 |a+1,lo,b,n,d,o,f,g=>by
  unfold below.go;by_cases m:lo<b
  .rw[kd m];have l:(lo+b)/2<Y.size:=by lia
   have e:Y.getD ((lo+b)/2) j=Y[(lo+b)/2]:=by simp[aFj,l]
   dsimp only;rw[e];by_cases k:Y[(lo+b)/2]<j
   .rw[kd k];refine vG Y j c a _ _ (by lia) d (by lia) (λi h p=>?_) g;by_cases q:i=(lo+b)/2
    .subst q;exact k
    .exact aGG (c i _ h l (by lia)) k
   .rw[kz k];refine vG Y j c a _ _ (by lia) (by lia) (by lia) f (λi h p=>?_);by_cases q:i=(lo+b)/2
    .subst q;lia
    .have:=c _ i l h (by lia);lia
  .rw[kz m];have:lo=b:=by lia
   subst this;exact⟨d,f,g⟩
def bH (a:HY Y)(j:Nat):below Y j<=Y.size/\(∀i (h:i<Y.size),i<below Y j->Y[i]<j)/\(∀i (h:i<Y.size),below Y j<=i->j<=Y[i]):=
 vG Y j a Y.size 0 Y.size (aBb _) (aAh _) (by lia) (λi h b=>by lia) (λi h b=>by lia)
def MV (a:HY Y)(h:Y[i]?=some j):below Y j=i:=by
 obtain⟨b,e⟩:=aCh.mp h;obtain⟨g,d,f⟩:=bH a j;rcases Nat.lt_trichotomy (below Y j) i with q|q|q
 .have c:below Y j<Y.size:=by lia
  have k:=f _ c (aAh _);have l:=a _ _ c b q
  lia
 .exact q
 .have:=d i b q;lia
structure Tab (t:SetTable):Prop where
 asc:HY t.place
 le:∀j∈t.place.toList,j<=t.mask
 nod:t.dummies=#[]
def L4 (T:Tab t)(h:t.place[i]?=some j):t.slot j=.live i:=by unfold slot;rw[MV T.asc h];dsimp only;rw[h];simp
def DW (T:Tab t)(h:j∉t.place.toList):t.slot j=.empty:=by
 unfold slot;have a:¬(t.place[below t.place j]?==some j)=true:=λz=>h (by have:=beq_iff_eq.mp z;obtain⟨b,e⟩:=aCh.mp this;rw[<-e];simp)
 dsimp only;rw[kz a,T.nod];rw[kz (by unfold has;simp)]
def DY (T:Tab t)(j:Nat):(t.slot j=.empty/\j∉t.place.toList)\/∃i,t.slot j=.live i/\t.place[i]?=some j:=by
 by_cases h:j∈t.place.toList
 .obtain⟨i,a,e⟩:=aBj h;have:t.place[i]?=some j:=by rw[<-aAC,aAg a,e]
  exact .inr ⟨i,L4 T this,this⟩
 .exact .inl ⟨DW T h,h⟩
def RT (mask:Nat)(p:Probe):Probe:=if p.more>0 then{p with j:=p.j+1,more:=p.more-1}else{p with j:=(leap mask p.i p.perturb).1,more:=runEnd mask (leap mask p.i p.perturb).1-(leap mask p.i p.perturb).1,i:=(leap mask p.i p.perturb).1,perturb:=(leap mask p.i p.perturb).2}
def nQ (t:gc)(p:Probe):t.advance p=RT t.mask p:=rfl
def start (mask:Nat)(h:Int):Probe:={j:=bits h%(mask+1),more:=runEnd mask (bits h%(mask+1))-bits h%(mask+1),i:=bits h%(mask+1),perturb:=bits h,dummy:=none}
def l9 (mask:Nat)(h:Int):Nat->Probe
 |0=>start mask h
 |n+1=>RT mask (l9 mask h n)
theorem oD (mask:Nat)(h:Int):∀n,(l9 mask h n).dummy=none
 |0=>rfl
 |n+1=>by have:=oD mask h n;show(RT mask _).dummy=none;unfold RT;split<;>exact this
def D2 (mask:Nat)(h:Int):Nat->Nat×Nat
 |0=>(bits h%(mask+1),bits h)
 |k+1=>leap mask (D2 mask h k).1 (D2 mask h k).2
def len (mask i:Nat):Nat:=runEnd mask i-i
def ZR (mask i:Nat):len mask i<=9:=by unfold len runEnd;split<;>lia
def off (mask:Nat)(h:Int):Nat->Nat
 |0=>0
 |k+1=>off mask h k+len mask (D2 mask h k).1+1
theorem NO (mask:Nat)(h:Int):∀k,off mask h k<=10*k
 |0=>aAh _
 |k+1=>by have:=NO mask h k;have:=ZR mask (D2 mask h k).1;show off mask h k+_+1<=_;lia
theorem W2 (mask:Nat)(h:Int):∀k r,r<=len mask (D2 mask h k).1->
  l9 mask h (off mask h k+r)={j:=(D2 mask h k).1+r,more:=len mask (D2 mask h k).1-r,i:=(D2 mask h k).1,perturb:=(D2 mask h k).2,dummy:=none}
 |0,0,_=>rfl
 |0,r+1,b=>by
  have a:=W2 mask h 0 r (by lia);have e:off mask h 0+(r+1)=(off mask h 0+r)+1:=by lia
  rw[e,l9,a];unfold RT;rw[kd (show len mask (D2 mask h 0).1-r>0 by lia)];simp
  lia
 |k+1,0,_=>by have a:=W2 mask h k (len mask (D2 mask h k).1) (aAh _);have e:off mask h (k+1)+0=(off mask h k+len mask (D2 mask h k).1)+1:=rfl;rw[e,l9,a];unfold RT;rw[kz (by simp)];simp[D2,len]
 |k+1,r+1,b=>by
  have a:=W2 mask h (k+1) r (by lia);have e:off mask h (k+1)+(r+1)=(off mask h (k+1)+r)+1:=by lia
  rw[e,l9,a];unfold RT;rw[kd (show len mask (D2 mask h<|k+1).1-r>0 by lia)];simp
  lia
def LZ (mask:Nat)(h:Int)(k:Nat):(l9 mask h (off mask h k)).j=(D2 mask h k).1:=by have:=W2 mask h k 0 (aBb _);rw[Nat.add_zero]at this;rw[this];rfl
theorem jF (mask:Nat)(h:Int):∀k,(D2 mask h k).2<2^64/32^k+1
 |0=>by
  show bits h<_;unfold bits;have:=Int.emod_lt_of_pos h (show(0:Int)<2^64 by decide)
  lia
 |k+1=>by
  have a:=jF mask h k;show(D2 mask h k).2/32<_;have e:∀N,N/32^(k+1)=N/32^k/32:=λN=>by rw[Nat.div_div_eq_div_mul];rfl
  rw[e]
  lia
theorem sH (mask:Nat)(h:Int):∀k,(D2 mask h (13+k)).2=0
 |0=>by have:=jF mask h 13;simp at this;exact this
 |k+1=>by have:=sH mask h k;show(D2 mask h<|13+k).2/32=0;rw[this]
def lcg (m:Nat)(i:Nat):Nat:=(i*5+1)%m
def iter (m:Nat):Nat->Nat->Nat
 |0,i=>i
 |n+1,i=>lcg m (iter m n i)
theorem oB (mask:Nat)(h:Int):∀k,(D2 mask h (13+k)).1=iter (mask+1) k (D2 mask h 13).1
 |0=>rfl
 |k+1=>by have a:=oB mask h k;show((D2 mask h<|13+k).1*5+1+(D2 mask h<|13+k).2/32)%(mask+1)=_;rw[sH,a];rfl
theorem iN (m:Nat):∀a b i,iter m (a+b) i=iter m a (iter m b i)
 |0,b,i=>by rw[aDR];rfl
 |a+1,b,i=>by rw[show a+1+b=(a+b)+1 by lia];show lcg m _=lcg m _;rw[iN m a b i]
def mD (m:Nat):Prop:=iter m m 0=0/\∀j<m,∃n<m,iter m n 0=j
def uH (F:mD m)(e:i<m)(f:j<m):∃n<m,iter m n i=j:=by
 obtain⟨a,g,c⟩:=F.2 i e;obtain⟨b,k,d⟩:=F.2 j f;by_cases h:a<=b
 .exact⟨b-a,by lia,by rw[<-c,<-iN,show b-a+a=b by lia,d]⟩
 .refine⟨b+(m-a),by lia,?_⟩;rw[<-c,<-iN,show b+(m-a)+a=b+m by lia,iN,F.1,d]
instance(m:Nat):Decidable (mD m):=inferInstanceAs (Decidable<|_/\_)
def lq:mD 8:=by decide+kernel
def aq:mD 32:=by decide+kernel
def VS:mD 128:=by decide+kernel
theorem GP (mask:Nat)(h:Int):∀k,(D2 mask h k).1<mask+1
 |0=>aDS _ (by lia)
 |k+1=>aDS _ (by lia)
def CC {mask:Nat}(F:mD (mask+1))(h:Int){j:Nat}(a:j<=mask):∃n,n<=10*(mask+14)/\(l9 mask h n).j=j:=by
 obtain⟨k,b,e⟩:=uH F (GP mask h 13) (show j<mask+1 by lia);refine⟨off mask h (13+k),?_,?_⟩
 .have:=NO mask h (13+k);lia
 .rw[LZ,oB,e]
def wF {α β:Type}{l:List α}{m:List β}{p:Nat}{a:α×β}(h:a∈(l.take p).zip (m.take p)):a∈l.zip m:=by
 obtain⟨i,b⟩:=aBX.mp h;rw[aBE]at b;refine aAk (i:=i) ?_;rw[aBE];have q:∀{γ:Type} {l:List γ} {c:γ},(l.take p)[i]?=some c->l[i]?=some c:=λ{γ l c} h=>by
  rw[List.getElem?_take]at h;split at h
  .exact h
  .cases h
 exact⟨q b.1,q b.2⟩
def wS {α β:Type}{l:List α}{m:List β}{p:Nat}{a:α×β}(h:a∈(l.drop p).zip (m.drop p)):a∈l.zip m:=by obtain⟨i,b⟩:=aBX.mp h;rw[aBE,List.getElem?_drop,List.getElem?_drop]at b;refine aAk (i:=p+i) ?_;rw[aBE];exact b
theorem FW (mask:Nat)(h:Int):∀n,(l9 mask h n).j+(l9 mask h n).more<=mask
 |0=>by have:=aDS (bits h) (show 0<mask+1 by lia);show bits h%(mask+1)+(runEnd mask (bits h%(mask+1))-bits h%(mask+1))<=mask;unfold runEnd;split<;>lia
 |n+1=>by
  have a:=FW mask h n;show(RT mask<|l9 mask h n).j+(RT mask<|l9 mask h n).more<=mask;unfold RT;split
  .dsimp only;lia
  .dsimp only;have:(leap mask (l9 mask h n).i (l9 mask h n).perturb).1<mask+1:=aDS _ (by lia);unfold runEnd;split<;>lia
def uP (mask:Nat)(h:Int)(n:Nat):(l9 mask h n).j<=mask:=by have:=FW mask h n;lia
theorem Q3 {α:Type}[DecidableEq α]:∀{l m:List α},l.Nodup->(∀x∈l,x∈m)->l.length<=m.length
 |[],_,_,_=>aBb _
 |x::l,m,h,a=>by
  have b:=a x (by simp);have c:=aAF.mp h;have:=Q3 (l:=l) (m:=m.erase x) c.2 (λy d=>by
   have ne:y≠x:=λe=>by subst e;exact c.1 d
   exact(aFX ne).mpr (a y<|aAe _ d))
  rw[aFi b]at this;have:0<m.length:=aEf b;simp only[aAv]
  lia
def HK {t:gc}(h:t.place.size<=t.mask):∃j≤t.mask,j∉t.place.toList:=by
 by_cases z:∃j≤t.mask,j∉t.place.toList
 .exact z
 .exfalso;have:=Q3 (l:=aBF (t.mask+1)) (m:=t.place.toList) List.nodup_range (λj a=>by
   by_cases q:j∈t.place.toList
   .exact q
   .exact absurd ⟨j,by have:=aCB.mp a;lia,q⟩ z)
  simp at this
  lia
theorem least {P:Nat->Prop}[DecidablePred P]:∀n,P n->∃m≤n,P m/\∀k<m,¬P k
 |0,h=>⟨0,aAh _,h,λk b=>by lia⟩
 |n+1,h=>by
  by_cases z:∃k≤n,P k
  .obtain⟨k,b,a⟩:=z;obtain⟨m,e,c,d⟩:=least k a;exact⟨m,by lia,c,d⟩
  .exact⟨n+1,aAh _,h,λk b a=>z ⟨k,by lia,a⟩⟩
termination_by n=>n
def V0 (t:gc)(h:Int)(n0:Nat):Prop:=n0<=10*(t.mask+14)/\(l9 t.mask h n0).j∉t.place.toList/\∀m<n0,(l9 t.mask h m).j∈t.place.toList
def DV {t:gc}(F:mD (t.mask+1))(a:t.place.size<=t.mask)(h:Int):∃n0,V0 t h n0:=by obtain⟨j,b,c⟩:=HK a;obtain⟨n,l,d⟩:=CC F h b;obtain⟨m,o,e,f⟩:=least (P:=λn=>(l9 t.mask h n).j∉t.place.toList) n (by rw[d];exact c);exact⟨m,by lia,e,λk g=>by have:=f k g;simpa using this⟩
theorem xS (T:Tab t)(hashAt:Nat->Int)(h:Int)(k:V0 t h n0):∀(c n:Nat),n<=n0->n0-n<c->
  ∃d,n<=d/\d<=n0/\(∀m,n<=m->m<d->∃i,t.place[i]?=some (l9 t.mask h m).j/\hashAt i≠h)/\
   ((d=n0/\probe.go t hashAt h c (l9 t.mask h n)=some (.empty (l9 t.mask h n0).j none))\/
    (d<n0/\∃i,t.place[i]?=some (l9 t.mask h d).j/\hashAt i=h/\probe.go t hashAt h c (l9 t.mask h n)=some (.candidate (l9 t.mask h d).j i (l9 t.mask h (d+1)))))
 |0,n,_,l=>by lia
 |c+1,n,v,l=>by
  unfold probe.go;rcases DY T (l9 t.mask h n).j with⟨e,o⟩|⟨i,e,f⟩
  .have:n=n0:=by
     by_cases q:n<n0
     .exact absurd (k.2.2 n q) o
     .lia
   subst this;refine⟨n,aAh _,aAh _,λm a b=>by lia,.inl ⟨rfl,?_⟩⟩;rw[e];dsimp only;rw[oD]
  .have w:n≠n0:=λq=>by subst q;refine k.2.1 ?_;rw[<-aAC]at f;exact aAk f
   rw[e];dsimp only;by_cases g:hashAt i=h
   . refine⟨n,aAh _,by lia,λm a b=>by lia,.inr ⟨by lia,i,f,g,?_⟩⟩
     rw[kd (by simpa using g),nQ];rfl
   . rw[kz (by simpa using g),nQ]
     obtain⟨d,x,p,r,s⟩:=xS T hashAt h k c (n+1) (by lia) (by lia);refine⟨d,by lia,p,λm y u=>?_,s⟩;by_cases q:m=n
     .subst q;exact⟨i,f,g⟩
     .exact r m (by lia) u
def MG (T:Tab t)(hashAt:Nat->Int)(h:Int)(b:V0 t h n0)(n:Nat)(c:n<=n0):
  ∃a,n<=a/\a<=n0/\(∀m,n<=m->m<a->∃i,t.place[i]?=some (l9 t.mask h m).j/\hashAt i≠h)/\
   ((a=n0/\t.probe hashAt h (l9 t.mask h n)=some (.empty (l9 t.mask h n0).j none))\/
    (a<n0/\∃i,t.place[i]?=some (l9 t.mask h a).j/\hashAt i=h/\t.probe hashAt h (l9 t.mask h n)=some (.candidate (l9 t.mask h a).j i (l9 t.mask h (a+1))))):=
 xS T hashAt h b _ n c (by have:=b.1;unfold turns;lia)
def Reach (mask:Nat)(a:Nat->Prop)(h:Int)(j:Nat):Prop:=∃n,(l9 mask h n).j=j/\∀m<n,a (l9 mask h m).j
def Reach.mono {mask:Nat}{o a:Nat->Prop}{h:Int}{j:Nat}(r:Reach mask o h j)(i:∀k,o k->a k):Reach mask a h j:=by obtain⟨n,e,q⟩:=r;exact⟨n,e,λm b=>i _ (q m b)⟩
def Reach.before (a:V0 t h n0)(b:j∈t.place.toList)(r:Reach t.mask (λk=>k∈t.place.toList) h j):∃n<n0,(l9 t.mask h n).j=j:=by
 obtain⟨n,e,q⟩:=r;refine⟨n,?_,e⟩;by_cases z:n<n0
 .exact z
 .exfalso;by_cases y:n=n0
  .subst y;exact a.2.1 (by rw[e];exact b)
  .exact a.2.1 (q n0 (by lia))
def fQ {α:Type}(Y:Array α)(p:Nat)(x:α):(insertAt Y p x).toList=Y.toList.take p++x::Y.toList.drop p:=by
 unfold insertAt;simp[Array.toList_extract,List.extract_eq_drop_take];have:Y.size-p=(Y.toList.drop p).length:=by simp
 rw[this,List.take_length]
def zG (t:gc)(es:List (Int×af)):List (Nat×Int×af):=t.place.toList.zip es
structure SOk (t:SetTable)(es:List (Int×Value)):Prop where
 tab:Tab t
 full:mD (t.mask+1)
 len:t.place.size=es.length
 room:t.place.size<=t.mask
 reach:∀e∈zG t es,Reach t.mask (λk=>k∈t.place.toList) e.2.1 e.1
def TZ {t:gc}{es:List (Int×af)}(b:t.place.size=es.length){i:Nat}{e:Int×af}(h:es[i]?=some e):∃j,t.place[i]?=some j/\(j,e)∈zG t es:=by
 have c:i<es.length:=(aAy.mp h).1;have a:i<t.place.toList.length:=by simpa[b]using c
 refine⟨t.place.toList[i],by rw[<-aAC,aAg a],?_⟩;unfold zG;refine aAk (i:=i) ?_;rw[aBE];exact⟨aAg a,h⟩
def ez {t:gc}{es:List (Int×af)}(S:SOk t es){h:Int}{x:af}{n0:Nat}(z:V0 t h n0)(C:t.place.size+1<=t.mask):
  SOk (t.put (l9 t.mask h n0).j).1 (es.take (t.put (l9 t.mask h n0).j).2++(h,x)::es.drop (t.put (l9 t.mask h n0).j).2):=by
 have u:=uP t.mask h n0;obtain⟨U,E,H⟩:=bH S.tab.asc (l9 t.mask h n0).j;generalize A:(l9 t.mask h n0).j=J at*
 have v:J∉t.place.toList:=by rw[<-A];exact z.2.1
 have B:(t.put J).2=below t.place J:=rfl;have em:(t.put J).1.mask=t.mask:=rfl;have c:(t.put J).1.place=insertAt t.place (below t.place J) J:=rfl;have d:=fQ t.place (below t.place J) J;have g:∀k,k∈(t.put J).1.place.toList↔k∈t.place.toList\/k=J:=λk=>by
  rw[c,d,aAN,aAd];constructor
  .rintro(q|q|q)
   .exact .inl (aEz q)
   .exact .inr q
   .exact .inl (aDH q)
  .rintro(q|q)
   .rw[<-aFN (below t.place J) t.place.toList,aAN]at q;rcases q with q|q
    .exact .inl q
    .exact .inr (.inr q)
   .exact .inr (.inl q)
 have n:(t.put J).1.place.size=t.place.size+1:=by
  rw[<-aAZ,c,d,aAD,aBU,aAv,aDN,aAZ]
  lia
 refine⟨⟨?_,λj I=>?_,?_⟩,S.full,?_,by rw[n];exact C,λe s=>?_⟩
 .
  have o:t.place.toList.Pairwise (· <·):=by rw[aCm];intro i j f u L;simpa using S.tab.asc i j (by simpa using f) (by simpa using u) L
  have p:∀a∈t.place.toList.take (below t.place J),a<J:=λa l=>by
   obtain⟨i,f,e⟩:=aBj l;rw[aBU]at f;rw[List.getElem_take]at e;have:=E i (by simp at f;lia) (by lia);simp at e
   lia
  have r:∀a∈t.place.toList.drop (below t.place J),J<a:=λa l=>by
   obtain⟨i,f,e⟩:=aBj l;rw[aDN]at f;rw[List.getElem_drop]at e;have Y:=H (below t.place J+i) (by simp at f;lia) (by lia);simp at e;have h2:J≠a:=λq=>v (by rw[q];exact aDH l)
   lia
  have N:(t.put J).1.place.toList.Pairwise (· <·):=by
   rw[c,d,aFY];refine⟨o.sublist (List.take_sublist _ _),aAx.mpr ⟨r,o.sublist (List.drop_sublist _ _)⟩,λa l b O=>?_⟩;rcases aAd.mp O with q|q
   .subst q;exact p a l
   .exact aGG (p a l) (r b q)
  intro i k f w y;have:=aCm.mp N i k (by simpa using f) (by simpa using w) y;simpa using this
 .rcases(g j).mp I with q|q
  .exact S.tab.le j q
  .subst q;exact u
 .show(if has t.dummies J then _ else t.dummies)=#[];rw[S.tab.nod,kz (by unfold has;simp)]
 .rw[n,B,aAD,aBU,aAv,aDN];have:=S.len
  lia
 .have Q:e∈zG t es\/e=(J,h,x):=by
   unfold zG at s;rw[c,d,B]at s;rw[List.zip_append (by rw[aBU,aBU,aAZ,S.len])]at s;rcases aAN.mp s with q|q
   .left;unfold zG;exact wF q
   .rw[aBN]at q;rcases aAd.mp q with q|q
    .exact .inr q
    .left;unfold zG;exact wS q
  rcases Q with q|q
  .exact(S.reach e q).mono λk w=>(g k).mpr (.inl w)
  .subst q;exact⟨n0,A,λm T=>(g _).mpr (.inl (z.2.2 m T))⟩
def Q8 (owner:Array (Option Nat))(j:Nat):Prop:=(owner.getD j<|some 0).isNone=false
theorem sW {mask:Nat}(h:Int)(owner:Array (Option Nat)):∀(fuel k:Nat),(∃kk,k<=kk/\kk<k+fuel/\¬Q8 owner (D2 mask h kk).1)->
  ∃n,off mask h k<=n/\layClean.free mask owner fuel (D2 mask h k).1 (D2 mask h k).2=some (l9 mask h n).j/\¬Q8 owner (l9 mask h n).j/\∀m,off mask h k<=m->m<n->Q8 owner (l9 mask h m).j
 |0,k,⟨kk,g,l,_⟩=>by lia
 |fuel+1,k,⟨kk,g,l,c⟩=>by
  have o:runEnd mask (D2 mask h k).1+1-(D2 mask h k).1=len mask (D2 mask h k).1+1:=by unfold len runEnd;split<;>lia
  unfold layClean.free;rw[o];cases e:(aBF<|len mask (D2 mask h k).1+1).find? λr=>(owner.getD ((D2 mask h k).1+r)<|some 0).isNone with
  |some r=>
   have q:=List.find?_some e;have d:r<len mask (D2 mask h k).1+1:=aCB.mp (List.mem_of_find?_eq_some e);have f:(l9 mask h<|off mask h k+r).j=(D2 mask h k).1+r:=by rw[W2 mask h k r (by lia)]
   refine⟨off mask h k+r,by lia,by rw[f],by rw[f];unfold Q8;rw[q];simp,λm a b=>?_⟩;have em:(l9 mask h m).j=(D2 mask h k).1+(m-off mask h k):=by have:=W2 mask h k (m-off mask h k) (by lia);rw[show off mask h k+(m-off mask h k)=m by lia]at this;rw[this]
   rw[em];unfold Q8;rw[List.find?_range_eq_some]at e;have:=e.2.2 (m-off mask h k) (by lia);simpa using this
  |none=>
   have all:∀r<len mask (D2 mask h k).1+1,Q8 owner ((D2 mask h k).1+r):=λr d=>by have:=List.find?_eq_none.mp e r (aCB.mpr d);unfold Q8;exact Bool.not_eq_true _▸this
   have v:kk≠k:=λq=>by subst q;have:=all 0 (by lia);rw[Nat.add_zero]at this;exact c this
   obtain⟨n,w,p,s,t⟩:=sW h owner fuel (k+1) ⟨kk,by lia,by lia,c⟩;have x:off mask h (k+1)=off mask h k+len mask (D2 mask h k).1+1:=rfl;refine⟨n,by lia,p,s,λm y u=>?_⟩;by_cases q:off mask h (k+1)<=m
   .exact t m q u
   .have em:(l9 mask h m).j=(D2 mask h k).1+(m-off mask h k):=by have:=W2 mask h k (m-off mask h k) (by lia);rw[show off mask h k+(m-off mask h k)=m by lia]at this;rw[this]
    rw[em];exact all _ (by lia)
def nC {mask:Nat}(F:mD (mask+1))(h:Int)(owner:Array (Option Nat)){j:Nat}(g:j<=mask)(a:¬Q8 owner j):
  ∃n,layClean.free mask owner (turns mask) (aDZ h%(mask+1)) (aDZ h)=some (l9 mask h n).j/\¬Q8 owner (l9 mask h n).j/\∀m<n,Q8 owner (l9 mask h m).j:=by
 obtain⟨k,l,e⟩:=uH F (GP mask h 13) (show j<mask+1 by lia);obtain⟨n,o,b,c,d⟩:=sW h owner (turns mask) 0 ⟨13+k,aBb _,by unfold turns;lia,by rw[oB,e];exact a⟩;exact⟨n,b,c,λm f=>d m (aBb _) f⟩
structure Laid (mask:Nat)(hs:List Int)(owner:Array (Option Nat))(k:Nat):Prop where
 size:owner.size=mask+1
 lt:∀(j i:Nat),owner[j]?=some (some i)->i<k
 inj:∀(j j' i:Nat),owner[j]?=some (some i)->owner[j']?=some (some i)->j=j'
 sur:∀i<k,∃j:Nat,owner[j]?=some (some i)
 reach:∀(j i:Nat) (h:Int),owner[j]?=some (some i)->hs[i]?=some h->Reach mask (λl=>∃i,owner[l]?=some (some i)) h j
def jV {owner:Array (Option Nat)}{mask j:Nat}(b:owner.size=mask+1)(c:j<=mask):Q8 owner j↔∃i,owner[j]?=some (some i):=by
 unfold Q8;have a:j<owner.size:=by lia
 have e:owner.getD j (some 0)=owner[j]:=by simp[aFj,a]
 rw[e,aAA a];cases owner[j]with
 |none=>simp
 |some i=>simp
def Laid.room {mask k:Nat}{p:List Int}{owner:Array (Option Nat)}(L:Laid mask p owner k)(s:k<=mask):∃j≤mask,¬Q8 owner j:=by
 by_cases z:∃j≤mask,¬Q8 owner j
 .exact z
 .exfalso;have all:∀j≤mask,∃i,owner[j]?=some (some i):=λj b=>by
   by_cases q:Q8 owner j
   .exact(jV L.size b).mp q
   .exact absurd ⟨j,b,q⟩ z
  have c:∀n,n<=mask+1->∃l:List Nat,l.length=n/\l.Nodup/\(∀i∈l,i<k)/\∀i∈l,∃j<n,owner[j]?=some (some i):=λn=>by
   induction n with
   |zero=>exactλ_=>⟨[],rfl,aDm,by simp,by simp⟩
   |succ n r=>
    intro t;obtain⟨l,h,d,f,o⟩:=r (by lia);obtain⟨i,g⟩:=all n (by lia);refine⟨i::l,by simp[h],aAF.mpr ⟨λq=>?_,d⟩,λx a=>?_,λx a=>?_⟩
    .obtain⟨j,b,e⟩:=o i q;have:=L.inj j n i e g
     lia
    .rcases aAd.mp a with q|q
     .subst q;exact L.lt _ _ g
     .exact f x q
    .rcases aAd.mp a with q|q
     .subst q;exact⟨n,by lia,g⟩
     .obtain⟨j,b,e⟩:=o x q;exact⟨j,by lia,e⟩
  obtain⟨l,h,d,f,_⟩:=c (mask+1) (aAh _);have:=Q3 (m:=aBF k) d (λx a=>aCB.mpr (f x a));simp at this
  lia
def EJ (mask:Nat)(b:List Int):Laid mask b (aEE (mask+1) none) 0:=by
 have a:∀(j i:Nat),(aEE (mask+1) (none:Option Nat))[j]?=some (some i)->False:=λj i h=>by rw[Array.getElem?_replicate]at h;split at h<;>cases h
 exact⟨by simp,λj i h=>(a j i h).elim,λj c i h=>(a j i h).elim,λi d=>by lia,λj i _ h=>(a j i h).elim⟩
def Laid.step {mask k:Nat}{f:List Int}{owner:Array (Option Nat)}(L:Laid mask f owner k){h:Int}(s:f[k]?=some h){n:Nat}(t:¬Q8 owner (l9 mask h n).j)(u:∀m<n,Q8 owner (l9 mask h m).j):
  Laid mask f (owner.setIfInBounds (l9 mask h n).j (some k)) (k+1):=by
 have v:=uP mask h n;have g:(l9 mask h n).j<owner.size:=by rw[L.size];lia
 have get:∀(j i:Nat),(owner.setIfInBounds (l9 mask h n).j (some k))[j]?=some (some i)↔(j=(l9 mask h n).j/\i=k)\/(j≠(l9 mask h n).j/\owner[j]?=some (some i)):=λj i=>by
  rw[Array.getElem?_setIfInBounds];by_cases q:(l9 mask h n).j=j
  .rw[kd q,kd g];simp[q,eq_comm]
  .rw[kz q];constructor
   .intro z;exact .inr ⟨λy=>q y.symm,z⟩
   .rintro(⟨z,_⟩|⟨_,z⟩)
    .exact absurd z.symm q
    .exact z
 have w:∀i,owner[(l9 mask h n).j]?≠some (some i):=λi z=>t ((jV L.size v).mpr ⟨i,z⟩);have grow:∀l:Nat,(∃i:Nat,owner[l]?=some (some i))->∃i:Nat,(owner.setIfInBounds (l9 mask h n).j (some k))[l]?=some (some i):=λl x=>by
  obtain⟨i,z⟩:=x;by_cases q:l=(l9 mask h n).j
  .exact⟨k,(get l k).mpr (.inl ⟨q,rfl⟩)⟩
  .exact⟨i,(get l i).mpr (.inr ⟨q,z⟩)⟩
 refine⟨by simp[L.size],λj i z=>?_,λj o i z r=>?_,λi B=>?_,λj i p z e=>?_⟩
 .rcases(get j i).mp z with⟨_,q⟩|⟨_,q⟩
  .lia
  .have:=L.lt j i q;lia
 .rcases(get j i).mp z with⟨c,a⟩|⟨c,a⟩
  .rcases(get o i).mp r with⟨d,b⟩|⟨d,b⟩
   .rw[c,d]
   .subst a;have:=L.lt _ _ b;lia
  .rcases(get o i).mp r with⟨d,b⟩|⟨d,b⟩
   .subst b;have:=L.lt _ _ a;lia
   .exact L.inj j o i a b
 .by_cases q:i=k
  .subst q;exact⟨_,(get _ _).mpr (.inl ⟨rfl,rfl⟩)⟩
  .obtain⟨j,z⟩:=L.sur i (by lia);exact⟨j,(get j i).mpr (.inr ⟨λy=>by subst y;exact w i z,z⟩)⟩
 .rcases(get j i).mp z with⟨c,a⟩|⟨c,a⟩
  .subst c a;have:p=h:=aAn (e.symm.trans s);subst this;exact⟨n,rfl,λm A=>grow _ ((jV L.size<|uP mask p m).mp (u m A))⟩
  .exact(L.reach j i p a e).mono grow
def zN {mask:Nat}(F:mD (mask+1))(b:Array Int)(z:b.size<=mask):∃owner,layClean mask b=some owner/\Laid mask b.toList owner b.size:=by
 have f:∀(post a:List Int) (owner:Array (Option Nat)),b.toList=a++post->Laid mask b.toList owner a.length->
   ∃c,post.foldl (λB h=>do
    let(owner,k)<-B
    let j<-layClean.free mask owner (turns mask) (aDZ h%(mask+1)) (aDZ h)
    pure (owner.setIfInBounds j (some k),k+1)) (some (owner,a.length))=some (c,b.size)/\Laid mask b.toList c b.size:=λpost=>by
  induction post with
  |nil=>
   intro a owner e L;have:a.length=b.size:=by rw[<-aAZ,e];simp
   exact⟨owner,by rw[List.foldl_nil,this],by rw[<-this];exact L⟩
  |cons h post g=>
   intro a owner e L;have d:a.length<b.size:=by rw[<-aAZ,e];simp
   obtain⟨j,l,m⟩:=L.room (by lia);obtain⟨n,o,p,q⟩:=nC F h owner l m;have r:b.toList[a.length]?=some h:=by rw[e];simp
   have s:=L.step r p q;rw[aDx];have t:b.toList=(a++[h])++post:=by rw[e];simp
   obtain⟨c,u,v⟩:=g (a++[h]) _ t (by rw[aAD];exact s);refine⟨c,?_,v⟩;rw[<-u];congr 1;simp[o]
 obtain⟨owner,w,x⟩:=f b.toList [] (aEE (mask+1) none) rfl (EJ mask b.toList);refine⟨owner,?_,x⟩;unfold layClean;rw[<-Array.foldl_toList];have y:List.foldl (λB h=>do
    let(owner,k)<-B
    let j<-layClean.free mask owner (turns mask) (aDZ h%(mask+1)) (aDZ h)
    pure (owner.setIfInBounds j (some k),k+1)) (some (aEE (mask+1) none,0)) b.toList=some (owner,b.size):=w
 rw[y];rfl
def D9 (mask:Nat)(owner:Array (Option Nat)):List (Nat×Nat):=(aBF<|mask+1).filterMap λj=>(owner.getD j none).map (j,·)
def R4 {mask:Nat}{owner:Array (Option Nat)}(f:owner.size=mask+1){j i:Nat}:(j,i)∈D9 mask owner↔owner[j]?=some (some i):=by
 unfold D9;rw[aBZ];constructor
 .rintro⟨l,a,e⟩;have d:l<owner.size:=by rw[f];exact aCB.mp a
  have b:owner.getD l none=owner[l]:=by simp[aFj,d]
  rw[b,aDo]at e;obtain⟨h,c,g⟩:=e;cases g;rw[aAA d,c]
 .intro e;obtain⟨a,c⟩:=aCh.mp e;have b:owner.getD j none=owner[j]:=by simp[aFj,a]
  exact⟨j,aCB.mpr (by lia),by rw[b,c];rfl⟩
def yE (mask:Nat)(owner:Array (Option Nat)):((D9 mask owner).map (·.1)).Pairwise (· <·):=by unfold D9;rw[aBf];have:(aBF<|mask+1).Pairwise (· <·):=List.pairwise_lt_range;refine List.Pairwise.filterMap _ (R:=(· <·)) ?_ this;intro a f e b c g d;rw[aDo]at c d;obtain⟨_,_,rfl⟩:=c;obtain⟨_,_,rfl⟩:=d;exact e
def NG {mask finger moves:Nat}{led plain:Bool}(F:mD (mask+1))(es:Array (Int×af))(A:es.size<=mask):
  ∃t' d,laid mask finger moves led plain (es.map (·.1))=some (t',d)/\(d.filterMap (es[·]?)).size=es.size/\(d.filterMap (es[·]?)).toList.Perm es.toList/\SOk t' (d.filterMap (es[·]?)).toList/\
   t'.mask=mask/\t'.dummies=#[]/\t'.led=led/\t'.plain=plain/\t'.moves=moves:=by
 obtain⟨c,I,L⟩:=zN F (es.map (·.1)) (by simpa using A);have m:(es.map (·.1)).size=es.size:=by simp
 rw[m]at L;refine⟨{mask,place:=((D9 mask c).map (·.1)).toArray,dummies:=#[],finger,led,moves,plain},((D9 mask c).map (·.2)).toArray,?_,?_⟩
 .unfold laid;rw[I];rfl
 have n:(D9 mask c).Nodup:=by have:=yE mask c;rw[aBf]at this;exact aCg.mpr (this.imp λ{a b} h e=>by subst e;exact aBc _ h)
 have o:((D9 mask c).map (·.2)).Nodup:=by rw[aCg,aBf];refine List.Pairwise.imp_of_mem (R:=(· ≠·)) ?_ (aCg.mp n);rintro⟨j,i⟩ ⟨p,r⟩ J N O e;dsimp only at e;subst e;have:=L.inj j p i ((R4 L.size).mp J) ((R4 L.size).mp N);subst this;exact O rfl
 have B:((D9 mask c).map (·.2)).Perm (aBF es.size):=by
  rw[aCi o List.nodup_range];intro i;rw[aCB,aAl];constructor
  .rintro⟨⟨j,r⟩,h,rfl⟩;exact L.lt _ _ ((R4 L.size).mp h)
  .intro s;obtain⟨j,t⟩:=L.sur i s;exact⟨(j,i),(R4 L.size).mpr t,rfl⟩
 have C:(((D9 mask c).map (·.2)).toArray.filterMap (es[·]?)).toList=(D9 mask c).filterMap (λx=>es[x.2]?):=by rw[Array.toList_filterMap,aDq];rfl
 have Q:((D9 mask c).filterMap (λx=>es[x.2]?)).Perm es.toList:=by
  have T:(D9 mask c).filterMap (λx=>es[x.2]?)=((D9 mask c).map (·.2)).filterMap (λi=>es[i]?):=by rw[aDq];rfl
  rw[T];refine(B.filterMap _).trans (List.Perm.of_eq ?_);apply aDC;intro i;have:(aBF es.size).filterMap (λi=>es[i]?)=es.toList:=by
   have q:∀l:List (Int×af),(aBF l.length).filterMap (λi=>l[i]?)=l:=λl=>by
    induction l with
    |nil=>rfl
    |cons a l u=>
     rw[aAv,aFI,aCG];simp only[aDd];rw[aDq];have:((λi=>(a::l)[i]?)∘Nat.succ)=λi=>l[i]?:=by funext i;simp
     rw[this,u]
   have:=q es.toList;simpa using this
  rw[this]
 have U:∀l:List (Nat×Nat),(∀x∈l,x.2<es.size)->(l.map (·.1)).zip (l.filterMap<|λx=>es[x.2]?)=l.filterMap (λx=>es[x.2]?.map (x.1,·))/\(l.filterMap<|λx=>es[x.2]?).length=l.length:=λl=>by
  induction l with
  |nil=>intro _;exact⟨rfl,rfl⟩
  |cons x l u=>intro h;obtain⟨Y,i2⟩:=u (λy hy=>h y (aAe _ hy));have w:=h x (by simp);have e:es[x.2]?=some es[x.2]:=aAA w;rw[aAz,aCG,e];dsimp only;rw[aCG,e];dsimp only[Option.map_some];rw[aBN,Y];exact⟨rfl,by simp[i2]⟩
 obtain⟨z1,E⟩:=U (D9 mask c) (λx w=>L.lt x.1 x.2 ((R4 L.size).mp w));have f:(D9 mask c).length=es.size:=by have:=B.length_eq;simpa using this
 rw[C];refine⟨by rw[<-aAZ,C,E,f],Q,⟨⟨?_,λj t=>?_,rfl⟩,F,?_,?_,λe g=>?_⟩,rfl,rfl,rfl,rfl,rfl⟩
 .intro i k s m z;have:=aCm.mp (yE mask c) i k (by simpa using s) (by simpa using m) z;simpa using this
 .have vp:j∈(D9 mask c).map (·.1):=by simpa using t
  obtain⟨⟨p,i⟩,h,rfl⟩:=aAl.mp vp;have:=(aCh.mp<|(R4 L.size).mp h).1;rw[L.size]at this;show p<=mask
  lia
 .rw[E];simp
 .simp only[aAp,aAj,f];exact A
 .unfold zG at g;dsimp only at g;rw[z1,aBZ]at g;obtain⟨⟨j,i⟩,h,H⟩:=g;rw[aDo]at H;obtain⟨⟨hh,v⟩,e2,rfl⟩:=H;have ho:=(R4 L.size).mp h;have:=L.reach j i hh ho (by rw[aAC,Array.getElem?_map,e2];rfl);refine this.mono λl z9=>?_;obtain⟨r,gg⟩:=z9;show l∈(D9 mask c).map (·.1);exact aAl.mpr ⟨(l,r),(R4 L.size).mpr gg,rfl⟩
end ST
namespace TS
open PySem PyProof.Rows
abbrev tupK:Bool->SortKind:=sortPriv%PySem.Builtin.KeyKind.tuples
structure TB (f:Bool)(aa:Array Keyed)(st:SortSt):Prop where
 perm:(arrOf st).Perm aa
 kind:kindOf st=tupK f
 failed:failedOf st=none
 pend:pendingOf st=#[]
def TB.size {f:Bool}{aa:Array Keyed}{st:SortSt}(h:TB f aa st):(arrOf st).size=aa.size:=h.perm.size_eq
def TB.setArr {f:Bool}{aa:Array Keyed}{st:SortSt}(h:TB f aa st){Y:Array Keyed}(a:Y.Perm (arrOf st)):TB f aa (PyProof.Rows.setArr st Y):=
 ⟨a.trans h.perm,h.kind,h.failed,h.pend⟩
def SB (f:Bool)(A:cv)(s:bb)(κ:KeyKind):Prop:=
 ∀(c:cp) (w:cy) (E:B4) (x y:af) (a b:κ.α) {Q:xC},
  κ.keyOf x=some a->κ.keyOf y=some b->Q (κ.blt a b) s->ai (be c w) A (keyLt' (tupK f) x y) Q E s
def TB.atK {f:Bool}{κ:KeyKind}{aa:Array Keyed}{st:SortSt}(h:TB f aa st)(h0:KeysOf κ aa){i:Nat}(c:i<aa.size):∃x p a,(arrOf st)[i]?=some (x,p)/\κ.keyOf x=some a/\KK κ (arrOf st) i=a:=by
 have d:i<(arrOf st).size:=by rw[h.size];exact c
 obtain⟨a,b⟩:=h0 _ ((aEQ.mp h.perm).mem_iff.mp (show(arrOf st)[i]∈(arrOf st).toList by simp));have e:(arrOf st)[i]?=some (arrOf st)[i]:=getElem?_pos _ i d;exact⟨(arrOf st)[i].1,(arrOf st)[i].2,a,by rw[e],b,by unfold KK;rw[e];simp[b]⟩
section
def lz (f:Bool){prog:cp}{w:cy}{A:cv}{E:B4}{s:bb}{aa:Array Keyed}{κ:KeyKind}{st:SortSt}{i j:Nat}{Q:Option Bool->SortSt->Prop}(d:SB f A s κ)(c:TB f aa st)(h0:KeysOf κ aa)(e:i<aa.size)(g:j<aa.size)
  (h:Q (some (κ.blt (KK κ (arrOf st) i) (KK κ (arrOf st) j))) st):wpS (be prog w) A E s (ltAt' i j) Q st:=by
 obtain⟨x,p,a,k,l,m⟩:=c.atK h0 e;obtain⟨y,q,b,n,o,r⟩:=c.atK h0 g;rw[m,r]at h;rw[ltAt'_eq];refine aBy (wpS_get ?_);show wpS _ _ _ _ (do let x<-elem' (arrOf st) i;let y<-elem' (arrOf st) j;lt' x y) Q st;rw[elem'_eq,elem'_eq,k,n];refine aBy (aCn<|aBy<|aCn ?_);rw[lt'_eq];refine aBy (wpS_get ?_);rw[c.kind];refine aBy (wpS_lift<|aEa<|d prog w _ x y a b l o ⟨rfl,?_⟩);exact aCn h
def up1 (S:SortedToK κ Y x)(h:1<=x->κ.kle (KK κ Y (x-1)) (KK κ Y x)):SortedToK κ Y (x+1):=λi j a b=>by
 rcases aDr (aFk b)with c|rfl
 .exact S i j a c
 .rcases aDr a with d|rfl
  .exact KeyOrd.kle_trans (S i (j-1) (by lia) (by lia)) (h (by lia))
  .exact KeyOrd.kle_refl _
def oz (S:NonIncK κ Y x)(h:1<=x->κ.kle (KK κ Y x) (KK κ Y (x-1))):NonIncK κ Y (x+1):=λi j a b=>by
 rcases aDr (aFk b)with c|rfl
 .exact S i j a c
 .rcases aDr a with d|rfl
  .exact KeyOrd.kle_trans (h (by lia)) (S i (j-1) (by lia) (by lia))
  .exact KeyOrd.kle_refl _
def NA (S:NonIncK κ Y x)(e:∀k,KK κ a k=KK κ Y k):NonIncK κ a x:=λi j b c=>by rw[e,e];exact S i j b c
def CN (κ:KeyKind)(Y:Array Keyed)(x c:Nat):Prop:=c+1<=x/\∀k,x-(c+1)<=k->k<x->KK κ Y k=KK κ Y (x-1)
def CN.one (h:1<=x):CN κ Y x 0:=⟨h,λk a b=>by rw[show k=x-1 by lia]⟩
variable{st:SortSt}
def RH (h:SB f A s κ)(h0:KeysOf κ aa)(o:m<=aa.size)(B:TB f aa st)(p:1<=a)(b:a<=m)(S:SortedToK κ (arrOf st) a){Q:AscSt->SortSt->Prop}(q:∀n,a<=n->n<=m->SortedToK κ (arrOf st) n->(n<m->κ.klt (KK κ (arrOf st) n) (KK κ (arrOf st) (n-1)))->Q (none,n) st):wpS (be prog w) A E s (ascLoop a m) Q st:=by
 refine aEo (I:=λn r t=>t=st/\r=(none,n)/\SortedToK κ (arrOf st) n) (λn r t k u l=>?_) (λr t ⟨d,g,c⟩=>?_) ⟨rfl,rfl,S⟩
 .obtain⟨d,g,c⟩:=l;subst d g;refine aBy (lz f h B h0 (by lia) (by lia) ?_);cases z:κ.blt (KK κ (arrOf t) n) (KK κ (arrOf t)<|n-1)with
  |true=>exact aCn (q n k (by lia) c λ_=>z)
  |false=>exact aCn ⟨rfl,rfl,up1 c λ_=>z⟩
 .subst d g;have e:max a m=m:=Nat.max_eq_right b;rw[e]at c⊢;exact q m b (aAh _) c λz=>absurd z (aBc _)
abbrev Told (f:Bool)(κ:KeyKind)(aa:Array Keyed)(m:Nat)(Q:Option Nat->SortSt->Prop):Prop:=∀n t,TB f aa t->1<=n->n<=m->SortedToK κ (arrOf t) n->Q (some n) t
def xX (g:SB f A s κ)(h0:KeysOf κ aa)(a:m<=aa.size)(B:TB f aa st)(b:1<=n)(c:n<=m)(S:NonIncK κ (arrOf st) n){Q:Option Nat->SortSt->Prop}(q:Told f κ aa m Q):
  wpS (be prog w) A E s (tail3 n m) Q st:=by
 have d:=B.setArr (aGm (arrOf st) 0 n<|(n-0)/2);have h:n<=(arrOf st).size:=by rw[B.size];exact aAr c a
 refine aBy (aGn<|aBy<|RH g h0 a d b c (λi j u l=>?_) λk o p r _=>aCn (q k _ d (aAr b o) p r));have e:∀k,k<n->KK κ (arrOf<|setArr st<|mirror (arrOf st) 0 n<|(n-0)/2) k=KK κ (arrOf st) (0+n-1-k):=λk t=>(KK_mirror h k).trans (kd ⟨aBb _,t⟩);rw[e i (by lia),e j l];exact S _ _ (by lia) (by lia)
def QB (g:SB f A s κ)(h0:KeysOf κ aa)(H:m<=aa.size)(B:TB f aa st)(h:1<=n)(l:n<=m)(S:NonIncK κ (arrOf st) n){Q:DescSt->SortSt->Prop}(q:∀k c t,TB f aa t->1<=k->k<=m->NonIncK κ (arrOf t) k->CN κ (arrOf t) k c->Q (none,k,c) t):wpS (be prog w) A E s (descLoop n m) Q st:=by
 refine aEo (I:=λk r t=>∃c,r=(none,k,c)/\TB f aa t/\NonIncK κ (arrOf t) k/\CN κ (arrOf t) k c) (λk r t J L u=>?_) (λr t ⟨c,e,a,d,b⟩=>?_) ⟨0,rfl,B,S,CN.one h⟩
 .obtain⟨c,e,a,d,b⟩:=u;subst e;have v:k<=(arrOf t).size:=by rw[a.size];lia
  dsimp only;refine aBy (lz f g a h0 (by lia) (by lia) ?_);cases z:κ.blt (KK κ (arrOf t) k) (KK κ (arrOf t)<|k-1)with
  |true=>
   have o:NonIncK κ (arrOf t) (k+1):=oz d λ_=>KeyOrd.kle_of_klt z;show wpS _ _ _ _ (if c>0 then _ else _) _ t;by_cases p:c>0
   .rw[kd p];exact aBy (aGn (aCn ⟨0,rfl,a.setArr (aGm _ _ _ _),NA o (aFO v b.2),CN.one (by lia)⟩))
   .rw[kz p];exact aCn ⟨0,rfl,a,o,CN.one (by lia)⟩
  |false=>
   dsimp only;simp only[aAt,if_false];refine aBy (lz f g a h0 (by lia) (by lia) ?_);cases x:κ.blt (KK κ (arrOf t)<|k-1) (KK κ (arrOf t) k)with
   |true=>exact aCn (q k c t a (by lia) (by lia) d b)
   |false=>
    have e:KK κ (arrOf t) k=KK κ (arrOf t) (k-1):=KeyOrd.kle_antisymm x z;refine aCn ⟨c+1,rfl,a,oz d λ_=>by rw[e];exact KeyOrd.kle_refl _,by have:=b.1;lia,λi N y=>?_⟩;show KK κ (arrOf t) i=KK κ (arrOf t) k;rcases aDr (aFk y)with C|rfl
    .rw[e];exact b.2 i (by lia) C
    .rfl
 .subst e;have e:max n m=m:=Nat.max_eq_right l;rw[e]at d b⊢;exact q m c t a (aAr h l) (aAh _) d b
def yI (a:SB f A s κ)(h0:KeysOf κ aa)(b:m<=aa.size)(B:TB f aa st)(o:n+1<=m)(S:NonIncK κ (arrOf st) (n+1)){Q:Option Nat->SortSt->Prop}(q:Told f κ aa m Q):
  wpS (be prog w) A E s (descPart n m) Q st:=by
 refine aBy (wpS_lift<|aDD ⟨rfl,aBy (QB a h0 b B (aGH n) o S λk c t d e g h p=>?_)⟩);have r:k<=(arrOf t).size:=by rw[d.size];lia
 show wpS _ _ _ _ (if c>0 then _ else _) _ t;by_cases l:c>0
 .rw[kd l];exact aBy (aGn<|xX a h0 b (d.setArr<|aGm _ _ _ _) e g (NA h<|aFO r p.2) q)
 .rw[kz l];exact xX a h0 b d e g h q
def JN (a:SB f A s κ)(h0:KeysOf κ aa)(b:m<=aa.size)(h:1<=m)(B:TB f aa st){Q:Option Nat->SortSt->Prop}(q:Told f κ aa m Q):wpS (be prog w) A E s (countRun' 0 m) Q st:=by
 rw[countRun0_eq];refine aBy (RH a h0 b B (aAh 1) h (up1 (λ_ _ _ z=>absurd z (aFP _)) λz=>absurd z (by decide)) λn c d S l=>?_);show wpS _ _ _ _ (if(n==m)=true then _ else _) _ st;by_cases e:n=m
 .rw[kd (beq_iff_eq.mpr e)];exact aCn (q n st B c d S)
 .rw[kz λz=>e (beq_iff_eq.mp z)];have lt:=l (by lia);by_cases g:n>1
  .rw[kd g];refine aBy (lz f a B h0 (by lia) (by lia) ?_);cases z:κ.blt (KK κ (arrOf st) 0) (KK κ (arrOf st)<|n-1)with
   |true=>exact aCn (q n st B c d S)
   |false=>
    have o:n<=(arrOf st).size:=by rw[B.size];lia
    have same:∀k,0<=k->k<n->KK κ (arrOf st) k=KK κ (arrOf st) (n-1):=λk _ p=>KeyOrd.kle_antisymm (S k (n-1) (by lia) (by lia)) (KeyOrd.kle_trans z<|S 0 k (aBb _) p);have r:NonIncK κ (arrOf st) n:=λi j u t=>by rw[same i (aBb _) (by lia),same j (aBb _) t];exact KeyOrd.kle_refl _
    exact aBy (aGn (yI a h0 b (B.setArr<|aGm _ _ _ _) (by lia) (NA (oz r λ_=>KeyOrd.kle_of_klt lt)<|aFO o same) q))
  .rw[kz g];obtain rfl:n=1:=by lia
   exact yI a h0 b B (by lia) (oz (oz (λ_ _ _ z=>absurd z (aFP _)) λz=>absurd z (by decide)) λ_=>KeyOrd.kle_of_klt lt) q
def oG (hO:SB f A s κ)(h0:KeysOf κ aa)(hn:n<=aa.size)(hk:k<=n)(B:TB f aa st)(S:SortedToK κ (arrOf st) k){Q:Bool->SortSt->Prop}(q:∀t,TB f aa t->SortedToK κ (arrOf t) n->Q true t):
  wpS (be prog w) A E s (binarySort' 0 n k) Q st:=by
 rw[binarySort'_eq];simp only[aDR];have S0:SortedToK κ (arrOf st) (min (max k 1) n):=λi j C L=>by
  rcases Nat.eq_or_lt_of_le C with rfl|ar
  .exact KeyOrd.kle_refl _
  .exact S i j C (by lia)
 refine aBy (wpS_mono (Q:=λr t=>r=(none,())/\TB f aa t/\SortedToK κ (arrOf t) n) (aEo (I:=λx r t=>r=(none,())/\TB f aa t/\SortedToK κ (arrOf t) (min x n)) (λx r t l1 l2 ⟨e,g,c⟩=>?step) (λr t ⟨e,g,c⟩=>⟨e,g,?fin⟩) ⟨rfl,B,S0⟩) λr t ⟨e,g,c⟩=>?post)
 case step=>
  subst e;rw[aFQ (aDy l2)]at c;have N:x<aa.size:=by lia
  let o (l:Nat):Prop:=∀i,i<l->κ.kle (KK κ (arrOf t) i) (KK κ (arrOf t) x)
  let Top (r:Nat):Prop:=∀i,r<=i->i<x->κ.klt (KK κ (arrOf t) x) (KK κ (arrOf t) i)
  refine aBy (wpS_mono (Q:=λd u=>u=t/\∃l r,d=(none,l,r)/\l<=x/\o l/\Top l) (aEo (I:=λy d u=>u=t/\∃l r,d=(none,l,r)/\l<=r/\r<=x/\r-l<=x-y/\o l/\Top r) (λy d u _ y2 ⟨e,l,r,p,O,H,J,lo,m⟩=>?istep) (λd u ⟨e,l,r,p,O,H,J,lo,m⟩=>?ifin)
   ⟨rfl,0,x,rfl,aBb _,aAh _,aAh _,λ_ z=>absurd z (aFP _),λi a b=>absurd (aCt a b) (aBc _)⟩) λd u ⟨e,l,r,p,lx,lo,m⟩=>?ipost)
  case istep=>
   subst e p;show wpS _ _ _ _ (if l>=r then _ else _) _ u;by_cases h:l>=r
   .rw[kd h];obtain rfl:l=r:=Nat.le_antisymm O h;exact aCn ⟨rfl,l,l,rfl,H,lo,m⟩
   .rw[kz h];dsimp only;refine aBy (lz f hO g h0 N (by lia) ?_);cases z:κ.blt (KK κ (arrOf u) x) (KK κ (arrOf u)<|(l+r)/2)with
    |true=>exact aCn ⟨rfl,l,(l+r)/2,rfl,by lia,by lia,by lia,lo,λi a b=>KeyOrd.klt_of_klt_of_kle z (c _ i a b)⟩
    |false=>exact aCn ⟨rfl,(l+r)/2+1,r,rfl,by lia,by lia,by lia,λi a=>KeyOrd.kle_trans (c i ((l+r)/2) (by lia) (by lia)) z,m⟩
  case ifin=>
   subst e p;obtain rfl:l=r:=by lia
   exact⟨rfl,l,l,rfl,H,lo,m⟩
  case ipost=>
   subst e p;have hz:x<(arrOf u).size:=by rw[g.size];exact N
   show wpS _ _ _ _ (do moveDown' x l;pure (aCp (none,()))) _ u;rw[moveDown'_eq];refine aBy (wpS_modify<|aCn ⟨rfl,g.setArr (bubble_perm _ _ _),λi j C L=>?_⟩);have e:∀k,KK κ (arrOf<|setArr u<|bubble (arrOf u) x<|x-l) k=if k=l then KK κ (arrOf u) x else if l<k/\k<=x then KK κ (arrOf u) (k-1)else KK κ (arrOf u) k:=λk=>by have:=KK_bubble (κ:=κ) hz (Nat.sub_le x l) k;rw[show x-(x-l)=l by lia]at this;exact this
   have L:j<x+1:=by lia
   rw[e,e];by_cases T:i=l
   .rw[kd T];by_cases v:j=l
    .rw[kd v];exact KeyOrd.kle_refl _
    .rw[kz v,kd ⟨by lia,by lia⟩];exact KeyOrd.kle_of_klt (m _ (by lia) (by lia))
   .rw[kz T];by_cases v:j=l
    .rw[kd v,kz λz=>by lia];exact lo i (by lia)
    .rw[kz v];by_cases U:l<i/\i<=x
     .rw[kd U,kd ⟨by lia,by lia⟩];exact c _ _ (by lia) (by lia)
     .rw[kz U];by_cases Y:l<j/\j<=x
      .rw[kd Y];exact c _ _ (by lia) (by lia)
      .rw[kz Y];exact c _ _ C (by lia)
 case fin=>rw[show min (max (max k 1) n) n=n by lia]at c;exact c
 case post=>subst e;exact aCn (q t g c)
def mI (f:Bool)(g:SB f A s κ)(h0:KeysOf κ aa)(B:TB f aa st)(C:2<=aa.size)(c:aa.size<64){Q:Unit->SortSt->Prop}(q:∀t,(arrOf t).Perm aa->failedOf t=none->SortedToK κ (arrOf t) aa.size->Q () t):wpS (be prog w) A E s sortRuns' Q st:=by
 have m:minRun' aa.size aa.size 0=aa.size:=by
  generalize H:aa.size=N at*
  cases N with
  |zero=>lia
  |succ N=>rw[minRun'_succ,kd c]
 let U1 (t:SortSt):Prop:=(arrOf t).Perm aa/\failedOf t=none/\pendingOf t=#[(0,aa.size,0)]/\SortedToK κ (arrOf t) aa.size
 have done:∀t,TB f aa t->SortedToK κ (arrOf t) aa.size->U1 (setPending t<|(pendingOf t).push (0,aa.size,0)):=λt a o=>⟨a.perm,a.failed,(ll (·.push (0,aa.size,0)) a.pend),o⟩;rw[sortRuns'_eq];refine aBy (wpS_get ?_);dsimp only;simp only[B.size,m];refine aBy (wpS_mono (Q:=λr t=>r=(none,aa.size)/\U1 t) (aEo (I:=λx r t=>(x=0/\r=(none,0)/\TB f aa t)\/(0<x/\r=(none,aa.size)/\U1 t)) (λx r t _ J I=>?step) (λr t I=>?fin)<|.inl ⟨rfl,rfl,B⟩) λr t ⟨e,D⟩=>?post)
 case step=>
  rcases I with⟨rfl,rfl,a⟩|⟨L,rfl,D⟩
  .show wpS _ _ _ _ (if 0>=aa.size then _ else _) _ t;rw[kz (by lia)];simp only[Nat.sub_zero,Nat.min_self,aDR];have fin:∀u,TB f aa u->(pendingOf u).back?=none:=λu b=>by rw[b.pend];rfl
   refine aBy (JN g h0 (aAh _) (by lia) a λn u b O p h=>?_);show wpS _ _ _ _ (if n<aa.size then _ else _) _ u;by_cases k:n<aa.size
   .rw[kd k];refine aBy (wpS_lift<|aDD ⟨rfl,aBy (oG g h0 (aAh _) p b h λv l y=>?_)⟩);simp only[aDe,aAt,if_false];refine aBy (wpS_get ?_);rw[fin v l];exact aBy (wpS_modify<|aCn<|.inr ⟨aGH _,rfl,done v l y⟩)
   .rw[kz k];obtain rfl:n=aa.size:=by lia
    refine aBy (wpS_get ?_);rw[fin u b];exact aBy (wpS_modify<|aCn<|.inr ⟨aGH _,rfl,done u b h⟩)
  .show wpS _ _ _ _ (if aa.size>=aa.size then _ else _) _ t;rw[kd (aAh _)];exact aCn ⟨rfl,D⟩
 case fin=>
  rcases I with⟨z,_⟩|⟨_,e,D⟩
  .lia
  .exact⟨e,D⟩
 case post=>
  subst e;refine aBy (wpS_mono (Q:=λr u=>u=t/\r=(none,())) (aEo (I:=λ_ r u=>u=t/\r=(none,())) (λ_ r u _ _ ⟨e,d⟩=>?istep) (λ_ _ z=>z) ⟨rfl,rfl⟩) λr u ⟨e,d⟩=>?ipost)
  case istep=>subst e d;refine aBy (wpS_get ?_);rw[kd (by rw[D.2.2.1];exact aAh 1)];exact aCn ⟨rfl,rfl⟩
  case ipost=>subst e d;exact aCn (q _ D.1 D.2.1 D.2.2.2)
end
section
def kq (a:bc)(s c:bb):Prop:=∀b o,b≠a->s.heap.get? b=some o->c.heap.get? b=some o
def yD {P:Fin->bb->Prop}(p:s.heap.get? a=some (seqObj "list" vs.toArray n))(h0:KeysOf κ (pairsOf vs))(x:∀g,kq a s g->SB f A g κ)(r:2<=vs.length->∀g,kq a s g->∀{Q:SortKind->bb->Prop},Q (tupK f) g->ai (be prog w) A (keyKind' vs.toArray) Q E g)(t:vs.length<64)(h:∀c:SortSt,(arrOf c).Perm (pairsOf vs)->SortedToK κ (arrOf c) (pairsOf vs).size->P (.done (.ret .none)) {s with heap:=sortedHeap s.heap a vs ((arrOf c).map (·.2))}):
  ai (be prog w) A (Builtin.«list.sort» ⟨[.ref a],[]⟩) P E s:=by
 rw[list_sort_plain];have y:a<s.heap.objs.size:=aAf p;refine aAa (aEp p rfl ?_);refine aAa (listUpdate_at p rfl ?_);obtain⟨u,k⟩:∃u,(s.heap.update a<|aBG λ_=>#[]).get? a=some (seqObj "list" #[] u):=⟨_,get?_update_seq p _⟩;refine aAa (seqEpoch_at k rfl<|aAa<|aGf<|aAa<|wpAny_newList<|aAK ?_);have z:a≠(s.heap.update a<|aBG λ_=>#[]).objs.size:=by rw[Heap.size_update];exact aAm y
 have l:kq a s {s with heap:=((s.heap.update a<|aBG λ_=>#[]).push (seqObj "tuple" vs.toArray 0)).push (seqObj "list" #[] 0)}:=λb o B e=>aAc _ (aAc _<|(aAw _ _<|aCk B).trans e)
 have d:(((s.heap.update a<|aBG λ_=>#[]).push (seqObj "tuple" vs.toArray 0)).push (seqObj "list" #[] 0)).get? a=some (seqObj "list" #[] u):=aAc _ (aAc _ k);show ai (be prog w) A _ P E {s with heap:=((s.heap.update a<|aBG λ_=>#[]).push (seqObj "tuple" vs.toArray 0)).push (seqObj "list" #[] 0)};dsimp only;have C:vs.toArray.size=vs.length:=by simp
 have m:=h;by_cases q:vs.toArray.size<2
 .rw[kd q,kd q];refine aAa (aAb ?_);rw[StateT.run_pure];refine aAa (aAb ?_);dsimp only;refine aAa (seqEpoch_at d rfl (aAa (listUpdate_at d rfl ?_ (hsz2:=by rw[Array.size_map];show(pairsOf vs).size<=_;rw[aEX,aFu];lia))));simp only[bne_self_eq_false,aAt,if_false];refine aAb (m (SortSt.mk' general' (vs.toArray.zip vs.toArray) #[] 7 none) (aGK _) λi j T H=>?_);have:i=j:=by rw[aEX]at H;lia
  subst this;exact KeyOrd.kle_refl _
 .rw[kz q,kz q];refine aAa (r (by lia) _ l ?_);refine aAa (aCu (mI f (κ:=κ) (x _ l) (aa:=pairsOf vs) (st:=SortSt.mk' (tupK f) (vs.toArray.zip vs.toArray) #[] 7 none) (Q:=λ_ c=>(arrOf c).Perm (pairsOf vs)/\failedOf c=none/\SortedToK κ (arrOf c) (pairsOf vs).size)
   h0 ⟨aGK _,rfl,rfl,rfl⟩ (by rw[aEX];lia) (by rw[aEX];exact t) λc I J L=>⟨I,J,L⟩) ?_ λ_ _ e=>e)
  rintro⟨⟨⟩,c⟩ U ⟨rfl,v,N,O⟩;dsimp only;refine aAa (seqEpoch_at d rfl (aAa (listUpdate_at d rfl ?_ (hsz2:=by refine aAr (aEq<|(Array.size_map ..).trans (v.size_eq.trans<|aEX _)) ?_;rw[aFu];lia))));rw[N];simp only[bne_self_eq_false,aAt,if_false];exact aAb (m c v O)
end
end TS
namespace L2
open PySem PySem.Spec PyProof.Rows
abbrev AS:=Sum Int Str
def OY:AS->af->Bool
 |.inl k,v=>Value.isInt k v
 |.inr x,v=>Value.isStrOf x v
def a1q (w:cy):AS->Int
 |.inl k=>hashInt k
 |.inr x=>hashStr w x
theorem B1:∀{k:AS} {v:af},OY k v=true->(∃i t,k=aGx i/\v=aGL i t)\/(∃x t,k=aGy x/\v=Value.str x t)
 |.inl i,v,h=>by obtain⟨t,e⟩:=Value.isInt_shape (k:=i) (v:=v) h;exact .inl ⟨i,t,rfl,e⟩
 |.inr x,v,h=>by obtain⟨t,e⟩:=Value.isStrOf_shape (x:=x) (v:=v) h;exact .inr ⟨x,t,rfl,e⟩
def ZQ (a b:Int):decide ((aGx a:AS)=aGx b)=(a==b):=by
 by_cases e:a=b
 .subst e;simp
 .have h:¬(aGx a:AS)=aGx b:=λq=>e (Sum.inl.inj q);rw[decide_eq_false h];exact(beq_eq_false_iff_ne.mpr e).symm
def ZU (a b:Str):decide ((aGy a:AS)=aGy b)=decide (a=b):=by
 by_cases e:a=b
 .subst e;simp
 .have h:¬(aGy a:AS)=aGy b:=λq=>e (Sum.inr.inj q);rw[decide_eq_false h,decide_eq_false e]
def bj (a:Int)(b:Str):decide ((aGx a:AS)=aGy b)=false:=decide_eq_false (λq=>nomatch q)
def YB (a:Str)(b:Int):decide ((aGy a:AS)=aGx b)=false:=decide_eq_false (λq=>nomatch q)
def wM (prog:cp)(w:cy):PySem.KeyKind prog w AS where
 is:=OY
 hash:=a1q w
 inj:=λv a b g f=>by
  rcases B1 g with⟨i,t,rfl,rfl⟩|⟨x,t,rfl,rfl⟩
  .rcases B1 f with⟨j,u,rfl,e⟩|⟨y,u,rfl,e⟩
   .injection e with c _;rw[c]
   .exact nomatch e
  .rcases B1 f with⟨j,u,rfl,e⟩|⟨y,u,rfl,e⟩
   .exact nomatch e
   .injection e with c _;rw[c]
 byValue:=λk v h=>by rcases B1 h with⟨i,t,rfl,rfl⟩|⟨x,t,rfl,rfl⟩<;>rfl
 pyHash:=λd h=>by
  rcases B1 d with⟨i,t,rfl,rfl⟩|⟨x,t,rfl,rfl⟩
  .exact wpAny_pyHash_int h
  .exact wpAny_pyHash_str h
 eqBool:=λl d h=>by
  rcases B1 l with⟨i,t,rfl,rfl⟩|⟨x,t,rfl,rfl⟩
  .rcases B1 d with⟨j,u,rfl,rfl⟩|⟨y,u,rfl,rfl⟩
   .rw[ZQ]at h;exact wpAny_eqBool_int h
   .rw[bj]at h;exact aGq i t y u _ _ _ _ h
  .rcases B1 d with⟨j,u,rfl,rfl⟩|⟨y,u,rfl,rfl⟩
   .rw[YB]at h;exact aGr x t j u _ _ _ _ h
   .rw[ZU]at h;exact wpAny_eqBool_str h
 «strs»:=λk x t v h=>by
  rcases B1 h with⟨i,u,rfl,e⟩|⟨y,u,rfl,e⟩
  .exact nomatch e
  .injection e with c _;subst c;cases v<;>rfl
def ZJ (prog:cp)(w:cy)(k:AS)(v:af):(wM prog w).is k v=OY k v:=rfl
inductive V where
 |non|bl (b:Bool)|int (i:Int)|str (x:Str)|byt (b:Array UInt8)|flt (b:UInt64)|ref (a:Addr)|ty (n:String)
 deriving DecidableEq
def RelV:V->af->Prop
 |.non,u=>u=Value.none
 |.bl b,u=>u=aDn b
 |.int i,u=>∃t,u=aGL i t
 |.str x,u=>∃t,u=Value.str x t
 |.byt b,u=>∃t,u=Value.bytes b t
 |.flt b,u=>∃t,u=Value.float b t
 |.ref a,u=>u=aDz a
 |.ty n,u=>u=aCv n
abbrev l7:List V->List af->Prop:=Paired RelV
def l7.length {Y:List V}{a:List af}(r:l7 Y a):Y.length=a.length:=Paired.length r
theorem l7.get:∀{Y:List V} {a:List af} {i:Nat} {x:V},l7 Y a->Y[i]?=some x->∃u,a[i]?=some u/\RelV x u
 |_,_,_,_,.nil,e=>by simp at e
 |_,_,0,_,.cons r _,e=>by simp at e;subst e;exact⟨_,rfl,r⟩
 |_,_,i+1,x,.cons _ t,e=>by obtain⟨u,b,c⟩:=l7.get (i:=i) (x:=x) t (by simpa using e);exact⟨u,by simpa using b,c⟩
theorem l7.set (r:RelV x u):∀{Y:List V} {a:List af} (i:Nat),l7 Y a->l7 (Y.set i x) (a.set i u)
 |_,_,_,.nil=>.nil
 |_,_,0,.cons _ t=>.cons r t
 |_,_,i+1,.cons q t=>.cons q (l7.set r i t)
theorem l7.append:∀{Y a:List V} {b ws:List af},l7 Y b->l7 a ws->l7 (Y++a) (b++ws)
 |_,_,_,_,.nil,s=>s
 |_,_,_,_,.cons r t,s=>.cons r (l7.append t s)
theorem l7.take:∀{Y:List V} {a:List af} (n:Nat),l7 Y a->l7 (Y.take n) (a.take n)
 |_,_,0,_=>.nil
 |_,_,_+1,.nil=>.nil
 |_,_,n+1,.cons r t=>.cons r (l7.take n t)
theorem l7.drop:∀{Y:List V} {a:List af} (n:Nat),l7 Y a->l7 (Y.drop n) (a.drop n)
 |_,_,0,r=>r
 |_,_,_+1,.nil=>.nil
 |_,_,n+1,.cons _ t=>l7.drop n t
def a0f:Option V->Option af->Prop
 |some v,some u=>RelV v u
 |none,none=>True
 |_,_=>False
def KV {κ:Type}:List (κ×V)->List (κ×af)->Prop:=Paired λ(p:κ×V) (q:κ×af)=>p.1=q.1/\RelV p.2 q.2
def kV:AS->V
 |.inl i=>.int i
 |.inr x=>.str x
inductive HO where
 |lst (Y:List V)
 |tup (Y:List V)
 |dK (U:List (AS×V))|dT (U:List (List AS×V))
 |set (S:Int->Bool) (n:Nat)
 |ins (C dx:Addr) (fs:List (Str×V))
 |own (x:Addr)
 |xd (fs:List (Str×V))
 |met (f x:Addr)
 |rng (lo hi:Int)
 |frz (o:Obj) (u:HO)
 |tbl (tb:List (Pos×Str))
 |ext (φ:Heap->Prop)
abbrev Hp:=bc->Option HO
def upd (H:Hp)(a:bc)(o:HO):Hp:=λb=>if b=a then some o else H b
def j3:upd H a o a=some o:=by unfold upd;rw[kd rfl]
def k7 (h:b≠a):upd H a o b=H b:=by unfold upd;rw[kz h]
def t4 {H:Hp}{a b:bc}{o:HO}(h:H a=some o)(h':H b=none):a≠b:=by intro e;subst e;rw[h]at h';cases h'
section
variable(P:cp) (w:cy)
def ObjOk (H:Hp)(h:df)(a:bc):HO->Prop
 |.lst Y=>Y.length<=sizeLine/\∃(b:List af) (n:Nat),l7 Y b/\h.get? a=some {cls:=.type "list",data:=.seq b.toArray n}
 |.tup Y=>Y.length<=sizeLine/\∃b:List af,l7 Y b/\IsTup h a b.toArray
 |.dK U=>U.length<=sizeLine/\(a==ij)=false/\∃e,KV U e/\h.DictOf (wM P w) a e
 |.dT U=>U.length<=sizeLine/\(a==ij)=false/\∃Y:List (List AS×bc×af),
  Paired (λ(p:List AS×V) (q:List AS×bc×af)=>p.1=q.1/\H q.2.1=some (.tup (p.1.map kV))/\RelV p.2 q.2.2) U Y/\
  ∃o l y,h.get? a=some o/\o.ExactDict/\o.data=.dict l y/\l.toList=Y.map (entryOfKey<|tupleKind<|wM P w)/\(Y.map (·.1)).Nodup
 |.set S n=>h.SetOf (intKind P w) a S n
 |.ins C g fs=>H g=some (.own a)/\fs.length<=1000/\g≠a/\h.get? a=some (PySem.W.instObj C g)/\
  ∃d,h.Ns1 g d/\(∀f,a0f (fs.lookup f) (d f))/\PySem.Within d (fs.map (·.1))
 |.own _=>∃o,h.get? a=some o
 |.xd fs=>∃d,h.Ns1 a d/\∀f,a0f (fs.lookup f) (d f)
 |.rng lo z=>∃t u v,h.get? a=some {cls:=.type "range",data:=.fields #[.int lo t,.int z u,.int 1 v]}
 |.frz o u=>h.get? a=some o/\ObjOk H h a u
 |.tbl A=>∃k:Array af,h.get? a=some {cls:=.none,data:=.fields k}/\TriplesOk k.toList/\∀p∈A,gi p.1 k.toList=none\/∃c m e t,gi p.1 k.toList=some (.ref c)/\H c=some (.frz m (.own c))/\m.data=.fields e/\e[1]?=some (.str p.2 t)
 |.met f x=>h.get? a=some (PySem.W.methodObj (.ref f)<|.ref x)
 |.ext φ=>φ h/\(∃o,h.get? a=some o)/\∀r s:df,φ r->(∀o,r.get? a=some o->s.get? a=some o)->φ s
def XC:HO->Prop
 |.tup _=>True
 |.frz o _=>∃a,o.data=.fields a
 |_=>False
def fX (H:Hp)(h:df):Prop:=∀a o,H a=some o->ObjOk P w H h a o
end
section
variable{P:cp} {w:cy} {H H':Hp} {h h':df} {a:bc} {o:HO}
def ObjOk.lt (x:ObjOk P w H h a o):a<h.objs.size:=by
 cases o with
 |lst Y=>obtain⟨_,_,_,_,e⟩:=x;exact aAf e
 |tup Y=>obtain⟨_,_,_,p⟩:=x;exact p.lt
 |dK U=>obtain⟨_,_,_,_,o,_,_,e,_⟩:=x;exact aAf e
 |dT U=>obtain⟨_,_,_,_,o,_,_,e,_⟩:=x;exact aAf e
 |set S n=>obtain⟨o,_,_,_,e,_⟩:=x;exact aAf e
 |ins C b fs=>obtain⟨_,_,_,e,_⟩:=x;exact aAf e
 |own y=>obtain⟨_,e⟩:=x;exact aAf e
 |xd fs=>obtain⟨_,⟨_,_,_,e,_⟩,_⟩:=x;exact aAf e
 |rng lo c=>obtain⟨_,_,_,e⟩:=x;exact aAf e
 |frz d u=>obtain⟨e,_⟩:=x;exact aAf e
 |tbl g=>obtain⟨_,e,_⟩:=x;exact aAf e
 |met f y=>exact aAf (show h.get? a=some _ from x)
 |ext φ=>obtain⟨_,⟨_,e⟩,_⟩:=x;exact aAf e
theorem Paired.af3 {α β:Type}{F G:α->β->Prop}:∀{l₁:List α} {l₂:List β},Paired F l₁ l₂->(∀a b,F a b->G a b)->Paired G l₁ l₂
 |_,_,.nil,_=>.nil
 |_,_,.cons r t,f=>.cons (f _ _ r) (Paired.af3 t f)
def ObjOk.ab7 (x:ObjOk P w H h a o)(k:∀b u,(b=a\/H b=some (.own a))->h.get? b=some u->h'.get? b=some u)
  (N:∀b,H b=some (.own a)->H' b=some (.own a)) (J:∀b u,XC u->H b=some u->H' b=some u):ObjOk P w H' h' a o:=by
 induction o with
 |lst Y=>obtain⟨z,s,n,r,e⟩:=x;exact⟨z,s,n,r,k _ _ (.inl rfl) e⟩
 |tup Y=>obtain⟨z,s,r,g,e,c⟩:=x;exact⟨z,s,r,g,k _ _ (.inl rfl) e,c⟩
 |dK U=>obtain⟨z,y,A,r,g,l,m,e,c⟩:=x;exact⟨z,y,A,r,g,l,m,k _ _ (.inl rfl) e,c⟩
 |dT U=>obtain⟨z,y,Y,r,g,l,m,e,c⟩:=x;exact⟨z,y,Y,Paired.af3 r λp q z=>⟨z.1,J _ _ trivial z.2.1,z.2.2⟩,g,l,m,k _ _ (.inl rfl) e,c⟩
 |set S n=>obtain⟨g,l,m,t,e,c⟩:=x;exact⟨g,l,m,t,k _ _ (.inl rfl) e,c⟩
 |ins C dx fs=>obtain⟨d,z,ne,e,B,⟨E,l,m,I,c⟩,r⟩:=x;exact⟨N _ d,z,ne,k _ _ (.inl rfl) e,B,⟨E,l,m,k _ _ (.inr d) I,c⟩,r⟩
 |own y=>obtain⟨g,e⟩:=x;exact⟨g,k _ _ (.inl rfl) e⟩
 |xd fs=>obtain⟨B,⟨E,l,m,e,c⟩,r⟩:=x;exact⟨B,⟨E,l,m,k _ _ (.inl rfl) e,c⟩,r⟩
 |rng lo hi=>obtain⟨t,u,v,e⟩:=x;exact⟨t,u,v,k _ _ (.inl rfl) e⟩
 |frz g u O=>obtain⟨e,q⟩:=x;exact⟨k _ _ (.inl rfl) e,O q⟩
 |tbl tb=>obtain⟨Q,e,t,f⟩:=x;exact⟨Q,k a _ (.inl rfl) e,t,λp T=>(f p T).imp id λ⟨c,oc,A,t,e1,I,L⟩=>⟨c,oc,A,t,e1,J _ _ ⟨A,L.1⟩ I,L⟩⟩
 |met f y=>have e:h.get? a=some (PySem.W.methodObj (.ref f)<|.ref y):=x;show h'.get? a=some (PySem.W.methodObj (.ref f)<|.ref y);exact k a _ (.inl rfl) e
 |ext φ=>obtain⟨p,⟨o,e⟩,st⟩:=x;exact⟨st _ _ p λo q=>k _ _ (.inl rfl) q,⟨o,k _ _ (.inl rfl) e⟩,st⟩
def fX.lt (x:fX P w H h)(e:H a=some o):a<h.objs.size:=(x a o e).lt
def fX.fresh (x:fX P w H h)(e:h.objs.size<=a):H a=none:=by
 cases q:H a with
 |none=>rfl
 |some u=>exact absurd (aAu (x.lt q) e) (aBc _)
def fX.kept (x:fX P w H h)(k:∀b u,h.get? b=some u->h'.get? b=some u):fX P w H h':=λa o e=>(x a o e).ab7 (λb u _ q=>k b u q) (λ_ q=>q) λ_ _ _ q=>q
def fX.laid (x:fX P w H h)(k:∀b u,h.get? b=some u->h'.get? b=some u)(l:h.objs.size<=a)(d:ObjOk P w (upd H a o) h' a o):fX P w (upd H a o) h':=λb u e=>by
 have f:=x.fresh l;by_cases g:b=a
 .subst g;rw[j3]at e;cases e;exact d
 .rw[k7 g]at e;exact(x b u e).ab7 (λc v _ q=>k c v q) (λc q=>by rw[k7 (t4 q f)];exact q) λc Y _ q=>by rw[k7 (t4 q f)];exact q
end
def Rd (H:Hp)(a:bc)(u:HO):Prop:=H a=some u\/∃o,H a=some (.frz o u)
def Rd.ok (r:Rd H a u)(x:fX P w H h):ObjOk P w H h a u:=by
 rcases r with r|⟨o,r⟩
 .exact x a u r
 .obtain⟨_,q⟩:=x a _ r;exact q
def Mut:Option HO->Prop
 |some (.lst _)=>True
 |some (.dK _)=>True
 |some (.dT _)=>True
 |some (.set _ _)=>True
 |some (.ins _ _ _)=>True
 |some (.ext _)=>True
 |_=>False
section
variable{P:cp} {w:cy} {H:Hp} {h h':df} {x e:bc} {o':HO}
def fX.write (ok:fX P w H h)(g:Mut (H x))(s:e=x\/H e=some (.own x))(k:∀b u,b≠e->h.get? b=some u->h'.get? b=some u)(o:∃u,h'.get? e=some u)
  (p:ObjOk P w (upd H x o') h' x o'):fX P w (upd H x o') h':=λb u q=>by
 have a:∀c y,H c=some (.own y)->c≠x:=λc y r z=>by subst z;rw[r]at g;exact g
 have d:∀c u,XC u->H c=some u->c≠x:=λc u f r z=>by subst z;rw[r]at g;cases u<;>first|exact g|exact f
 by_cases l:b=x
 .subst l;rw[j3]at q;cases q;exact p
 .rw[k7 l]at q;by_cases m:b=e
  .have t:H b=some (.own x):=by
    rcases s with z|z
    .exact absurd (m.trans z) l
    .rw[m];exact z
   rw[q]at t;cases t;obtain⟨v,A⟩:=o;exact⟨v,by rw[m];exact A⟩
  .refine(ok b u q).ab7 (λc v n r=>k c v ?_ r) (λc r=>by rw[k7 (a c b r)];exact r) λc Y f r=>by rw[k7 (d c Y f r)];exact r
   rcases n with rfl|n
   .exact m
   .rintro rfl;rcases s with z|z
    .exact a c b n z
    .rw[n]at z;cases z;exact l rfl
end
structure Un (fs ex:List Addr)(H H':Hp)(h h':Heap):Prop where
 keep:∀b o,h.get? b=some o->H b=none->b∉fs->b∉ex->h'.get? b=some o
 slot:∀b o,h.get? b=some o->H b=none->b∈fs->b∉ex->∃sl,h'.get? b=some {o with slots:=sl}
 free:∀b o,h.get? b=some o->H b=none->b∉ex->H' b=none
 there:∀b o,h.get? b=some o->b∉ex->∃o',h'.get? b=some o'
 tups:∀b Y,H b=some (.tup Y)->H' b=some (.tup Y)
 frzs:∀b o u,H b=some (.frz o u)->H' b=some (.frz o u)
 tbls:∀b tb,H b=some (.tbl tb)->H' b=some (.tbl tb)
section
variable{fs xu ex ex':List bc} {H H1 H2:Hp} {h h1 h2 h':df} {a x e:bc} {o:HO}
def Un.any (u:Un fs ex H H1 h h1)(q:h.get? b=some c)(n:H b=none)(d:b∉ex):∃sl,h1.get? b=some {c with slots:=sl}:=by
 by_cases f:b∈fs
 .exact u.slot b c q n f d
 .exact⟨c.slots,u.keep b c q n f d⟩
def Un.kept (k:∀b u,h.get? b=some u->h'.get? b=some u):Un fs ex H H h h':=
 ⟨λb c q _ _ _=>k b c q,λb c q _ _ _=>⟨c.slots,k b c q⟩,λ_ _ _ n _=>n,λb c q _=>⟨c,k b c q⟩,λ_ _ q=>q,λ_ _ _ q=>q,λ_ _ q=>q⟩
def Un.refl:Un fs ex H H h h:=Un.kept λ_ _ q=>q
def Un.laid (k:∀b u,h.get? b=some u->h'.get? b=some u)(d:h.objs.size<=a)(c:H a=none):Un fs ex H (upd H a o) h h' where
 keep:=λb u q _ _ _=>k b u q
 slot:=λb u q _ _ _=>⟨u.slots,k b u q⟩
 free:=λb u q n _=>by rw[k7 (aAm<|aAu (aAf q) d)];exact n
 there:=λb u q _=>⟨u,k b u q⟩
 tups:=λb Y q=>by rw[k7 (t4 q c)];exact q
 frzs:=λb u Y q=>by rw[k7 (t4 q c)];exact q
 tbls:=λb f q=>by rw[k7 (t4 q c)];exact q
def Un.write (c:Mut (H x))(p:e=x\/H e=some (.own x))(k:∀b u,b≠e->h.get? b=some u->h'.get? b=some u)(d:∃u,h'.get? e=some u):Un fs ex H (upd H x o) h h':=by
 have g:∀b,H b=none->b≠x:=λb n z=>by subst z;rw[n]at c;exact c
 have l:∀b,H b=none->b≠e:=λb n z=>by
  subst z;rcases p with r|r
  .exact g b n r
  .rw[n]at r;cases r
 have f:∀b u,H b=some u->¬Mut (some u)->b≠x:=λb u q s z=>by subst z;rw[q]at c;exact s c
 refine⟨λb u q n _ _=>k b u (l b n) q,λb u q n _ _=>⟨u.slots,k b u (l b n) q⟩,λb u q n _=>by rw[k7 (g b n)];exact n,λb u q _=>?_,
  λb Y q=>by rw[k7 (f b _ q λz=>z)];exact q,λb u Y q=>by rw[k7 (f b _ q λz=>z)];exact q,λb t q=>by rw[k7 (f b _ q λz=>z)];exact q⟩
 by_cases m:b=e
 .subst m;exact d
 .exact⟨u,k b u m q⟩
end
def trk (h:df)(H:Hp):List bc:=(aBF h.objs.size).filter λa=>(H a).isSome
def qW (h:df)(H:Hp):df:=PySem.W.hideAll h (trk h H)
def IM (h:df)(H:Hp):(qW h H).objs.size=h.objs.size:=PySem.W.hideAll_size _ _
def NV (e:h.get? b=some o)(n:H b=none):(qW h H).get? b=some o:=
 PySem.W.hideAll_get _ e λa=>by have q:(H b).isSome=true:=(aBQ.mp a).2;rw[n]at q;simp at q
def VX (e:(qW h H).get? b=some o):h.get? b=some o/\H b=none:=by
 have a:h.get? b=some o:=PySem.W.of_hideAll (trk h H) e;refine⟨a,?_⟩;cases q:H b with
 |none=>rfl
 |some x=>have c:b∈trk h H:=aBQ.mpr ⟨aCB.mpr (aAf a),by simp[q]⟩;have z:(qW h H).get? b=none:=PySem.W.hideAll_none (trk h H) c;rw[z]at e;cases e
def TF (g h:df)(L:bc):List (bc×Obj):=(aBF h.objs.size).filterMap λa=>if a=L\/(g.get? a).isSome=true then none else(h.get? a).map λo=>(a,o)
def rest (g h:df)(L d:bc):List (bc×Obj):=(TF g h L).filter λp=>decide (p.1≠d)
structure Mod (K:PySem.W.Frag)(mg:cH)(base:Heap):Prop where
 kin:K.In base
 glob:base.Ns mainGlobals mg
 blt:∃mb,base.Ns builtinsNs mb/\∀x:Str,x≠ "__name__"->mb x=bootBuiltins x
 nolimit:base.NoLimit
structure Cx where
 prog:Program
 w:World
 K:PySem.W.Frag
 mg:Str->Option Value
 base:Heap
 A:Around
 N:List Str
 s9:Shared
 H9:Hp
 env:Env
 outer:List Env
 stack:List Env
 ex:List Addr
 fn:Str->Bool
 calm:Bool
 pn:List (Addr×Obj)
 xe:Value->Shared->Prop
def zU (l:List Env):List bc:=l.filterMap (·.frame)
abbrev Cx.fs (X:Cx):List bc:=zU X.outer
def xU (sc:kb)(x:Str):Prop:=sc.names.lookup x=some .local\/sc.names.lookup x=some .cell\/sc.names.lookup x=some .free
def Loc (sc:kb)(x:Str):Prop:=sc.names.lookup x=some .local\/sc.names.lookup x=some .cell
def Look (env:Env)(h:df)(m:cH)(x:Str)(u:af):Prop:=
 (env.kindOf x=some .local/\m x=some u)\/((env.kindOf x=some .cell\/env.kindOf x=some .free)/\∃c,env.cells.lookup x=some c/\h.IsCell c (some u))
structure Cx.Ok (X:Cx):Prop where
 mod:Mod X.K X.mg X.base
 kind:X.env.scope.kind=.function
 glob:X.env.globals=mainGlobals
 blt:X.env.builtins=builtinsNs
 above:X.s9.heap.objs.size<=X.env.locals
 inj:∀x y c,X.env.cells.lookup x=some c->X.env.cells.lookup y=some c->x=y
 has:∀x,(X.env.kindOf x=some .cell\/X.env.kindOf x=some .free)->∃c,X.env.cells.lookup x=some c
 cab:∀x c,X.fn x=true->X.env.cells.lookup x=some c->X.s9.heap.objs.size<=c
 hd:X.calm=true->X.A.handled=none
 frames:X.A.frames=some X.stack
 stk:X.stack=X.outer\/(X.stack=X.env::X.outer/\X.env.frame=some X.env.locals)
 exf:∀b∈X.ex,b≠X.env.locals/\∀x c,X.env.cells.lookup x=some c->c≠b
 bs:∀b o,X.base.get? b=some o->X.s9.heap.get? b=some o/\X.H9 b=none
 bsz:X.base.objs.size<=X.s9.heap.objs.size
 noex:∀b o,X.base.get? b=some o->b∉X.ex
 exfs:∀b∈X.ex,b∉X.fs
 funs:X.s9.heap.FunFrames X.base X.outer
 frf:∀b∈X.fs,X.H9 b=none
structure Inv (X:Cx)(pins:N2)(σ:List (Option V))(H:Hp)(s:Shared):Prop where
 ok:X.Ok
 os:s.os=X.s9.os
 bare:AllBare s.gens
 base:Un X.fs X.ex X.H9 H X.s9.heap s.heap
 loc:∃m,s.heap.Ns X.env.locals m/\∀(i:Nat) (x:Str) (v:V),X.N[i]?=some x->σ[i]?=some (some v)->xU X.env.scope x->∃u,RelV v u/\Look X.env s.heap m x u
 cell:∀x c,X.env.cells.lookup x=some c->∃v,s.heap.IsCell c v
 free:H X.env.locals=none
 freeC:∀x c,X.env.cells.lookup x=some c->H c=none
 pin:∀p∈X.pn++pins,s.heap.get? p.1=some p.2/\H p.1=none/\p.1≠X.env.locals/\p.1∉X.fs/\∀v,p.2.data≠.cell v
 hok:fX X.prog X.w H s.heap
 len:σ.length=X.N.length
section
variable{X:Cx} {pins:N2} {σ:List (Option V)} {H H':Hp} {s:bb} {h':df}
def Cx.Ok.nofr (ok:X.Ok)(e:X.base.get? b=some o):b∉X.fs:=λa=>by have:=(ok.funs.mem a).1;rw[e]at this;cases this
def Inv.bs (I:Inv X pins σ H s):∀b o,X.base.get? b=some o->s.heap.get? b=some o/\H b=none:=λb o e=>⟨I.base.keep b o (I.ok.bs b o e).1 (I.ok.bs b o e).2 (I.ok.nofr e) (I.ok.noex b o e),I.base.free b o (I.ok.bs b o e).1 (I.ok.bs b o e).2 (I.ok.noex b o e)⟩
def Inv.bk (I:Inv X pins σ H s):∀b o,X.base.get? b=some o->s.heap.get? b=some o:=λb o e=>(I.bs b o e).1
def Inv.mod (I:Inv X pins σ H s):Mod X.K X.mg X.base:=I.ok.mod
def Inv.kIn (I:Inv X pins σ H s):X.K.In s.heap:=I.ok.mod.kin.keeps I.bk
def Inv.lt (I:Inv X pins σ H s):X.env.locals<s.heap.objs.size:=let⟨_,a,_⟩:=I.loc;a.lt
def Inv.sz (I:Inv X pins σ H s):X.s9.heap.objs.size<=s.heap.objs.size:=aAr I.ok.above (aDy I.lt)
def Inv.ag2 (I:Inv X pins σ H s)(h:s.heap.objs.size<=a):a∉X.fs:=λb=>by obtain⟨_,o,c,_⟩:=I.ok.funs.mem b;exact absurd (aAu (aAf c)<|aAr I.sz h) (aBc _)
def Inv.cne (I:Inv X pins σ H s):∀x c,X.env.cells.lookup x=some c->c≠X.env.locals:=λx c e z=>by obtain⟨v,o,a,b⟩:=I.cell x c e;obtain⟨m,⟨g,h,k,d,f,_⟩,_⟩:=I.loc;rw[z,d]at a;cases a;rw[f]at b;cases b
def Inv.funs (I:Inv X pins σ H s):s.heap.FunFrames X.base X.outer:=by
 have all:∀(l:List Env),(∀b∈zU l,b∈X.fs)->X.s9.heap.FunFrames X.base l->s.heap.FunFrames X.base l:=by
  intro l;induction l with
  |nil=>intro _ _;trivial
  |cons g r h=>intro f k;obtain⟨m,⟨L,o,a,n,p,q⟩,t⟩:=k;have c:L∈X.fs:=f L (by unfold zU;rw[aCG,a];exact aAU);obtain⟨u,e⟩:=I.base.slot L o p (I.ok.frf L c) c λz=>I.ok.exfs L z c;exact⟨m,⟨L,_,a,n,e,q⟩,h (λb d=>f b (by unfold zU;rw[aCG,a];exact aAe _ d)) t⟩
 exact all X.outer (λ_ d=>d) I.ok.funs
def Inv.stack (I:Inv X pins σ H s):s.heap.FunFrames X.base X.stack:=by
 rcases I.ok.stk with e|⟨e,a⟩
 .rw[e];exact I.funs
 .rw[e];obtain⟨m,b,_⟩:=I.loc;refine .cons (by rw[I.ok.kind];decide) a b ?_ I.funs;exact aEA (aAr I.ok.bsz I.ok.above)
def Inv.ab6 (I:Inv X pins σ H s):∀b∈zU X.stack,b∈X.env.locals::X.fs:=λb a=>by
 rcases I.ok.stk with e|⟨e,c⟩
 .rw[e]at a;exact aAe _ a
 .rw[e]at a;unfold zU at a;rw[aCG,c]at a;exact a
def Inv.ad5 (I:Inv X pins σ H s):∀b∈zU X.stack,H b=none:=λb a=>by
 rcases aAd.mp (I.ab6 b a)with e|a
 .rw[e];exact I.free
 .obtain⟨_,o,c,_⟩:=I.ok.funs.mem a;exact I.base.free b o c (I.ok.frf b a) λz=>I.ok.exfs b z a
def Inv.step {g':Array GenState}{t':Nat}{d':Drawn}{ch:List bc}(I:Inv X pins σ H s)
  (J:∀b∈ch,(b∈X.ex\/X.s9.heap.objs.size<=b)/\b≠X.env.locals/\(∀x c,X.env.cells.lookup x=some c->c≠b)/\∀p∈X.pn++pins,p.1≠b)
  (g:∀b o,b≠X.env.locals->b∉X.fs->b∉ch->s.heap.get? b=some o->H b=none->h'.get? b=some o)
  (slot:∀b o,b≠X.env.locals->b∈X.fs->b∉ch->s.heap.get? b=some o->H b=none->∃sl,h'.get? b=some {o with slots:=sl}) (f:∀b o,b∉ch->s.heap.get? b=some o->H b=none->H' b=none)
  (A:∀b o,b∉ch->s.heap.get? b=some o->∃L,h'.get? b=some L)
  (N:∀b Y,H b=some (.tup Y)->H' b=some (.tup Y)) (O:∀b o u,H b=some (.frz o u)->H' b=some (.frz o u)) (Q:∀b tb,H b=some (.tbl tb)->H' b=some (.tbl tb))
  (ns:∀m,s.heap.Ns X.env.locals m->h'.Ns X.env.locals m) (U:fX X.prog X.w H' h') (hg:AllBare g'):
  Inv X pins σ H' {s with heap:=h',gens:=g',drawn:=d',toks:=t'}:=by
 have T:∀b o,X.s9.heap.get? b=some o->b≠X.env.locals:=λb o e=>aAm (aAu (aAf e) I.ok.above);have y:∀b o,X.s9.heap.get? b=some o->b∉X.ex->b∉ch:=λb o e a B=>by
  rcases(J b B).1 with z|z
  .exact a z
  .exact absurd (aAu (aAf e) z) (aBc _)
 have h:∀x c,X.env.cells.lookup x=some c->∀v,s.heap.IsCell c v->h'.IsCell c v:=λx c e v ⟨o,E,hd⟩=>by
  have t:c∉ch:=λz=>(J c z).2.2.1 x c e rfl;by_cases hc:c∈X.fs
  .obtain⟨sl,q⟩:=slot c o (I.cne x c e) hc t E (I.freeC x c e);exact⟨_,q,hd⟩
  .exact⟨o,g c o (I.cne x c e) hc t E (I.freeC x c e),hd⟩
 refine⟨I.ok,I.os,hg,⟨λb o e n B a=>?_,λb o e n B a=>?_,λb o e n a=>?_,λb o e a=>?_,λb Y e=>N b Y (I.base.tups b Y e),λb o Y e=>O b o Y (I.base.frzs b o Y e),λb ps e=>?_⟩,?_,λx c e=>?_,?_,λx c e=>?_,λp hp=>?_,U,I.len⟩
 .exact g b o (T b o e) B (y b o e a) (I.base.keep b o e n B a) (I.base.free b o e n a)
 .obtain⟨sl,C⟩:=I.base.slot b o e n B a;obtain⟨sl',e2⟩:=slot b _ (T b o e) B (y b o e a) C (I.base.free b o e n a);exact⟨sl',e2⟩
 .obtain⟨L,C⟩:=I.base.there b o e a;exact f b L (y b o e a) C (I.base.free b o e n a)
 .obtain⟨L,C⟩:=I.base.there b o e a;exact A b L (y b o e a) C
 .exact Q b ps (I.base.tbls b ps e)
 .obtain⟨m,hn,hl⟩:=I.loc;refine⟨m,ns m hn,λi x v C e2 e3=>?_⟩;obtain⟨u,r,l⟩:=hl i x v C e2 e3;refine⟨u,r,?_⟩;rcases l with l|⟨k,c,e,z⟩
  .exact .inl l
  .exact .inr ⟨k,c,e,h x c e _ z⟩
 .obtain⟨v,z⟩:=I.cell x c e;exact⟨v,h x c e v z⟩
 .obtain⟨m,⟨o,_,_,E,_⟩,_⟩:=I.loc;exact f _ o (λz=>(J _ z).2.1 rfl) E I.free
 .obtain⟨v,o,E,hd⟩:=I.cell x c e;exact f c o (λz=>(J c z).2.2.1 x c e rfl) E (I.freeC x c e)
 .obtain⟨e,n,ne,nf,d⟩:=I.pin p hp;have t:p.1∉ch:=λz=>(J p.1 z).2.2.2 p hp rfl;exact⟨g p.1 p.2 ne nf t e n,f p.1 p.2 t e n,ne,nf,d⟩
def Inv.un {t':Nat}(I:Inv X pins σ H s)(u:Un X.fs [] H H' s.heap h')(a:fX X.prog X.w H' h'):Inv X pins σ H' {s with heap:=h',toks:=t'}:=by
 obtain⟨m,⟨o,q,t,g,r⟩,_⟩:=id I.loc;obtain⟨v,k⟩:=u.any g I.free (by simp);exact I.step (g':=s.gens) (d':=s.drawn) (ch:=[]) (λ_ z=>nomatch z) (λb o _ c _ e n=>u.keep b o e n c (by simp)) (λb o _ c _ e n=>u.slot b o e n c (by simp)) (λb o _ e n=>u.free b o e n (by simp)) (λb o _ e=>u.there b o e (by simp)) u.tups u.frzs u.tbls (λx l=>by obtain⟨y,d,f,h,p⟩:=l;rw[g]at h;cases h;exact⟨_,d,f,k,p⟩) a I.bare
def Inv.call {g':Array GenState}{t':Nat}{d':Drawn}{ch:List bc}(I:Inv X pins σ H s)(u:Un (zU X.stack) ch H H' s.heap h')(d:fX X.prog X.w H' h')(t:AllBare g')
  (k:∀b∈ch,(b∈X.ex\/X.s9.heap.objs.size<=b)/\b≠X.env.locals/\(∀x c,X.env.cells.lookup x=some c->c≠b)/\∀p∈X.pn++pins,p.1≠b):
  Inv X pins σ H' {s with heap:=h',gens:=g',drawn:=d',toks:=t'}:=by
 obtain⟨m,⟨o,B,C,l,r⟩,_⟩:=id I.loc;obtain⟨E,f⟩:=u.any l I.free λz=>(k _ z).2.1 rfl;exact I.step (ch:=ch) k (λb o f v a e n=>u.keep b o e n (λz=>(aAd.mp<|I.ab6 b z).elim f v) a) (λb o _ _ a e n=>u.any e n a) (λb o a e n=>u.free b o e n a) (λb o a e=>u.there b o e a) u.tups u.frzs u.tbls (λJ y=>by obtain⟨L,g,h,q,A⟩:=y;rw[l]at q;cases q;exact⟨_,g,h,f,A⟩) d t
def Inv.turned {t':Nat}{it:bc}(I:Inv X pins σ H s)(k:∀b o,b≠it->s.heap.get? b=some o->h'.get? b=some o)(g:H it=none)(f:it≠X.env.locals)
  (h:it∈X.ex\/X.s9.heap.objs.size<=it) (l:∀x c,X.env.cells.lookup x=some c->c≠it) (t:∀p∈X.pn++pins,p.1≠it):Inv X pins σ H {s with heap:=h',toks:=t'}:=by
 have d:∀b u,H b=some u->b≠it:=λb u e z=>by rw[z,g]at e;cases e
 refine I.step (g':=s.gens) (d':=s.drawn) (ch:=[it]) (λb w=>?_) (λb o _ _ a e _=>k b o (λz=>a (by simp[z])) e) (λb o _ _ a e _=>⟨o.slots,k b o (λz=>a (by simp[z])) e⟩) (λ_ _ _ _ n=>n)
  (λb o a e=>⟨o,k b o (λz=>a (by simp[z])) e⟩) (λ_ _ e=>e) (λ_ _ _ e=>e) (λ_ _ e=>e) (λm y=>?_) (λb u e=>?_) I.bare
 .have e:b=it:=by simpa using w
  subst e;exact⟨h,f,l,t⟩
 .obtain⟨o,A,B,C,r⟩:=y;exact⟨o,A,B,k _ o (aCk f) C,r⟩
 .refine(I.hok b u e).ab7 (λc v a q=>k c v ?_ q) (λ_ q=>q) λ_ _ _ q=>q;rcases a with z|z
  .rw[z];exact d b u e
  .exact d c _ z
def Inv.tok (I:Inv X pins σ H s)(t:Nat):Inv X pins σ H {s with toks:=t}:=I.un (h':=s.heap) (t':=t) Un.refl I.hok
def Inv.kept (I:Inv X pins σ H s)(k:∀b u,s.heap.get? b=some u->h'.get? b=some u):Inv X pins σ H {s with heap:=h',toks:=t'}:=I.un (Un.kept k) (I.hok.kept k)
def Inv.laid (I:Inv X pins σ H s)(k:∀b u,s.heap.get? b=some u->h'.get? b=some u)(c:s.heap.objs.size<=a)(d:ObjOk X.prog X.w (upd H a o) h' a o):
 Inv X pins σ (upd H a o) {s with heap:=h',toks:=t'}:=I.un (Un.laid k c<|I.hok.fresh c) (I.hok.laid k c d)
def Inv.write (I:Inv X pins σ H s)(d:Mut (H x))(f:e=x\/H e=some (.own x))(k:∀b u,b≠e->s.heap.get? b=some u->h'.get? b=some u)(a:∃u,h'.get? e=some u)(c:ObjOk X.prog X.w (upd H x o) h' x o):Inv X pins σ (upd H x o) {s with heap:=h',toks:=t'}:=I.un (Un.write d f k a) (I.hok.write d f k a c)
def Inv.ad2 (I:Inv X pins σ H s)(h:∀p∈a,s.heap.get? p.1=some p.2/\H p.1=none/\p.1≠X.env.locals/\p.1∉X.fs/\∀v,p.2.data≠.cell v):Inv X a σ H s:=
 ⟨I.ok,I.os,I.bare,I.base,I.loc,I.cell,I.free,I.freeC,λp b=>(aAN.mp b).elim (λz=>I.pin p (aBK _ z)) (h p),I.hok,I.len⟩
def yA {N:List Str}(c:N.Nodup){i j:Nat}{x:Str}(a:N[i]?=some x)(b:N[j]?=some x):i=j:=by obtain⟨f,d⟩:=aAy.mp a;obtain⟨g,e⟩:=aAy.mp b;exact(List.getElem_inj c).mp (d.trans e.symm)
def sI {M:Model}{A:cv}{E:B4}{i:Nat}{x:Str}{v:V}{u:af}{Q:Unit->bb->Prop}(I:Inv X pins σ H s)(hN:X.N.Nodup)(U:X.N[i]?=some x)(B:Loc X.env.scope x)(r:RelV v u)
  (h:∀s',Inv X pins (σ.set i (some v)) H s'->(∃a,Heap.SameBut a s.heap s'.heap/\(a=X.env.locals\/X.env.cells.lookup x=some a))->Q () s') (hf:X.fn x=true\/X.env.scope.names.lookup x=some .local:=by first|exact .inl rfl|exact .inr rfl|assumption):ai M A (storeName X.env x u) Q E s:=by
 obtain⟨m,hn,hl⟩:=id I.loc;have Y:(X.env.scope.kind==.class||(X.env.scope.kind==.module&&X.env.locals !=X.env.globals))=false:=by rw[I.ok.kind];rfl
 have J:i<σ.length:=by rw[I.len];exact(aAy.mp U).1
 have cne:=I.cne;have g:∀{a:bc} {h':df},(∃o,s.heap.get? a=some o/\H a=none)->Heap.SameBut a s.heap h'->fX X.prog X.w H h':=λ{a h'} ha f b ob e=>by
  obtain⟨_,_,kl⟩:=ha;refine(I.hok b ob e).ab7 (λc w' t q=>(f.2 c ?_).trans q) (λ_ q=>q) λ_ _ _ q=>q;rintro rfl;rcases t with rfl|t
  .rw[kl]at e;cases e
  .rw[kl]at t;cases t
 rcases B with L|L
 .refine wpAny_storeName_local L hn (λh' hn' f=>?_) Y;obtain⟨oL,_,_,hoL,_⟩:=id hn;refine h _ ⟨I.ok,I.os,I.bare,⟨λb o e n O B=>?_,λb o e n O B=>?_,I.base.free,λb o e B=>?_,I.base.tups,I.base.frzs,I.base.tbls⟩,⟨_,hn',λj y v' l C e3=>?_⟩,λy c e=>?_,I.free,I.freeC,λp hp=>?_,g ⟨oL,hoL,I.free⟩ f,by simpa using I.len⟩ ⟨_,f,.inl rfl⟩
  .exact(f.2 b (aAm<|aAu (aAf e) I.ok.above)).trans (I.base.keep b o e n O B)
  .obtain⟨sl,l⟩:=I.base.slot b o e n O B;exact⟨sl,(f.2 b (aAm<|aAu (aAf e) I.ok.above)).trans l⟩
  .obtain⟨o',l⟩:=I.base.there b o e B;exact⟨o',(f.2 b (aAm<|aAu (aAf e) I.ok.above)).trans l⟩
  .by_cases T:j=i
   .subst T;rw[U]at l;cases l;rw[aBL J]at C;cases C;exact⟨u,r,.inl ⟨L,by simp⟩⟩
   .rw[aCV (aCk T)]at C;obtain⟨u',r',q⟩:=hl j y v' l C e3;refine⟨u',r',?_⟩;rcases q with⟨k,e⟩|⟨k,c,e,z⟩
    .refine .inl ⟨k,?_⟩;have:y≠x:=λe=>T (yA hN l<|e▸U);simp[this,e]
    .exact .inr ⟨k,c,e,z.sameBut f (cne y c e)⟩
  .obtain⟨w',z⟩:=I.cell y c e;exact⟨w',z.sameBut f (cne y c e)⟩
  .obtain⟨e,n,ne,nf,d⟩:=I.pin p hp;exact⟨(f.2 p.1 ne).trans e,n,ne,nf,d⟩
 .have ya:X.fn x=true:=by
   rcases hf with z|z
   .exact z
   .rw[z]at L;cases L
  obtain⟨c,t⟩:=I.ok.has x (.inl L);obtain⟨w',z⟩:=I.cell x c t;refine wpAny_storeName_cell I.ok.kind L t z (λh' yb f=>?_);obtain⟨oc,de,hocd⟩:=id z;refine h {s with heap:=h'} ⟨I.ok,I.os,I.bare,⟨λb o e n O B=>?_,λb o e n O B=>?_,I.base.free,λb o e B=>?_,I.base.tups,I.base.frzs,I.base.tbls⟩,⟨m,hn.sameBut f (aCk<|cne x c t),λj y v' l C e3=>?_⟩,λy c' e=>?_,I.free,I.freeC,λp hp=>?_,g ⟨oc,de,I.freeC x c t⟩ f,by simpa using I.len⟩ ⟨c,f,.inr t⟩
  .exact(f.2 b (aAm<|aAu (aAf e)<|I.ok.cab x c ya t)).trans (I.base.keep b o e n O B)
  .obtain⟨sl,l⟩:=I.base.slot b o e n O B;exact⟨sl,(f.2 b (aAm<|aAu (aAf e)<|I.ok.cab x c ya t)).trans l⟩
  .obtain⟨o',l⟩:=I.base.there b o e B;exact⟨o',(f.2 b (aAm<|aAu (aAf e)<|I.ok.cab x c ya t)).trans l⟩
  .by_cases T:j=i
   .subst T;rw[U]at l;cases l;rw[aBL J]at C;cases C;exact⟨u,r,.inr ⟨.inl L,c,t,yb⟩⟩
   .rw[aCV (aCk T)]at C;obtain⟨u',r',q⟩:=hl j y v' l C e3;refine⟨u',r',?_⟩;rcases q with q|⟨k,c',e,z'⟩
    .exact .inl q
    .refine .inr ⟨k,c',e,z'.sameBut f ?_⟩;rintro rfl;exact T (yA hN l<|I.ok.inj _ _ _ e t▸U)
  .by_cases hcc:c'=c
   .subst hcc;exact⟨_,yb⟩
   .obtain⟨w2,z2⟩:=I.cell y c' e;exact⟨w2,z2.sameBut f hcc⟩
  .obtain⟨e,n,ne,nf,d⟩:=I.pin p hp;refine⟨(f.2 p.1 ?_).trans e,n,ne,nf,d⟩;intro q;rw[q,de]at e;have q':oc=p.2:=aAn e;exact d w' (by rw[<-q'];exact hocd)
def Q6 {E:B4}{Q:Unit->bb->Prop}(I:Inv X pins σ H s)(a:X.N.Nodup)(b:X.N[i]?=some x)(c:Loc X.env.scope x)(r:RelV v u)(h:∀s',Inv X pins (σ.set i (some v)) H s'->Q () s')(d:X.fn x=true\/X.env.scope.names.lookup x=some .local:=by first|exact .inl rfl|exact .inr rfl|assumption):ai M A (storeName X.env x u) Q E s:=
 sI I a b c r (λs' e _=>h s' e) d
def Inv.ag0 (I:Inv X pins σ H s)(d:s'.os=s.os)(u:Un (zU X.stack) ch H H' s.heap s'.heap)(a:fX X.prog X.w H' s'.heap)(f:AllBare s'.gens)(g:∀b∈ch,(b∈X.ex\/X.s9.heap.objs.size<=b)/\b≠X.env.locals/\(∀x c,X.env.cells.lookup x=some c->c≠b)/\∀p∈X.pn++pins,p.1≠b):Inv X pins σ H' s':=by obtain⟨h',g',d',t',h⟩:=s';have e:h=s.os:=d;subst e;exact I.call (g':=g') (t':=t') (d':=d') u a f g
end
abbrev XK:=af->Option bc->Hp->Prop
abbrev St:=List (Option V)
abbrev VK:=V->Hp->Prop
abbrev TE:=St->Hp->VK->Prop
abbrev TT:=St->Hp->(Bool->Hp->Prop)->Prop
abbrev TA:=St->Hp->(List V->Hp->Prop)->Prop
structure Ends where
 nx:St->Hp->Prop
 rt:VK
 bk:St->Hp->Prop:=λ_ _=>False
 ct:St->Hp->Prop:=λ_ _=>False
abbrev TS:=Ends->St->Hp->Prop
def EP (X:Cx)(a:N2)(σ:St)(Q:VK)(u:af)(s':bb):Prop:=∃v b,Inv X a σ b s'/\RelV v u/\Q v b
def TP (X:Cx)(a:N2)(σ:St)(Q:Bool->Hp->Prop)(b:Bool)(s':bb):Prop:=∃c,Inv X a σ c s'/\Q b c
def AP (X:Cx)(a:N2)(σ:St)(Q:List V->Hp->Prop)(d:List af)(s':bb):Prop:=∃b c,Inv X a σ c s'/\l7 b d/\Q b c
def SP (X:Cx)(a:N2)(D:Ends)(f:Flow)(s':bb):Prop:=
 match f with
 |.next=>∃c b,Inv X a c b s'/\D.nx c b
 |.brk=>∃c b,Inv X a c b s'/\D.bk c b
 |.cont=>∃c b,Inv X a c b s'/\D.ct c b
 |.ret u=>∃v c b,Inv X a c b s'/\RelV v u/\D.rt v b
def PE (X:Cx)(e:dA)(t:TE):Prop:=
 ∀(a:N2) (s:bb) (σ:St) (H:Hp) (Q:VK),Inv X a σ H s->t σ H Q->ai (be X.prog X.w) X.A (ek e X.env) (EP X a σ Q) X.xe s
def PT (X:Cx)(e:dA)(t:TT):Prop:=
 ∀(a:N2) (s:bb) (σ:St) (H:Hp) (Q:Bool->Hp->Prop),Inv X a σ H s->t σ H Q->ai (be X.prog X.w) X.A (isTrue e X.env<|ek e X.env) (TP X a σ Q) X.xe s
def PW (X:Cx)(e:dA)(t:TT):Prop:=
 ∀(b:Sem af) (a:N2) (s:bb) (σ:St) (H:Hp) (Q:Bool->Hp->Prop),Inv X a σ H s->t σ H Q->ai (be X.prog X.w) X.A (isTrue e X.env b) (TP X a σ Q) X.xe s
def PW.pt (h:PW X e t):PT X e t:=h _
def PA (X:Cx)(es:List dA)(t:TA):Prop:=
 ∀(b:Pos) (a:N2) (s:bb) (σ:St) (H:Hp) (Q:List V->Hp->Prop),Inv X a σ H s->t σ H Q->ai (be X.prog X.w) X.A (spliced<|d3 b<|a9 es X.env) (AP X a σ Q) X.xe s
def PS (X:Cx)(st:d9)(t:TS):Prop:=
 ∀(a:N2) (s:bb) (σ:St) (H:Hp) (D:Ends),Inv X a σ H s->t D σ H->ai (be X.prog X.w) X.A (exec st X.env) (SP X a D) X.xe s
def uK (X:Cx)(st:List d9)(t:TS):Prop:=
 ∀(a:N2) (s:bb) (σ:St) (H:Hp) (D:Ends),Inv X a σ H s->t D σ H->ai (be X.prog X.w) X.A (execs st X.env) (SP X a D) X.xe s
def E9 {α:Type}{t:Sem α}{Q b:α->bb->Prop}{M:Model}{A:cv}{E:B4}{s:bb}(h:ai M A t Q E s)(c:∀a s,Q a s->b a s):ai M A t b E s:=aCu h c λ_ _ x=>x
section
variable{X:Cx}
def uw (i:Nat):TE:=λσ H Q=>∃v,σ[i]?=some (some v)/\Q v H
def tC (v:V):TE:=λ_ H Q=>Q v H
def L8 (n:X.N[i]?=some x)(o:xU X.env.scope x)(f:(x==lM)=false:=by decide)(p:(x==ma)=false:=by decide):PE X (.Name x q) (uw i):=by
 intro d s σ H Q I h;obtain⟨v,e,h⟩:=h;obtain⟨m,t,w⟩:=I.loc;obtain⟨u,r,l⟩:=w i x v n e o;have a:EP X d σ Q u s:=⟨v,H,I,r,h⟩;rcases l with⟨b,y⟩|⟨b,c,g,k⟩
 .exact wpAny_Name (wpAny_loadName_local I.ok.kind b t y a) f
 .rcases b with b|b
  .exact wpAny_Name (wpAny_loadName_cell I.ok.kind b g k a) f
  .exact wpAny_Name (wpAny_loadName_free I.ok.kind b g k a p) f
def ZS {i j a}:PE X (.Constant (.int i) j a) (tC (.int i)):=λ_ _ _ H _ I h=>wpAny_Constant_int ⟨.int i,H,I.tok _,⟨_,rfl⟩,h⟩
def mz {b j a}:PE X (.Constant (.bool b) j a) (tC (.bl b)):=λ_ _ _ H _ I h=>Constant_bool ⟨.bl b,H,I,rfl,h⟩
def ZV {j a}:PE X (.Constant .none j a) (tC .non):=λ_ _ _ H _ I h=>Constant_none ⟨.non,H,I,rfl,h⟩
def Gl (X:Cx)(x:Str):Prop:=X.env.kindOf x=some .globalImplicit
def wB {E:B4}{Q:B4}(I:Inv X a σ H s)(b:Gl X x)(c:X.mg x=some u)(h:Q u s)(d:(x==lM)=false:=by decide):ai (be X.prog X.w) X.A (ek (.Name x e) X.env) Q E s:=
 Calls.Name_function_global I.ok.kind b (Calls.loadGlobal_global (by rw[I.ok.glob];exact I.mod.glob.keeps I.bk) c h) d
def J8 {E:B4}{Q:B4}(I:Inv X a σ H s)(b:Gl X x)(c:X.mg x=none)(d:dm x=some u)(h:Q u s)(e:x≠ "__name__":=by decide)(f:(x==lM)=false:=by decide):ai (be X.prog X.w) X.A (ek (.Name x g) X.env) Q E s:=by obtain⟨m,k,l⟩:=I.mod.blt;exact Calls.Name_function_global I.ok.kind b (Calls.loadGlobal_builtin (by rw[I.ok.glob];exact I.mod.glob.keeps I.bk) c (by rw[I.ok.blt];exact k.keeps I.bk) ((l x e).trans d) h) f
def UI (a:Gl X x)(b:X.mg x=some u)(r:RelV v u)(c:(x==lM)=false:=by decide):PE X (.Name x d) (tC v):=
 λ_ _ _ H _ I h=>wB I a b ⟨v,H,I,r,h⟩ c
def SR (a:Gl X x)(b:X.mg x=none)(c:dm x=some u)(r:RelV v u)(d:x≠ "__name__":=by decide)(e:(x==lM)=false:=by decide):PE X (.Name x f) (tC v):=
 λ_ _ _ H _ I h=>J8 I a b c ⟨v,H,I,r,h⟩ d e
variable{a b:dA} {ta tb:TE} {pos:Pos}
def tB (t:TE):TT:=λσ H Q=>t σ H λx d=>∃c,x=.bl c/\Q c d
def ZL {e:dA}{t:TE}(h:PE X e t)(f:∀whole,isTrue e X.env whole=(do let v<-whole;standAt e.pos;gn [v] (truthy v)):=by intro _;rfl):PT X e (tB t):=by intro c s σ H Q I g;refine isTrue_plain (E9 (h c s σ H _ I g) λv o ⟨x,k,l,m,n⟩=>?_) (f _);obtain⟨d,rfl,q⟩:=n;cases m;exact aBH ⟨k,l,q⟩
variable{tA tB':TT} {rest:List dA}
def a1n (t u:TT):TT:=λσ H Q=>t σ H λc d=>if c=true then u σ d Q else Q false d
def tOr (t u:TT):TT:=λσ H Q=>t σ H λc d=>if c=true then Q true d else u σ d Q
def a2p (t:TT):TT:=λσ H Q=>t σ H λc d=>Q (!c) d
def RY (f:PT X a tA):PW X (.BoolOp .And [a] pos) tA:=by
 intro g d s σ H Q I h;refine isTrue_and (E9 (f d s σ H Q I h) λc k e=>?_);cases c with
 |true=>exact isTrue_and_nil e
 |false=>exact e
def YV (f:PT X a tA):PW X (.BoolOp .Or [a] pos) tA:=by
 intro g d s σ H Q I h;refine isTrue_or (E9 (f d s σ H Q I h) λc k e=>?_);cases c with
 |false=>exact isTrue_or_nil e
 |true=>exact e
def YD (k:PT X a tA)(l:PW X (.BoolOp .And (b::rest) pos) tB'):PW X (.BoolOp .And (a::b::rest) pos) (a1n tA tB'):=by
 intro m d s σ H Q I h;refine isTrue_and (E9 (k d s σ H _ I h) λc n ⟨e,f,g⟩=>?_);cases c with
 |true=>exact l m d n σ e Q f g
 |false=>exact⟨e,f,g⟩
def pk (k:PT X a tA)(l:PW X (.BoolOp .Or (b::rest) pos) tB'):PW X (.BoolOp .Or (a::b::rest) pos) (tOr tA tB'):=by
 intro m d s σ H Q I h;refine isTrue_or (E9 (k d s σ H _ I h) λc n ⟨e,f,g⟩=>?_);cases c with
 |true=>exact⟨e,f,g⟩
 |false=>exact l m d n σ e Q f g
def jj (e:PT X a tA):PT X (.UnaryOp .Not a pos) (a2p tA):=by intro d s σ H Q I h;exact isTrue_not (e d s σ H (λc f=>Q (!c) f) I h)
def xq (ta tb:TE):TE:=λσ H Q=>ta σ H λx d=>∃c,x=.bl c/\if c=true then tb σ d Q else Q (.bl false) d
def ay {op}(h:PE X a t):PE X (.BoolOp op [a] pos) t:=λc s σ H Q I d=>BoolOp_one (h c s σ H Q I d)
def ZN (k:PE X a ta)(l:PE X (.BoolOp .And (b::rest) pos) tb):PE X (.BoolOp .And (a::b::rest) pos) (xq ta tb):=by
 intro d s σ H Q I h;refine BoolOp_and (E9 (k d s σ H _ I h) λv m ⟨x,f,g,n,e⟩=>?_);obtain⟨c,rfl,e⟩:=e;cases n;refine aBH ?_;cases c with
 |true=>exact l d m σ f Q g e
 |false=>exact⟨.bl false,f,g,rfl,e⟩
end
def K8 (K:lr)(H:Hp)(a:bc)(Y:List V):Prop:=
 Rd H a (.lst Y)\/
  ∃(o:Obj) (b:Array af) (n:Nat),K.lookup a=some o/\o.cls=.type "list"/\o.dict=none/\o.data=.seq b n/\b.size<=sizeLine/\l7 Y b.toList
def V1 (K:lr)(H:Hp)(a:bc)(Y:List V):Prop:=
 Rd H a (.tup Y)\/
  ∃(o:Obj) (b:Array af) (n:Nat),K.lookup a=some o/\o.cls=.type "tuple"/\o.data=.seq b n/\b.size<=sizeLine/\l7 Y b.toList
def a1c:af->Option V
 |.none=>some .non
 |.bool b=>some (.bl b)
 |.int i _=>some (.int i)
 |.str x _=>some (.str x)
 |.bytes b _=>some (.byt b)
 |.float b _=>some (.flt b)
 |.ref a=>some (.ref a)
 |.type n=>some (.ty n)
 |_=>none
def RelV.abs (r:RelV x u):a1c u=some x:=by
 cases x with
 |non=>cases r;rfl
 |bl _=>cases r;rfl
 |int _=>obtain⟨t,rfl⟩:=r;rfl
 |str _=>obtain⟨t,rfl⟩:=r;rfl
 |byt _=>obtain⟨t,rfl⟩:=r;rfl
 |flt _=>obtain⟨t,rfl⟩:=r;rfl
 |ref _=>cases r;rfl
 |ty _=>cases r;rfl
def RelV.inj {x y:V}{u:af}(r:RelV x u)(q:RelV y u):x=y:=aAn (r.abs.symm.trans q.abs)
theorem l7.inj:∀{Y a:List V} {b:List af},l7 Y b->l7 a b->Y=a
 |_,_,_,.nil,.nil=>rfl
 |_,_,_,.cons r t,.cons c d=>by rw[r.inj c,l7.inj t d]
section
variable{X:Cx} {pins:N2} {σ:St} {H:Hp} {s:bb} {a:bc} {Y ys:List V}
def K8.of {K:lr}(h:H a=some (.lst Y)):K8 K H a Y:=.inl (.inl h)
def V1.of {K:lr}(h:H a=some (.tup Y)):V1 K H a Y:=.inl (.inl h)
def Inv.list (I:Inv X pins σ H s)(h:K8 X.K H a Y):∃its:List af,l7 Y its/\PlainL s.heap a its.toArray/\Y.length<=sizeLine:=by
 rcases h with h|⟨o,its,n,b,c,d,f,g,r⟩
 .obtain⟨z,its,n,r,e⟩:=h.ok I.hok;exact⟨its,r,⟨_,n,e,rfl,rfl,rfl⟩,z⟩
 .refine⟨its.toList,r,⟨o,n,I.kIn a o b,c,d,by simpa using f⟩,?_⟩;have e:=r.length;simp only[aAZ]at e
  lia
def Inv.tuple (I:Inv X pins σ H s)(h:V1 X.K H a Y):∃its:List af,l7 Y its/\IsTup s.heap a its.toArray/\Y.length<=sizeLine:=by
 rcases h with h|⟨o,its,n,b,c,d,f,r⟩
 .obtain⟨z,its,r,p⟩:=h.ok I.hok;exact⟨its,r,p,z⟩
 .refine⟨its.toList,r,⟨o,I.kIn a o b,c,n,by simpa using d⟩,?_⟩;have e:=r.length;simp only[aAZ]at e
  lia
def Inv.ab2 (I:Inv X pins σ H s)(h:K8 X.K H a Y)(h':K8 X.K H a ys):Y=ys:=by
 obtain⟨c,r,⟨o,n,e,_,_,d⟩,_⟩:=I.list h;obtain⟨b,k,⟨m,p,f,_,_,g⟩,_⟩:=I.list h';rw[e]at f;cases f;rw[d]at g;injection g with l _;have:c=b:=by simpa using ll aFR l
 subst this;exact r.inj k
def Inv.ab4 (I:Inv X pins σ H s)(h:V1 X.K H a Y)(h':V1 X.K H a ys):Y=ys:=by
 obtain⟨c,r,⟨o,e,_,n,d⟩,_⟩:=I.tuple h;obtain⟨b,k,⟨m,f,_,p,g⟩,_⟩:=I.tuple h';rw[e]at f;cases f;rw[d]at g;injection g with l _;have:c=b:=by simpa using ll aFR l
 subst this;exact r.inj k
end
abbrev Cx.ac2 (X:Cx)(E:B4):Cx:={X with xe:=E}
abbrev Cx.nox (X:Cx):Cx:=X.ac2 λ_ _=>False
def Cx.Ok.ac2 {X:Cx}(ok:X.Ok)(E:B4):(X.ac2 E).Ok:=
 ⟨ok.mod,ok.kind,ok.glob,ok.blt,ok.above,ok.inj,ok.has,ok.cab,ok.hd,ok.frames,ok.stk,ok.exf,ok.bs,ok.bsz,ok.noex,ok.exfs,ok.funs,ok.frf⟩
def Cx.Ok.aa7 {X:Cx}{E:B4}(ok:(X.ac2 E).Ok):X.Ok:=
 ⟨ok.mod,ok.kind,ok.glob,ok.blt,ok.above,ok.inj,ok.has,ok.cab,ok.hd,ok.frames,ok.stk,ok.exf,ok.bs,ok.bsz,ok.noex,ok.exfs,ok.funs,ok.frf⟩
section
variable{X:Cx} {pins:N2} {σ:St} {H:Hp} {s:bb} {E:B4}
def Inv.ac2 (I:Inv X pins σ H s)(E:B4):Inv (X.ac2 E) pins σ H s:=⟨I.ok.ac2 E,I.os,I.bare,I.base,I.loc,I.cell,I.free,I.freeC,I.pin,I.hok,I.len⟩
def Inv.aa7 (I:Inv (X.ac2 E) pins σ H s):Inv X pins σ H s:=⟨I.ok.aa7,I.os,I.bare,I.base,I.loc,I.cell,I.free,I.freeC,I.pin,I.hok,I.len⟩
def SP.aa7 (h:SP (X.ac2 E) pins D f s'):SP X pins D f s':=by
 cases f with
 |next=>obtain⟨a,b,I,q⟩:=h;exact⟨a,b,I.aa7,q⟩
 |brk=>obtain⟨a,b,I,q⟩:=h;exact⟨a,b,I.aa7,q⟩
 |cont=>obtain⟨a,b,I,q⟩:=h;exact⟨a,b,I.aa7,q⟩
 |ret u=>obtain⟨v,a,b,I,r,q⟩:=h;exact⟨v,a,b,I.aa7,r,q⟩
def uK.nox {st:List d9}{t:TS}(h:uK X.nox st t):uK X st t:=λpins s σ H D I a=>aCu (h pins s σ H D (I.ac2 _) a) (λ_ _ q=>q.aa7) λ_ _ z=>aAi z
end
section
variable{X:Cx} {st:d9} {rest:List d9} {t u:TS} {e:dA} {te:TE} {pos:Pos}
def a0g:TS:=λD σ H=>D.nx σ H
def a2j (t u:TS):TS:=λD σ H=>t {D with nx:=u D} σ H
def GV:uK X [] a0g:=λ_ _ σ H _ I h=>aEF ⟨σ,H,I,h⟩
def xE (b:PS X st t)(c:uK X rest u):uK X (st::rest) (a2j t u):=by
 intro a s σ H D I h;refine aEu (E9 (b a s σ H {D with nx:=u D} I h) λf d q=>?_);cases f with
 |next=>obtain⟨g,k,l,q⟩:=q;exact c a d g k D l q
 |ret v=>exact q
 |brk=>exact q
 |cont=>exact q
def jB (b:PS X st t):uK X [st] t:=by
 intro a s σ H D I h;refine aEu (E9 (b a s σ H D I h) λf c q=>?_);cases f with
 |next=>exact aEF q
 |ret v=>exact q
 |brk=>exact q
 |cont=>exact q
def Inv.quiet (I:Inv X a σ H s):interactive X.env=false:=by simp[interactive,I.ok.kind]
def yk (te:TE):TS:=λD σ H=>te σ H λ_ a=>D.nx σ a
def mT (b:PE X e te)(c:fh e none pos.line X.env=pure false:=by rfl):PS X (.Expr e pos) (yk te):=by intro a s σ H D I h;exact wpAny_Expr_any (E9 (b a s σ H _ I h) λv k ⟨x,d,f,l,g⟩=>⟨σ,d,f,g⟩) I.quiet c
def a1j (te:TE):TS:=λD σ H=>te σ H D.rt
def vV (b:PE X e te):PS X (.Return (some e) pos) (a1j te):=by intro a s σ H D I h;exact wpAny_Return_some (E9 (b a s σ H _ I h) λv k ⟨x,c,d,f,g⟩=>⟨x,σ,c,d,f,g⟩)
def a1z (c:TT)(t u:TS):TS:=λD σ H=>c σ H λb a=>if b=true then t D σ a else u D σ a
def WW {c:dA}{a b:List d9}{g:TT}(o:PT X c g)(p:uK X a t)(q:uK X b u):PS X (.If c a b pos) (a1z g t u):=by
 intro f s σ H D I h;refine wpAny_If (E9 (o f s σ H _ I h) λd k ⟨l,m,n⟩=>?_);cases d with
 |true=>exact p f k σ l D m n
 |false=>exact q f k σ l D m n
def ZD:TS:=λ_ _ _=>False
def NK:PS X st ZD:=λ_ _ _ _ _ _ h=>h.elim
end
abbrev TG:=V->St->Hp->(St->Hp->Prop)->Prop
abbrev ak:=List V->St->Hp->(St->Hp->Prop)->Prop
def PG (X:Cx)(a:dA)(t:TG):Prop:=
 ∀(b:N2) (s:bb) (σ:St) (H:Hp) (v:V) (u:af) (Q:St->Hp->Prop),Inv X b σ H s->RelV v u->t v σ H Q->
  ai (be X.prog X.w) X.A (ik a X.env u) (λ_ e=>∃c d,Inv X b c d e/\Q c d) X.xe s
def jy (X:Cx)(f:List dA)(t:ak):Prop:=
 ∀(a:N2) (s:bb) (σ:St) (H:Hp) (b:List V) (c:List af) (Q:St->Hp->Prop),Inv X a σ H s->l7 b c->t b σ H Q->
  ai (be X.prog X.w) X.A (assignInOrder ((eR f X.env).map (·.2)) c) (λ_ g=>∃d e,Inv X a d e g/\Q d e) X.xe s
abbrev WE:=V->V->V->Hp->(Hp->Prop)->Prop
def iy (X:Cx)(t:WE):Prop:=
 ∀(a:N2) (s:bb) (σ:St) (H:Hp) (o i v:V) (b c u:af) (Q:Hp->Prop),Inv X a σ H s->RelV o b->RelV i c->RelV v u->t o i v H Q->
  ai (be X.prog X.w) X.A (setItem b c u) (λ_ e=>∃d,Inv X a σ d e/\Q d) X.xe s
section
variable{X:Cx} {pos:Pos}
def XO (i:Nat):TG:=λv σ H Q=>Q (σ.set i<|some v) H
def FP (b:X.N.Nodup)(c:X.N[i]?=some x)(d:Loc X.env.scope x)(e:X.fn x=true\/X.env.scope.names.lookup x=some .local:=by first|exact .inl rfl|exact .inr rfl|assumption):PG X (.Name x pos) (XO i):=by intro a s σ H v u Q I r h;exact wpAny_assign_Name (Q6 I b c d r (λg f=>⟨_,H,f,h⟩) e)
def a1r:ak:=λa σ H Q=>a=[]/\Q σ H
def qy (t:TG)(u:ak):ak:=λa σ H Q=>∃v r,a=v::r/\t v σ H λb c=>u r b c Q
def VL:jy X [] a1r:=by intro a s σ H b c Q I r h;obtain⟨e,h⟩:=h;subst e;cases r;exact assignInOrder_nil ⟨σ,H,I,h⟩
def MQ {e:dA}{es:List dA}{t:TG}{u:ak}(c:PG X e t)(d:jy X es u)
  (f:(eR (e::es) X.env).map (·.2)=ik e X.env::(eR es X.env).map (·.2):=by rfl):jy X (e::es) (qy t u):=by
 intro a s σ H p q Q I r h;obtain⟨v,w,g,h⟩:=h;subst g;cases r with
 |cons r k=>rw[f];refine aEY (E9 (c a s σ H _ _ _ I r h) λ_ l ⟨b,m,n,o⟩=>?_);exact d a l b m _ _ Q n k o
def a1y (a b:TE)(t:WE):TG:=λv σ H Q=>a σ H λo c=>b σ c λi d=>t o i v d λe=>Q σ e
def MZ {o i:dA}{d e:TE}{t:WE}(f:PE X o d)(g:PE X i e)(k:iy X t)
  (l:∀v,ik (.Subscript o i pos) X.env v=(do
   let b<-gn [v] (ek o X.env)
   let c<-gn [v,b] (ek i X.env)
   standAt pos
   gn [v,b,c] (setItem b c v)
   release [v,b,c] []):=by intro _;rfl):PG X (.Subscript o i pos) (a1y d e t):=by
 intro a s σ H v u Q I r h;rw[l];refine aAa (aAK<|E9 (f a s σ H _ I h) λb m ⟨x,n,p,q,w⟩=>?_);refine aAa (aAK<|E9 (g a m σ n _ p w) λc z ⟨y,A,B,C,E⟩=>?_);refine aAa (aEB<|aAa<|aAK<|E9 (k a z σ A x y v b c u _ B q C r E) λ_ O ⟨J,L,N⟩=>?_);exact wpAny_release ⟨σ,J,L,N⟩
def tq (a:TE)(g:TG):TS:=λD σ H=>a σ H λx b=>g x σ b D.nx
def CJ {b e:dA}{c:TE}{g:TG}(d:PE X e c)(f:PG X b g)(k:hV [b] e pos.line X.env=pure false:=by rfl)(l:h9 [b] e X.env=pure none:=by rfl)
  (m:(eR [b] X.env).map (·.2)=[ik b X.env]:=by rfl):PS X (.Assign [b] e pos) (tq c g):=by
 intro a s σ H D I h;refine wpAny_Assign_stores (E9 (d a s σ H _ I h) λv n ⟨x,o,p,r,t⟩=>?_) k l;rw[m];exact E9 (f a n σ o x v _ p r t) λ_ u q=>q
def MC {i:Nat}{x:Str}{e:dA}{c:TE}{a:Pos}(d:X.N.Nodup)(f:X.N[i]?=some x)(g:Loc X.env.scope x)(k:PE X e c)(l:fh e (some (.Name x a)) pos.line X.env=pure false:=by rfl)(m:X.fn x=true\/X.env.scope.names.lookup x=some .local:=by first|exact .inl rfl|exact .inr rfl|assumption):
  PS X (.Assign [.Name x a] e pos) (tq c (XO i)):=by
 intro b s σ H D I h;refine aFl (E9 (k b s σ H _ I h) λv t ⟨y,n,o,p,q⟩=>?_) l;exact Q6 o d f g p (λu r=>⟨_,n,r,q⟩) m
def a2o (i j:Nat)(ta:TA):TS:=λD σ H=>ta σ H λa b=>∃v w,a=[v,w]/\D.nx ((σ.set i<|some v).set j (some w)) b
def ZA {i j:Nat}{x y:Str}{a b:dA}{ta:TA}{k l pt:Pos}{m n BP}(L:X.calm=true)(z:X.N.Nodup)(O:X.N[i]?=some x)(Q:X.N[j]?=some y)(T:i≠j)
  (B:X.env.scope.names.lookup x=some .local) (C:X.env.scope.names.lookup y=some .local) (U:PA X [a,b] ta)
  (Y:h9 [.Tuple [.Name x k,.Name y l] m pt] (.Tuple [a,b] n BP) X.env=pure (some [x,y]))
  (hs:hV [.Tuple [.Name x k,.Name y l] m pt] (.Tuple [a,b] n BP) pos.line X.env=pure false:=by rfl):
  PS X (.Assign [.Tuple [.Name x k,.Name y l] m pt] (.Tuple [a,b] n BP) pos) (a2o i j ta):=by
 intro c s σ H D I h;rw[exec_Assign_arm];refine aAa (aEB ?_);rw[hs];refine aAa (aAb ?_);rw[kz (by decide)];refine aAa (Tuple_<|E9 (U _ c s σ H _ I h) λus d ⟨vs,E,I1,r1,r⟩=>?_);obtain⟨v,w,e1,r⟩:=r;subst e1;obtain⟨f,g,rfl,rv,t⟩:∃f g,us=[f,g]/\RelV v f/\RelV w g:=by
  cases r1 with
  |cons p q=>
   cases q with
   |cons p' q'=>cases q';exact⟨_,_,rfl,p,p'⟩
 refine aAW ?_ (by show 2<=sizeLine;decide);have I2:Inv X c σ E {d with heap:=d.heap.push {cls:=.type "tuple",data:=.seq [f,g].toArray}}:=I1.kept (t':=d.toks) λb o e=>aAc _ e;rw[Y];refine aAa (aAb ?_);show ai (be X.prog X.w) X.A (do rule "assign.swapped-stores";let items<-unpackItems (.ref d.heap.objs.size) 2 none;assignInOrder [λv=>bindName X.env y v,λv=>bindName X.env x v] items.reverse;pure Flow.next) _ _ _;refine aAa (aDD<|aAa<|unpackItems_tuple (items:=#[f,g]) (I.ok.hd L) (IsTup.new d.heap _) λh' u=>?_);have I3:=I2.kept (h':=h') (t':=d.toks) λb o e=>u b o (aAm<|aAf e) e;show ai _ _ (assignInOrder [λv=>bindName X.env y v,λv=>bindName X.env x v] [g,f]>>=λ_=>pure Flow.next) _ _ _;refine aAa (aEY<|wpAny_bindName<|Q6 I3 z Q (.inl C) t (λs2 I4=>?_)<|.inr C);refine aEY (wpAny_bindName<|Q6 I4 z O (.inl B) rv (λs3 J=>assignInOrder_nil (aAb ?_))<|.inr B);rw[List.set_comm _ _ (aCk T)]at J;exact⟨_,E,J,r⟩
end
section
variable{X:Cx} {pos:Pos}
def fy (c:TT)(tb:TS):TS:=λD σ H=>∃W:Nat->St->Hp->Prop,(∃m,W m σ H)/\∀m σ H,W m σ H->
 c σ H λb a=>if b=true then∃N:St->Hp->Prop,(∀d e,N d e->∃f,f<m/\W f d e)/\tb {D with nx:=N,ct:=N,bk:=D.nx} σ a else D.nx σ a
def LS {c:dA}{body:List d9}{t:TT}{tb:TS}(u:PassesOwn (be X.prog X.w) X.A X.env X.xe)(J:PT X c t)(L:uK X body tb):PS X (.While c body [] pos) (fy t tb):=by
 intro a s σ H D I h;obtain⟨W,⟨O,Q⟩,turn⟩:=h;refine wpAny_While (codeAny_whileLoop (λn T=>∃x y,Inv X a x y T/\W n x y) ?_ O ⟨σ,H,I,Q⟩);rintro n U ⟨d,z,Y,w1⟩;refine aCX u (E9 (J a U d z _ Y<|turn n d z w1) λb s2 ⟨B,C,k⟩=>?_);cases b with
 |true=>
  obtain⟨N,E,k⟩:=k;rw[kd rfl];refine aCX u (E9 (L a s2 d B _ C k) λf s3 l=>?_);cases f with
  |next=>obtain⟨e,g,m,o⟩:=l;obtain⟨p,q,r⟩:=E e g o;exact⟨p,q,e,g,m,r⟩
  |cont=>obtain⟨e,g,m,o⟩:=l;obtain⟨p,q,r⟩:=E e g o;exact⟨p,q,e,g,m,r⟩
  |brk=>exact l
  |ret v=>exact l
 |false=>rw[kz aAQ];exact aEF ⟨d,B,C,k⟩
end
structure It where
 go:Nat->Hp->Prop
 yld:Nat->Hp->V->Hp->Prop
 stop:Nat->Hp->Prop
def mB (X:Cx)(pins:N2)(H:Hp)(b:bc):Prop:=
 H b=none/\b≠X.env.locals/\b∉X.fs/\(b∈X.ex\/X.s9.heap.objs.size<=b)/\(∀x c,X.env.cells.lookup x=some c->c≠b)/\∀p∈X.pn++pins,p.1≠b
def Inv.ae8 (I:Inv X a σ H s)(d:s.heap.objs.size<=b)(f:H' b=none):mB X a H' b:=by
 refine⟨f,aCC (aAu I.lt d),I.ag2 d,.inr (aAr I.sz d),λx c e z=>?_,λp g z=>?_⟩
 .obtain⟨v,q⟩:=I.cell x c e;exact absurd (aAu q.lt (by rw[z];exact d)) (aBc _)
 .exact absurd (aAu (aAf (I.pin p g).1) (by rw[z];exact d)) (aBc _)
structure Turn (P:Program)(w:World)(K:PySem.W.Frag)(tg:Expr)(J:It)(fp:List Addr)(it:Addr)(tn:Nat->Heap->Prop):Prop where
 mem:it∈fp
 obj:∀i h,tn i h->∀b∈fp,∃o,h.get? b=some o/\∀v,o.data≠.cell v
 keep:∀i h h',tn i h->(∀b∈fp,∀o,h.get? b=some o->h'.get? b=some o)->tn i h'
 item:∀(X:Cx),X.prog=P->X.w=w->X.K=K->X.calm=true->∀(i:Nat) (pins:N2) (s:Shared) (σ:St) (H:Hp) (E:B4),Inv X pins σ H s->(∀b∈fp,mB X pins H b)->tn i s.heap->J.go i H->
  wpAny (model P w) X.A (pyNext (.ref it)) (λr s1=>∃u,r=some u/\
   wpAny (model P w) X.A (letOwnedTupleGo tg (.ref it) u) (λ_ s2=>∃x H',Inv X pins σ H' s2/\RelV x u/\J.yld i H x H'/\tn (i+1) s2.heap/\∀b∈fp,H' b=none) E s1) E s
 done:∀(X:Cx),X.prog=P->X.w=w->X.K=K->X.calm=true->∀(i:Nat) (pins:N2) (s:Shared) (σ:St) (H:Hp) (E:B4),Inv X pins σ H s->(∀b∈fp,mB X pins H b)->tn i s.heap->J.stop i H->
  wpAny (model P w) X.A (pyNext (.ref it)) (λr s1=>r=none/\Inv X pins σ H s1) E s
 self:∀(A:Around) (i:Nat) (s:Shared) (Q:B4) (E:B4),tn i s.heap->Q (.ref it) s->wpAny (model P w) A (pyIter (.ref it)) Q E s
abbrev TI:=St->Hp->(It->Hp->Prop)->Prop
def PIE (X:Cx)(a:N2)(σ:St)(k:dA)(R:It->Hp->Prop)(c:af)(e:bb):Prop:=
 ∃(f:bc) (g:List bc) (h:Nat->df->Prop) (J:It) (d:Hp),c=.ref f/\Inv X a σ d e/\Turn X.prog X.w X.K k J g f h/\h 0 e.heap/\(∀b∈g,mB X a d b)/\R J d
def PI (X:Cx)(b iter:dA)(c:TI):Prop:=
 ∀(a:N2) (s:bb) (σ:St) (H:Hp) (R:It->Hp->Prop),Inv X a σ H s->c σ H R->
  ai (be X.prog X.w) X.A (ek iter X.env) (λv d=>ai (be X.prog X.w) X.A (pyIter v) (PIE X a σ b R) X.xe d) X.xe s
def OO {E : af → bb → Prop} {Q : Unit → bb → Prop} (b : s.heap.get? it = some o) (c : o.cls = .type n) (d : o.data = .fields vs) (e : ["enumerate", "zip", "dict_itemiterator", "dict_reverseitemiterator", "odict_iterator", "itertools.zip_longest", "itertools.pairwise"].contains n = false) (a : Q () s) : ai M A (letOwnedTupleGo f (.ref it) u) Q E s := by
  unfold letOwnedTupleGo;cases f <;> first
    | exact aAb a
    | (cases u <;> first
        | exact aAb a
        | (refine aAa (wpAny_load b ?_)
           rw [c, d];show ai M A (if (["enumerate", "zip", "dict_itemiterator", "dict_reverseitemiterator", "odict_iterator", "itertools.zip_longest", "itertools.pairwise"].contains n && vs[0]? == some (et _)) = true then _ else _) Q E s;rw [kz (by intro h; rw [e, Bool.false_and] at h; cases h)];exact aAb a))
def Itl (K:lr)(a:bc):It:=
 ⟨λi H=>∃Y x,K8 K H a Y/\Y[i]?=some x,λi H x b=>b=H/\∀Y,K8 K H a Y->Y[i]?=some x,λi H=>∃Y,K8 K H a Y/\Y.length<=i⟩
def Itt (K:lr)(a:bc):It:=
 ⟨λi H=>∃Y x,V1 K H a Y/\Y[i]?=some x,λi H x b=>b=H/\∀Y,V1 K H a Y->Y[i]?=some x,λi H=>∃Y,V1 K H a Y/\Y.length<=i⟩
def IV {P:cp}{w:cy}{K:lr}{tg:dA}(a it:bc):Turn P w K tg (Itl K a) [it] it (λi h=>h.IsListIter it a i)where
 mem:=by simp
 obj:=λi h st b g=>by
  have e:b=it:=by simpa using g
  subst e;obtain⟨o,e,c,d⟩:=st;exact⟨o,e,λv z=>by rw[d]at z;cases z⟩
 keep:=λi h m st k=>st.at λo e=>k it (by simp) o e
 item:=by intro X r t y U i f s σ H E I n st A;subst r t y;obtain⟨Y,x,q,B⟩:=A;obtain⟨C,J,p,hz⟩:=I.list q;obtain⟨u,hu,ru⟩:=J.get B;obtain⟨L,N,f2,O,Q,T⟩:=n it (by simp);refine wpAny_pyNext_list_item st p.isList (x:=u) (by simpa using hu) λm l sb=>?_;have I1:Inv X f σ H {s with heap:=m}:=I.turned (t':=s.toks) (λb o g e=>(sb.2 b g).trans e) L N O Q T;obtain⟨o,e,c,d⟩:=id l;exact⟨u,rfl,OO (s:={s with heap:=m}) e c d (by decide) ⟨x,H,I1,ru,⟨rfl,λys hy=>by rw[I.ab2 hy q];exact B⟩,l,λb g=>(n b g).1⟩⟩
 done:=by intro X r t y U i f s σ H E I n st A;subst r t y;obtain⟨Y,q,B⟩:=A;obtain⟨C,J,p,hz⟩:=I.list q;obtain⟨L,N,f2,O,Q,T⟩:=n it (by simp);have hl:=J.length;exact wpAny_pyNext_list_end (I.ok.hd U) st p.isList (by simp;lia) λm eb=>⟨rfl,I.turned (t':=s.toks) (λb o g e=>eb b o g e) L N O Q T⟩
 self:=λ_ _ _ _ _ st h=>wpAny_pyIter_listiter st h
def DP {P:cp}{w:cy}{K:lr}{tg:dA}(a it:bc):Turn P w K tg (Itt K a) [it] it (λi h=>h.IsTupleIter it a i)where
 mem:=by simp
 obj:=λi h st b g=>by
  have e:b=it:=by simpa using g
  subst e;obtain⟨o,e,c,d⟩:=st;exact⟨o,e,λv z=>by rw[d]at z;cases z⟩
 keep:=λi h n st k=>st.at λo e=>k it (by simp) o e
 item:=by intro X t y A U i f s σ H E I q st B;subst t y A;obtain⟨Y,x,r,C⟩:=B;obtain⟨l,J,p,hz⟩:=I.tuple r;obtain⟨u,hu,ru⟩:=J.get C;obtain⟨L,N,f2,O,Q,T⟩:=q it (by simp);refine wpAny_pyNext_tuple_item st (show s.heap.IsTuple a l.toArray from p) (x:=u) (by simpa using hu) λn m sb=>?_;have I1:Inv X f σ H {s with heap:=n}:=I.turned (t':=s.toks) (λb o g e=>(sb.2 b g).trans e) L N O Q T;obtain⟨o,e,c,d⟩:=id m;exact⟨u,rfl,OO (s:={s with heap:=n}) e c d (by decide) ⟨x,H,I1,ru,⟨rfl,λys hy=>by rw[I.ab4 hy r];exact C⟩,m,λb g=>(q b g).1⟩⟩
 done:=by intro X t y A U i f s σ H E I q st B;subst t y A;obtain⟨Y,r,C⟩:=B;obtain⟨l,J,p,hz⟩:=I.tuple r;obtain⟨L,N,f2,O,Q,T⟩:=q it (by simp);have hl:=J.length;exact wpAny_pyNext_tuple_end (I.ok.hd U) st (show s.heap.IsTuple a l.toArray from p) (by simp;lia) λn eb=>⟨rfl,I.turned (t':=s.toks) (λb o g e=>eb b o g e) L N O Q T⟩
 self:=λ_ _ _ _ _ st h=>wpAny_pyIter_tupleiter st h
section
variable{X:Cx} {tg:dA}
def oq (K:lr)(c:TE):TI:=λσ H R=>c σ H λx b=>∃a,x=.ref a/\(∃Y,K8 K b a Y)/\R (Itl K a) b
def a2a (K:lr)(c:TE):TI:=λσ H R=>c σ H λx b=>∃a,x=.ref a/\(∃Y,V1 K b a Y)/\R (Itt K a) b
def EY (g:PE X l k):PI X tg l (oq X.K k):=by
 intro c s σ H R I h;refine E9 (g c s σ H _ I h) λv d ⟨x,m,f,n,r⟩=>?_;obtain⟨a,e,⟨Y,t⟩,q⟩:=r;subst e;cases n;obtain⟨u,y,p,z⟩:=f.list t;refine aDE p.isList ?_;refine⟨d.heap.objs.size,[d.heap.objs.size],_,_,m,rfl,f.kept (t':=d.toks) λb o e=>aAc _ e,IV a _,⟨_,aAq _ rfl,rfl,rfl⟩,λb w=>?_,q⟩;have e:b=d.heap.objs.size:=by simpa using w
 subst e;exact f.ae8 (aAh _) (f.hok.fresh<|aAh _)
def fj {l:dA}{k:TE}(m:PE X l k):PI X tg l (a2a X.K k):=by
 intro c s σ H R I h;refine E9 (m c s σ H _ I h) λv d ⟨x,n,f,r,t⟩=>?_;obtain⟨a,e,⟨Y,u⟩,q⟩:=t;subst e;cases r;obtain⟨g,y,p,z⟩:=f.tuple u;refine wpAny_pyIter_tuple (show d.heap.IsTuple a g.toArray from p) ?_;refine⟨d.heap.objs.size,[d.heap.objs.size],_,_,n,rfl,f.kept (t':=d.toks) λb o e=>aAc _ e,DP a _,⟨_,aAq _ rfl,rfl,rfl⟩,λb w=>?_,q⟩;have e:b=d.heap.objs.size:=by simpa using w
 subst e;exact f.ae8 (aAh _) (f.hok.fresh<|aAh _)
def a2c (d:TI)(g:TG)(tb:TS):TS:=λD σ H=>d σ H λJ e=>∃W:Nat->Nat->St->Hp->Prop,(∃m,W 0 m σ e)/\∀i m σ H,W i m σ H->
 (J.stop i H/\D.nx σ H)\/(J.go i H/\∃N:St->Hp->Prop,(∀b a,N b a->∃c,c<m/\W (i+1) c b a)/\∀x a,J.yld i H x a->g x σ a λf h=>tb {D with nx:=N,ct:=N,bk:=D.nx} f h)
def oR (a:List bc)(h:df):List (bc×Obj):=a.filterMap λb=>(h.get? b).map λo=>(b,o)
def bN (a:b∈c)(e:h.get? b=some o):(b,o)∈oR c h:=aBZ.mpr ⟨b,a,by rw[e];rfl⟩
def IC (a:p∈oR c h):p.1∈c/\h.get? p.1=some p.2:=by
 obtain⟨b,d,e⟩:=aBZ.mp a;cases q:h.get? b with
 |none=>rw[q]at e;cases e
 |some o=>rw[q]at e;have f:(b,o)=p:=aAn e;subst f;exact⟨d,q⟩
def Inv.pinned (I:Inv X a σ H s)(h:∀b∈c,mB X a H b)(k:∀b∈c,∃o,s.heap.get? b=some o/\∀v,o.data≠.cell v):Inv X (a++oR c s.heap) σ H s:=
 I.ad2 λp l=>(aAN.mp l).elim (λz=>I.pin p (aAI _ z)) λz=>by obtain⟨f,e⟩:=IC z;obtain⟨m,n,q,_⟩:=h p.1 f;obtain⟨o,g,d⟩:=k p.1 f;rw[e]at g;cases g;exact⟨e,m,n,q,d⟩
def Inv.ab1 (I:Inv X (a++c) σ H s):Inv X a σ H s:=I.ad2 λp b=>I.pin p (aAI _<|aBK _ b)
def MA (B:PassesOwn (be X.prog X.w) X.A X.env X.xe)(hc:X.calm=true)(hi:PI X tg iter wi)(hg:PG X tg g)(c:uK X body tb)(hs:∀x,fo iter X.env x=pure x:=by intro _;rfl):PS X (.For tg iter body [] pos) (a2c wi g tb):=by
 intro a s σ H D I h;refine wpAny_For (E9 (hi a s σ H _ I h) λv s1 h1=>E9 h1 λitv s2 h2=>?_) hs;obtain⟨it,C,tn,J,H2,e,I2,T,km,f2,W,⟨m0,w0⟩,turn⟩:=h2;subst e;have k:∀{t:Hp},(∀b∈C,t b=none)->∀b∈C,mB X a t b:=λhn b c=>⟨hn b c,(f2 b c).2⟩;refine codeAny_forLoop_any (λn s'=>∃i E t,Inv X a E t s'/\tn i s'.heap/\(∀b∈C,t b=none)/\W i n E t) ?_ m0 ⟨0,σ,H2,I2,km,λb c=>(f2 b c).1,w0⟩;rintro n s3 ⟨i,L,U,I3,za,O,w3⟩;rcases turn i n L U w3 with⟨stop,qn⟩|⟨go,N,hN,step⟩
 .refine aCX B (E9 (T.done X rfl rfl rfl hc i a s3 L U X.xe I3 (k O) za stop) λr s4 ⟨Y,I4⟩=>?_);subst Y;exact aEF ⟨L,U,I4,qn⟩
 .refine aCX B (E9 (T.item X rfl rfl rfl hc i a s3 L U X.xe I3 (k O) za go) λr s4 ⟨u,Y,h4⟩=>?_);subst Y;refine aCX B (E9 h4 λ_ s5 ⟨x,H5,I5,r5,y5,z,fr5⟩=>?_);have I5':=I5.pinned (k fr5) (T.obj _ _ z);refine aCX B (E9 (hg _ s5 L H5 x u _ I5' r5<|step x H5 y5) λ_ s6 ⟨σ6,H6,I6,q6⟩=>?_);refine aCX B (E9 (c _ s6 σ6 H6 _ I6 q6) λf s7 y=>?_);have again:∀{l:St} {p:Hp},Inv X (a++oR C s5.heap) l p s7->N l p->∃m,m<n/\∃i E t,Inv X a E t s7/\tn i s7.heap/\(∀b∈C,t b=none)/\W i m E t:=λ{l p} q Q=>by obtain⟨m',hm,w7⟩:=hN l p Q;refine⟨m',hm,i+1,l,p,q.ab1,T.keep _ _ _ z λb c o e=>(q.pin (b,o)<|aAI _<|aAI _<|bN c e).1,λb c=>?_,w7⟩;obtain⟨o,e,d⟩:=T.obj _ _ z b c;exact(q.pin (b,o)<|aAI _<|aAI _<|bN c e).2.1
  cases f with
  |next=>obtain⟨l,p,q,Q⟩:=y;exact again q Q
  |cont=>obtain⟨l,p,q,Q⟩:=y;exact again q Q
  |brk=>obtain⟨l,p,q,y⟩:=y;exact⟨l,p,q.ab1,y⟩
  |ret v=>obtain⟨x7,l,p,q,r7,y⟩:=y;exact⟨x7,l,p,q.ab1,r7,y⟩
end
abbrev R2:=V->V->Hp->VK->Prop
def mH (X:Cx)(f:af->af->Sem af)(r:R2):Prop:=
 ∀(a:N2) (s:bb) (σ:St) (H:Hp) (x y:V) (v u:af) (Q:VK),Inv X a σ H s->RelV x v->RelV y u->r x y H Q->
  ai (be X.prog X.w) X.A (f v u) (EP X a σ Q) X.xe s
def UnR (X:Cx)(f:af->Sem af)(r:V->Hp->VK->Prop):Prop:=
 ∀(a:N2) (s:bb) (σ:St) (H:Hp) (x:V) (v:af) (Q:VK),Inv X a σ H s->RelV x v->r x H Q->
  ai (be X.prog X.w) X.A (f v) (EP X a σ Q) X.xe s
def yZ (X:Cx)(f:af)(r:List V->Hp->VK->Prop):Prop:=
 ∀(a:N2) (s:bb) (σ:St) (H:Hp) (Y:List V) (b:List af) (Q:VK),Inv X a σ H s->l7 Y b->r Y H Q->
  ai (be X.prog X.w) X.A (call f b) (EP X a σ Q) X.xe s
def tUn (r:V->Hp->VK->Prop)(ta:TE):TE:=λσ H Q=>ta σ H λx a=>r x a Q
def rI (C:Int->Int->Prop)(g:Int->Int->V):R2:=λx y H Q=>∃i j,x=.int i/\y=.int j/\C i j/\Q (g i j) H
def XI (g:Int->Int->V):R2:=λx y H Q=>∃i j,x=.int i/\y=.int j/\Q (g i j) H
def rU (g:Int->V):V->Hp->VK->Prop:=λx H Q=>∃i,x=.int i/\Q (g i) H
section
variable{X:Cx} {a b c:dA} {ta tb tc:TE} {pos:Pos}
def OE (l:PE X a ta)(m:PE X b tb){d:N2}{s:bb}{σ:St}{H:Hp}{R:V->V->Hp->Prop}(I:Inv X d σ H s)
  (h:ta σ H λx k=>tb σ k λy e=>R x y e) {Q:B4} {f:af->af->Sem af}
  (n:∀v u g x y e,Inv X d σ e g->RelV x v->RelV y u->R x y e->ai (be X.prog X.w) X.A (f v u) Q X.xe g):
  ai (be X.prog X.w) X.A (ek a X.env) (λv o=>ai (be X.prog X.w) X.A (ek b X.env) (λu p=>ai (be X.prog X.w) X.A (f v u) Q X.xe p) X.xe o) X.xe s:=by
 refine E9 (l d s σ H _ I h) λv q ⟨x,k,r,t,z⟩=>?_;refine E9 (m d q σ k _ r z) λu g ⟨y,e,B,C,E⟩=>?_;exact n v u g x y e B t C E
def tx {r:V->Hp->VK->Prop}(e:UnR X (unaryOp op) r)(f:PE X a ta):PE X (.UnaryOp op a pos) (tUn r ta):=by intro d s σ H Q I h;exact UnaryOp_ (E9 (f d s σ H _ I h) λv g ⟨x,k,l,m,n⟩=>e d g σ k x v Q l m n)
def opI {f:af->af->Sem af}{C:Int->Int->Prop}{g:Int->Int->Int}
  (rule:∀(i j:Int) (t u:Tok) (s:bb) (Q:B4) (E:B4),C i j->Q (.int (g i j) s.toks) {s with toks:=s.toks+1}->ai (be X.prog X.w) X.A (f (.int i t) (.int j u)) Q E s):
  mH X f (rI C λi j=>.int (g i j)):=by
 intro d s σ H x y v u Q I e k h;obtain⟨i,j,rfl,rfl,l,q⟩:=h;obtain⟨t,rfl⟩:=e;obtain⟨m,rfl⟩:=k;exact rule i j t m s _ _ l ⟨.int (g i j),H,I.tok _,⟨_,rfl⟩,q⟩
def lw {f:af->af->Sem af}{g:Int->Int->Int}
  (rule:∀(i j:Int) (t u:Tok) (s:bb) (Q:B4) (E:B4),Q (.int (g i j) s.toks) {s with toks:=s.toks+1}->ai (be X.prog X.w) X.A (f (.int i t) (.int j u)) Q E s):
  mH X f (XI λi j=>.int (g i j)):=by
 intro d s σ H x y v u Q I e k h;obtain⟨i,j,rfl,rfl,q⟩:=h;obtain⟨t,rfl⟩:=e;obtain⟨l,rfl⟩:=k;exact rule i j t l s _ _ ⟨.int (g i j),H,I.tok _,⟨_,rfl⟩,q⟩
def ZI {f:af->af->Sem af}{g:Int->Int->Bool}
  (rule:∀(i j:Int) (t u:Tok) (s:bb) (Q:B4) (E:B4),Q (.bool (g i j)) s->ai (be X.prog X.w) X.A (f (.int i t) (.int j u)) Q E s):
  mH X f (XI λi j=>.bl (g i j)):=by
 intro d s σ H x y v u Q I e k h;obtain⟨i,j,rfl,rfl,q⟩:=h;obtain⟨t,rfl⟩:=e;obtain⟨l,rfl⟩:=k;exact rule i j t l s _ _ ⟨.bl (g i j),H,I,rfl,q⟩
def a2m (i j:Int):Prop:=0<=j/\j<=1000000/\i.natAbs<2^64
def YR:mH X (ff .Add) (XI λi j=>.int (i+j)):=lw λ_ _ _ _ _ _ _ q=>add_int q
def fq:mH X (ff .Sub) (XI λi j=>.int (i-j)):=lw λ_ _ _ _ _ _ _ q=>sub_int q
def UW:mH X (ff .Mod) (rI (λ_ j=>j≠0) λi j=>.int (i.fmod j)):=opI λ_ _ _ _ _ _ _ d q=>mod_int' d q
def YO:mH X (ff .Pow) (rI a2m λi j=>.int (i^j.toNat)):=opI λ_ _ _ _ _ _ _ d q=>pow_int_small d.1 d.2.1 d.2.2 q
def unI {f:af->Sem af}{g:Int->Int}
  (rule:∀(i:Int) (t:Tok) (s:bb) (Q:B4) (E:B4),Q (.int (g i) s.toks) {s with toks:=s.toks+1}->ai (be X.prog X.w) X.A (f (.int i t)) Q E s):
  UnR X f (rU λi=>.int (g i)):=by
 intro d s σ H x v Q I e h;obtain⟨i,rfl,q⟩:=h;obtain⟨t,rfl⟩:=e;exact rule i t s _ _ ⟨.int (g i),H,I.tok _,⟨_,rfl⟩,q⟩
def YC:UnR X (unaryOp .USub) (rU λi=>.int (-i)):=unI λ_ _ _ _ _ q=>neg_int q
end
section
variable{X:Cx} {a b c:dA} {ta tb tc:TE} {pos:Pos}
def ZY (I:Inv X d σ H s)(q:Q (.bl k) H)(e:k=f):EP X d σ Q (.bool f) s:=by subst e;exact⟨.bl k,H,I,rfl,q⟩
def sk:mH X (eY .Lt) (XI λi j=>.bl (decide (i<j))):=ZI λ_ _ _ _ _ _ _ q=>lt_int q
def vk:mH X (eY .LtE) (XI λi j=>.bl (decide (i<=j))):=ZI λ_ _ _ _ _ _ _ q=>le_int q
def tz:mH X (eY .Gt) (XI λi j=>.bl (decide (j<i))):=ZI λ_ _ _ _ _ _ _ q=>gt_int q
def YE:mH X (eY .Is) (λx y H Q=>y=.non/\Q (.bl (decide (x=.non))) H):=by
 intro d s σ H x y v u Q I e f h;obtain⟨rfl,q⟩:=h;cases f;refine is_none_gen (ZY I q ?_);cases x<;>first
  |(cases e;rfl)
  |(obtain⟨t,rfl⟩:=e;rfl)
def KS (b:dA)(h:op≠.In:=by decide)(d:op≠.NotIn:=by decide):jk op b=false:=by
 have e:(op==CmpOp.In)=false:=by cases op<;>first|rfl|exact absurd rfl h
 have f:(op==CmpOp.NotIn)=false:=by cases op<;>first|rfl|exact absurd rfl d
 cases b<;>simp[jk,e,f]
def vL:(sizeLine:Nat)<2^63:=by rw[aFu];decide
def vals1 (r:l7 [x] d):∃u,d=[u]/\RelV x u:=by
 cases r with
 |cons e f=>cases f;exact⟨_,rfl,e⟩
def vals2 (r:l7 [x,y] e):∃u d,e=[u,d]/\RelV x u/\RelV y d:=by
 cases r with
 |cons f g=>
  cases g with
  |cons h k=>cases k;exact⟨_,_,rfl,f,h⟩
def LX:yZ X (.builtin "abs") (λY H Q=>∃i,Y=[.int i]/\Q (.int (if i<0 then-i else i)) H):=by intro d s σ H Y e Q I r h;obtain⟨i,rfl,q⟩:=h;obtain⟨u,rfl,t,rfl⟩:=vals1 r;exact call_abs_int λu f=>⟨.int (if i<0 then-i else i),H,I.tok _,⟨_,rfl⟩,q⟩
end
section
variable{prog:cp} {w:cy} {A:cv} {E:B4} {s:bb} {K:lr} {x dx C f:bc} {mA:cH} {name:Str} {v:af}
end
section
variable{P:cp} {w:cy} {H H':Hp} {h h':df} {a C dx:bc} {fs xu:List (Str×V)}
end
section
variable{X:Cx} {pins:N2} {σ:St} {H:Hp} {s:bb} {a C dx:bc} {fs:List (Str×V)} {f:Str} {v:V} {A:cv} {E:B4}
end
section
variable{X:Cx} {o e value:dA} {f:Str} {pos pos' tpos:Pos} {ta tv:TE}
end
section
variable{X:Cx} {pins:N2} {σ:St} {H:Hp} {s:bb} {A:cv} {E:B4} {Q:B4} {c:af} {b:Bool}
end
structure Room (k:Nat)(A:Around):Prop where
 hd:A.handled=none
 dp:A.depth+3*k+5<recursionLimit
 un:A.units+16*k+200<cLine
def Room.mono (r:Room k A)(h:j<=k):Room j A:=⟨r.hd,by have:=r.dp;lia,by have:=r.un;lia⟩
def Room.deeper (r:Room (k+1) A)(env:Env):Room k (A.deeper env):=
 ⟨r.hd,by have:=r.dp;show A.depth+1+3*k+5<_;lia,by have:=r.un;show A.units+3+16*k+200<_;lia⟩
def Room.depth (r:Room k A):A.depth<recursionLimit:=by have:=r.dp;lia
def Room.units (r:Room k A):A.units+64<ee:=by have:=r.un;lia
def a1x:TA:=λ_ H Q=>Q [] H
def yz (ta:TE)(tr:TA):TA:=λσ H Q=>ta σ H λx a=>tr σ a λY b=>Q (x::Y) b
section
variable{X:Cx} {e:dA} {es:List dA} {te:TE} {t:TA} {pos:Pos}
def Z7:PA X [] a1x:=λ_ _ _ _ H Q I h=>aFm ⟨[],H,I,.nil,h⟩
def G2 (b:PE X e te)(c:PA X es t)(d:a9 (e::es) X.env=(false,ek e X.env)::a9 es X.env:=by rfl):PA X (e::es) (yz te t):=by intro pos a s σ H Q I h;rw[d];show ai _ _ (spliced ((false,ek e X.env)::d3 pos (a9 es X.env))) _ _ s;refine aEZ (E9 (b a s σ H _ I h) λu f ⟨x,g,k,l,m⟩=>?_);exact E9 (c pos a f σ g _ k m) λr v ⟨Y,n,o,p,q⟩=>⟨x::Y,n,o,.cons l p,q⟩
def a0v (t:TA):TE:=λσ H Q=>t σ H λY a=>Y.length<=sizeLine/\∀p,a p=none->Q (.ref p) (upd a p<|.tup Y)
def a1d (t:TA):TE:=λσ H Q=>t σ H λY a=>Y.length<=sizeLine/\∀p,a p=none->Q (.ref p) (upd a p<|.lst Y)
def ZG {g}(h:PA X es t):PE X (.Tuple es g pos) (a0v t):=by intro a s σ H Q I k;refine wpAny_Tuple_spliced (E9 (h pos a s σ H _ I k) λl c ⟨Y,d,f,r,z,q⟩=>⟨by rw[<-r.length];exact z,?_⟩);have m:d c.heap.objs.size=none:=f.hok.fresh (aAh _);refine⟨.ref c.heap.objs.size,upd d c.heap.objs.size (.tup Y),f.laid (t':=c.toks) (λb u e=>aAc _ e) (aAh _) ?_,rfl,q _ m⟩;exact⟨z,l,r,⟨_,aAq _ rfl,rfl,_,rfl⟩⟩
def PQ (h:PA X es t):PE X (.List es pos) (a1d t):=by intro a s σ H Q I g;refine wpAny_List_spliced (E9 (h pos a s σ H _ I g) λk c ⟨Y,d,f,r,z,q⟩=>⟨by rw[<-r.length];exact z,?_⟩);have l:d c.heap.objs.size=none:=f.hok.fresh (aAh _);refine⟨.ref c.heap.objs.size,upd d c.heap.objs.size (.lst Y),f.laid (t':=c.toks) (λb u e=>aAc _ e) (aAh _) ?_,rfl,q _ l⟩;exact⟨z,k,0,r,aAq _ rfl⟩
end
abbrev Sp:=List V->Hp->VK->XK->Prop
abbrev RP:=List Env->Hp->bb->XK->af->bb->Prop
structure Env0 (P:Program)(w:World)(K:PySem.W.Frag)(mg:cH)(base:Heap)(A:Around)(outer:List Env)(s:Shared)(H:Hp):Prop where
 frames:A.frames=some outer
 mod:Mod K mg base
 bs:∀b o,base.get? b=some o->s.heap.get? b=some o/\H b=none
 bsz:base.objs.size<=s.heap.objs.size
 funs:s.heap.FunFrames base outer
 frf:∀b∈zU outer,H b=none
 hok:fX P w H s.heap
 bare:AllBare s.gens
def CE (a:List Env)(P:cp)(w:cy)(H:Hp)(s:bb)(Q:VK)(u:af)(s':bb):Prop:=
 ∃v b,s'.os=s.os/\AllBare s'.gens/\Un (zU a) [] H b s.heap s'.heap/\fX P w b s'.heap/\RelV v u/\Q v b
def CR (b:RP)(a:List Env)(P:cp)(w:cy)(H:Hp)(s:bb)(Q:VK)(E:XK)(r:Result)(s':bb):Prop:=
 match r with
 |.ok (.ret u)=>CE a P w H s Q u s'
 |.ok _=>False
 |.error e=>b a H s E e s'
structure FnOk (P:Program)(w:World)(K:PySem.W.Frag)(mg:cH)(base:Heap)(CX:RP)(k:Nat)(f:Addr)(fd:FuncData)(ps:List Str)(sp:Sp):Prop where
 len:∀vs H Q E,sp vs H Q E->vs.length=ps.length
 run:∀(A:Around) (outer:List Env) (s:Shared) (H:Hp) (args:Args) (us:List Value) (vs:List V) (Q:VK) (E:XK),Room k A->Env0 P w K mg base A outer s H->BindsTo s fd args (ps.zip us)->l7 vs us->sp vs H Q E->
  codeAny (model P w) A (.call (.ref f) args) (CR CX outer P w H s Q E) s
def FnOk.imp {P:cp}{w:cy}{K:lr}{mg:cH}{base:df}{d:RP}{k:Nat}{f:bc}{fd:eQ}{ps:List Str}{e b:Sp}(F:FnOk P w K mg base d k f fd ps e)
  (h:∀vs H Q E,b vs H Q E->e vs H Q E):FnOk P w K mg base d k f fd ps b:=
 ⟨λvs H Q E q=>F.len vs H Q E (h _ _ _ _ q),λA a s H c g vs Q E l m n o p=>F.run A a s H c g vs Q E l m n o (h _ _ _ _ p)⟩
section
variable{X:Cx} {pins:N2} {σ:St} {H:Hp} {s s':bb}
def Inv.af7 (I:Inv X pins σ H s):Env0 X.prog X.w X.K X.mg X.base X.A X.stack s H:=
 ⟨I.ok.frames,I.ok.mod,I.bs,aAr I.ok.bsz I.sz,I.stack,I.ad5,I.hok,I.bare⟩
def Inv.after (I:Inv X pins σ H s)(h:CE X.stack X.prog X.w H s Q u s'):EP X pins σ Q u s':=by obtain⟨v,f,os,a,un,c,r,q⟩:=h;obtain⟨k,g,d,t,e⟩:=s';obtain rfl:e=s.os:=os;exact⟨v,f,I.call (h':=k) (g':=g) (d':=d) (t':=t) (ch:=[]) un c a (λb z=>absurd z (by simp)),r,q⟩
end
def kw (b:Sp)(a:List V)(E:XK)(t:TA):TE:=λσ H Q=>t σ H λc d=>b (c++a) d Q E
def Binds (K:lr)(fd:eQ)(ps:List Str)(ds:List af):Prop:=
 ∀(s:bb) (us:List af),K.In s.heap->(us++ds).length=ps.length->BindsTo s fd ⟨us,[]⟩ (ps.zip<|us++ds)
def Binds.all {K:lr}{fd:eQ}{ps:List Str}(h:∀a:List af,a.length=ps.length->bindArgs fd ⟨a,[]⟩=pure (ps.zip a)):Binds K fd ps []:=λs a _ b=>by rw[aBR]at b⊢;exact .of_eq (h a b)
def CF (c:RP)(X:Cx)(E:XK):Prop:=∀(a:N2) (σ:St) (H:Hp) (s:bb) (e:af) (b:bb),Inv X a σ H s->c X.stack H s E e b->X.xe e b
section
variable{X:Cx} {CX:RP} {k:Nat} {f C:bc} {fd:eQ} {ps:List Str} {sp:Sp} {dvs:List V} {ds:List af} {E:XK} {x m:Str} {p pos apos:Pos} {e o:dA} {es:List dA} {ta:TE} {t:TA}
def gj (F:FnOk X.prog X.w X.K X.mg X.base CX k f fd ps sp)(g:Room k X.A)(l:Binds X.K fd ps ds)(n:l7 dvs ds)(q:CF CX X E)(I:Inv X a σ H s)(r:l7 vs b)(h:sp (vs++dvs) H Q E):ai (be X.prog X.w) X.A (call (.ref f) b) (EP X a σ Q) X.xe s:=by
 have d:l7 (vs++dvs) (b++ds):=r.append n;have v:(b++ds).length=ps.length:=by rw[<-d.length];exact F.len _ _ _ _ h
 refine wpAny_call (aDT (F.run X.A X.stack s H ⟨b,[]⟩ (b++ds) (vs++dvs) Q E g I.af7 (l s b I.kIn v) d h) λr y c=>?_);cases r with
 |error e=>exact q a σ H s e y I c
 |ok z=>
  cases z with
  |ret u=>exact I.after c
  |next=>exact aAi c
  |brk=>exact aAi c
  |cont=>exact aAi c
def GB (F:FnOk X.prog X.w X.K X.mg X.base CX k f fd ps sp)(c:Room k X.A)(d:Gl X x)(g:X.mg x=some (.ref f))(l:PySem.W.keepIn X.K (.ref f)=true)(n:Binds X.K fd ps ds)(u:l7 dvs ds)(v:CF CX X E)
  (y:PA X (e::es) t) (z:(x==lM)=false:=by decide) (B:a9 (e::es) X.env=(false,ek e X.env)::a9 es X.env:=by rfl) (J:(d3 pos (a9 es X.env)).any (·.1)=false:=by rfl):
  PE X (.Call (.Name x p) (e::es) [] pos) (kw sp dvs E t):=by
 intro a s σ H Q I h;refine aAR (wB I d g ?_ z);refine PySem.W.callWith_K (h₀:=X.base) I.ok.mod.kin l (E9 (y pos a s σ H _ I h) λL N ⟨O,T,b,r,q⟩=>⟨b.kIn,?_⟩) B J;exact gj F c n u v b r q
end
section
variable{X:Cx} {CX:RP} {k:Nat} {f C:bc} {fd:eQ} {ps ks:List Str} {sp:Sp} {E:XK} {x m:Str} {p pos apos kpos:Pos} {e o:dA} {es:List dA} {kws:List Keyword} {te ta:TE} {t tk:TA} {nm:Option Str}
variable{g:List af->List af->List af} {gV:List V->List V->List V}
end
structure FnScope (N P:List Str)(sc:Scope):Prop where
 kind:sc.kind=.function
 co:sc.isCoroutine=false
 gen:sc.isGenerator=false
 nd:N.Nodup
 pre:N.take P.length=P
 par:∀x∈P,sc.names.lookup x=some .local\/sc.names.lookup x=some .cell
 nofree:∀y∈sc.names,y.2≠.free
theorem tM {kindOf:Str->Option fg}{x:Str}:∀{binds:List (Str×af)} {m:cH},(∀v,(x,v)∉binds)->bindL kindOf binds m x=m x
 |[],_,_=>rfl
 |(n,v)::r,m,h=>by
  unfold bindL;rw[tM λw a=>h w (aAe _ a)];split
  .have:x≠n:=by rintro rfl;exact h v aAU
   simp[this]
  .rfl
theorem rX {kindOf:Str->Option fg}{x:Str}:∀{binds:List (Str×af)} {m:cH},(∀v,(x,v)∉binds)->bindC kindOf binds m x=m x
 |[],_,_=>rfl
 |(n,v)::r,m,h=>by
  unfold bindC;rw[rX λw a=>h w (aAe _ a)];split
  .rfl
  .have:x≠n:=by rintro rfl;exact h v aAU
   simp[this]
theorem tZ {kindOf:Str->Option fg}{x:Str}{v:af}:∀{P:List Str} {vs:List af} {i:Nat} {m:cH},P.Nodup->P[i]?=some x->vs[i]?=some v->kindOf x=some .local->
  bindL kindOf (P.zip vs) m x=some v
 |[],_,_,_,_,h,_,_=>by simp at h
 |_::_,[],_,_,_,_,h,_=>by simp at h
 |p::P,w::vs,0,m,c,a,b,d=>by simp at a b;subst a;subst b;show bindL kindOf ((p,w)::P.zip vs) m p=_;unfold bindL;rw[tM λv e=>(aAF.mp c).1 (aDX e).1,kd d];simp
 |p::P,w::vs,i+1,m,c,a,b,d=>by show bindL kindOf ((p,w)::P.zip vs) m x=_;unfold bindL;exact tZ (i:=i) (aAF.mp c).2 (by simpa using a) (by simpa using b) d
theorem tH {kindOf:Str->Option fg}{x:Str}{v:af}:∀{P:List Str} {vs:List af} {i:Nat} {m:cH},P.Nodup->P[i]?=some x->vs[i]?=some v->kindOf x≠some .local->
  bindC kindOf (P.zip vs) m x=some v
 |[],_,_,_,_,h,_,_=>by simp at h
 |_::_,[],_,_,_,_,h,_=>by simp at h
 |p::P,w::vs,0,m,c,a,b,d=>by simp at a b;subst a;subst b;show bindC kindOf ((p,w)::P.zip vs) m p=_;unfold bindC;rw[rX λv e=>(aAF.mp c).1 (aDX e).1,kz d];simp
 |p::P,w::vs,i+1,m,c,a,b,d=>by show bindC kindOf ((p,w)::P.zip vs) m x=_;unfold bindC;exact tH (i:=i) (aAF.mp c).2 (by simpa using a) (by simpa using b) d
def start (N:List Str)(vs:List V):St:=vs.map some++aCP (N.length-vs.length) none
def EA (c:RP)(P:cp)(w:cy)(K:lr)(mg:cH)(base:df)(N:List Str)(qual:Str)(a:kb)(f:bc)(cd:af)(A:cv)(outer:List Env)(s:bb)(H:Hp)(E:XK):Cx where
 prog:=P
 w:=w
 K:=K
 mg:=mg
 base:=base
 A:=A.deeper (envOfC qual a s.heap.objs.size f cd)
 N:=N
 s9:=s
 H9:=H
 env:=envOfC qual a s.heap.objs.size f cd
 outer:=outer
 stack:=envOfC qual a s.heap.objs.size f cd::outer
 ex:=[]
 calm:=true
 fn:=λ_=>true
 pn:=[]
 xe:=λe d=>ai (be P w) (A.deeper<|envOfC qual a s.heap.objs.size f cd) (leaving (envOfC qual a s.heap.objs.size f cd) e) (λ_ b=>c outer H s E e b) (λg b=>c outer H s E g b) d
def xR {sc:kb}{n:Nat}{x:Str}(h:sc.names.lookup x=some .cell):∃c,(eZ n sc.names []).lookup x=some c:=by have q:=PySem.W.cellsFrom_some sc.names n [] (.inl h);exact aFn.mp q
def JB {O:RP}{P:cp}{w:cy}{K:lr}{mg:cH}{base:df}{N ps:List Str}{qual:Str}{d:kb}{f:bc}{cd:af}{A:cv}{g:List Env}{s Q:bb}{H:Hp}{E:XK}{L:List af}{vs:List V}
  (S:FnScope N ps d) (Y:A.handled=none) (m:Env0 P w K mg base A g s H) (hl:vs.length=ps.length) (r:l7 vs L)
  (x:InCallC s s.heap.objs.size (bindL (envOfC qual d s.heap.objs.size f cd).kindOf (ps.zip L) λ_=>none) (eZ (s.heap.objs.size+1) d.names []) (bindC (envOfC qual d s.heap.objs.size f cd).kindOf (ps.zip L) λ_=>none) Q):
  Inv (EA O P w K mg base N qual d f cd A g s H E) [] (start N vs) H Q:=by
 have bh:ps.length<=N.length:=by have:=ll aFr S.pre;rw[aBU]at this;lia
 obtain⟨I,tk,rfl,T⟩:=x.done;have o:∀b:bc,b∉(EA O P w K mg base N qual d f cd A g s H E).ex:=λb z=>absurd (show b∈([]:List bc)from z) (by simp);refine⟨⟨m.mod,S.kind,rfl,rfl,aAh _,λy z c I l=>?_,λy t=>?_,λy c _ h=>?_,λ_=>Y,aFZ m.frames,.inr ⟨rfl,rfl⟩,λb z=>absurd z (o b),m.bs,m.bsz,λb _ _=>o b,λb z=>absurd z (o b),m.funs,m.frf⟩,
  rfl,m.bare,Un.kept T,⟨_,x.toInCall.ns,λi y v I l h3=>?_⟩,λy c h=>⟨_,x.cell y c h⟩,m.hok.fresh (aAh _),λy c h=>?_,λp B=>absurd (show p∈([]:N2)from B) (by simp),m.hok.kept T,?_⟩
 .exact name_of_addr x.apart (PySem.mem_of_lookup I) (PySem.mem_of_lookup l)
 .have t:d.names.lookup y=some .cell\/d.names.lookup y=some .free:=t;rcases t with t|t
  .exact xR t
  .exact absurd rfl (S.nofree _<|PySem.mem_of_lookup t)
 .exact aDy (x.above y c<|PySem.mem_of_lookup h)
 .have J:i<vs.length:=by
   unfold start at l;by_cases J:i<vs.length
   .exact J
   .rw[aAB (by simpa using J)]at l;rw[aBz]at l;split at l<;>cases l
  have ha:vs[i]?=some v:=by
   unfold start at l;rw[aAX (by simpa using J),aAG]at l;cases e:vs[i]? with
   |none=>rw[e]at l;cases l
   |some a=>rw[e]at l;cases l;rfl
  obtain⟨u,U,rv⟩:=r.get ha;have B:ps[i]?=some y:=by rw[<-S.pre,List.getElem?_take_of_lt (by lia)];exact I
  have C:ps.Nodup:=by rw[<-S.pre];exact S.nd.sublist (List.take_sublist _ _)
  refine⟨u,rv,?_⟩;rcases S.par y (aAk B)with k|k
  .exact .inl ⟨k,tZ C B U k⟩
  .obtain⟨c,e⟩:=xR (n:=s.heap.objs.size+1) k;refine .inr ⟨.inl k,c,e,?_⟩;have q:=x.cell y c e;rw[tH C B U (by show d.names.lookup y≠_;rw[k];decide)]at q;exact q
 .exact m.hok.fresh (aDy<|x.above y c<|PySem.mem_of_lookup h)
 .unfold start;show _=N.length;rw[aAD,aAj,aCq]
  lia
def XS {z:RP}{P:cp}{w:cy}{K:lr}{mg:cH}{base:df}{k:Nat}{f:bc}{name qual:Str}{d:Arguments}{body:List d9}{a:kb}{dV kV h pm L ct oc:af}{an od:Option bc}
  {C:Array (Option af)} {N ps:List Str} {O:Sp} (lk:K.lookup f=some ⟨oc,od,.func (PySem.W.fnOf name qual d body a dV kV h pm an L ct),C⟩) (fm:PySem.W.codeIn K L qual=true) (S:FnScope N ps a)
  (len:∀vs H Q E,O vs H Q E->vs.length=ps.length)
  (wo:∀(A:cv) (c:List Env) (s:bb) (H:Hp) (vs:List V) (Q:VK) (E:XK),Room k (A.deeper (envOfC qual a s.heap.objs.size f L))->O vs H Q E->
   ∃t,uK (EA z P w K mg base N qual a f L A c s H E) body t/\t {nx:=λ_ H'=>Q .non H',rt:=Q} (start N vs) H):
  FnOk P w K mg base z (k+1) f (PySem.W.fnOf name qual d body a dV kV h pm an L ct) ps O:=by
 refine⟨len,λA c s H args us vs Q E T l hb r m=>?_⟩;have hl:=len _ _ _ _ m;have KX:K.In s.heap:=l.mod.kin.keeps λb o e=>(l.bs b o e).1;have U:s.heap.NoLimit:=l.mod.nolimit.keeps λb o e=>(l.bs b o e).1;have ph:∀y∈ps.zip us,a.names.lookup y.1=some .local\/(a.names.lookup y.1=some .cell/\((eZ (s.heap.objs.size+1) a.names []).lookup y.1).isSome=true):=λ⟨n,v⟩ hy=>by
  rcases S.par n (aDX hy).1 with q|q
  .exact .inl q
  .exact .inr ⟨q,PySem.W.cellsFrom_some _ _ _ (.inl q)⟩
 refine codeAny_call_function T.depth (KX _ _ lk) rfl S.co S.gen rfl (PySem.W.codeRec_of KX fm) (hb _ _ _ _ ?_);refine wpAny_newFunctionEnv_cells S.kind ph λenv he s1 x=>?_;subst he;refine⟨U.keeps x.toInCall.keep,codeAny_func ?_⟩;obtain⟨t,ht,hq⟩:=wo A c s H vs Q E (T.deeper _) m;have I:Inv (EA z P w K mg base N qual a f L A c s H E) [] (start N vs) H s1:=JB S T.hd l hl r x;refine aCu (ht [] s1 (start N vs) H _ I hq) (λfl Y g=>?_) λe Y g=>g;have p:∀{B:St} {H':Hp} {v:V} {u:af},Inv (EA z P w K mg base N qual a f L A c s H E) [] B H' Y->RelV v u->Q v H'->CE c P w H s Q u Y:=
  λ{B H' v u} J rv q=>⟨v,H',J.os,J.bare,J.base,J.hok,rv,q⟩
 cases fl with
 |ret u=>obtain⟨v,B,H',J,rv,q⟩:=g;exact p J rv q
 |next=>obtain⟨B,H',J,q⟩:=g;exact p (v:=V.non) (u:=Value.none) J rfl q
 |brk=>obtain⟨_,_,_,q⟩:=g;exact aAi q
 |cont=>obtain⟨_,_,_,q⟩:=g;exact aAi q
section
variable{X:Cx} {x:Str} {p pos:Pos} {e:dA} {es:List dA} {t:TA} {id T:String} {r:List V->Hp->VK->Prop}
end
end L2
namespace HT
open PySem PyProof.Rows
def lexLt:List Int->List Int->Bool
 |[],[]=>false
 |[],_::_=>true
 |_::_,[]=>false
 |x::Y,y::a=>if x=y then lexLt Y a else decide (x<y)
def lexLt_cons (x y:Int)(Y a:List Int):lexLt (x::Y) (y::a)=if x=y then lexLt Y a else decide (x<y):=rfl
def Q0:lexLt [] []=false:=rfl
def F7 (y:Int)(a:List Int):lexLt [] (y::a)=true:=rfl
def A3 (x:Int)(Y:List Int):lexLt (x::Y) []=false:=rfl
def oN (A:cv)(s:bb)(a:Int)(t:Tok)(c:Int)(u:Tok):∃e,SeqAt.EqAt A s (.int a t) (.int c u) e/\(e=true↔a=c):=
 ⟨(a==c),aFa a t c u,by simp⟩
def zS (A:cv)(s:bb)(a:Int)(t:Tok)(c:Int)(u:Tok)(prog:cp)(w:cy)(E:B4)(Q:B4)(h:Q (.bool (decide (a<c))) s):
  ai (be prog w) A (i5 .Lt (.int a t) (.int c u)) Q E s:=
 (PyProof.Rows.lt_int h:ai (be prog w) A (eY .Lt (.int a t) (.int c u)) Q E s)
section
open PySem.SeqAt
open PySem.AutoSeq1 (wpAny_loadPart')
open PySem.MeetsSeq PySem.MeetsSeq2 PySem.MeetsSeq3
def rK (l b:bc)(items p:Array af)(n n2:Nat)(dd sv:Option bc)(sl qp:Array (Option af))(ns C:List Int)(U:IntsAre items.toList ns)(Y:IntsAre p.toList C):
  Meets (Builtin.«tuple.__lt__» ⟨[.ref l,.ref b],[]⟩)
   (λ_ R s=>s.heap.get? l=some {cls:=.type "tuple",dict:=dd,data:=.seq items n,slots:=sl}/\s.heap.get? b=some {cls:=.type "tuple",dict:=sv,data:=.seq p n2,slots:=qp}/\
    R (.ok (.ret (.bool (lexLt ns C)))) s):=
 .of_wp λm w A R s h=>by
  obtain⟨E,g,d,H,os⟩:=s;obtain⟨hl,hb,h⟩:=h;have f2:=aFo;have z1:items.size=ns.length:=by rw[<-U.length];simp
  have z2:p.size=C.length:=by rw[<-Y.length];simp
  wp_walk using aDA hl,aDA hb,aCf _ (λrest b N=>b.1=none/\N=⟨E,g,d,H,os⟩/\∃(I J:List af) (r v:List Int),rest=I.zip J/\
   IntsAre I r/\IntsAre J v/\r.length+p.size=v.length+items.size/\R (.ok (.ret (.bool (lexLt r v)))) ⟨E,g,d,H,os⟩) _
  case turn=>
   rintro⟨y,x⟩ rest b N ⟨O,rfl,I,J,r,v,k,Q,L,f,o⟩;cases Q with
   |nil=>rw[aFp]at k;cases k
   |cons a t z=>
    cases L with
    |nil=>rw[aFb]at k;cases k
    |cons c u B=>
     rw[aBN]at k;injection k with xp ah;injection xp with hy hx;subst hy hx;rw[lexLt_cons]at o;simp only[aAv]at f;obtain⟨e,he,qa⟩:=oN A.in1 ⟨E,g,d,H,os⟩ a t c u;refine aAa (he m w _ _ ?_);cases e with
     |true=>
      rw[kd (qa.mp rfl)]at o
      wp_walk
      exact⟨rfl,rfl,_,_,_,_,ah,z,B,by lia,o⟩
     |false=>
      rw[kz (λq=>absurd (qa.mpr q) aAQ)]at o;have T:=zS A.in1 ⟨E,g,d,H,os⟩ a t c u m w
      wp_walk using T
      exact⟨_,rfl,by simpa using o⟩
  case fin=>
   rintro⟨b1,b2⟩ N ⟨O,rfl,I,J,r,v,k,Q,L,f,o⟩;simp only at O;subst O;have hv:lexLt r v=decide (items.size<p.size):=by
    cases Q with
    |nil=>
     cases L with
     |nil=>simp only[aBB]at f;rw[Q0];exact(decide_eq_false (by lia)).symm
     |cons c u hw=>simp only[aBB,aAv]at f;rw[F7];exact(decide_eq_true (by lia)).symm
    |cons a t hv=>
     cases L with
     |nil=>simp only[aBB,aAv]at f;rw[A3];exact(decide_eq_false (by lia)).symm
     |cons c u hw=>rw[aBN]at k;cases k
   rw[hv]at o
   wp_walk
   exact⟨_,rfl,by simpa[aEh]using o⟩
  case h=>exact⟨rfl,rfl,items.toList,p.toList,ns,C,rfl,U,Y,by lia,h⟩
end
section
variable{prog:cp} {w:cy} {A:cv} {E:B4} {s:bb}
def lt_tupInts {Q:B4}(p:IsTup s.heap l items)(q:IsTup s.heap b d)(r:IntsAre items.toList ns)(t:IntsAre d.toList c)(u:A.units<ee)(h:Q (.bool (lexLt ns c)) s):ai (be prog w) A (eY .Lt (.ref l) (.ref b)) Q E s:=by
 obtain⟨⟨v,y,e,z⟩,f,g,n,k⟩:=id p;obtain⟨⟨I,B,data2,C⟩,m,o,H,a⟩:=id q;simp only at g k o a;subst g k o a;exact richCompare_meets_room (op:=.Lt) ⟨_,f,rfl⟩ ⟨_,m,rfl⟩ PySem.F.slot_tuple_lt PySem.F.entry_tuple_lt (PySem.F.args_tuple_lt_2 _ _) (rK l b items d n H y B z C ns c r t)
  ⟨f,m,show aDn (lexLt ns c)≠aGa/\Q (.bool (lexLt ns c)) s from⟨(λx=>nomatch x),h⟩⟩ u
def cat_tup {Q:B4}(v:IsTup s.heap t vs.toArray)(x:IsTup s.heap b ws.toArray)(h:vs≠[])(y:ws=[]->Q (.ref t) s)(z:ws≠[]->Q (.ref s.heap.objs.size) {s with heap:=s.heap.push {cls:=.type "tuple",data:=.seq (vs++ws).toArray}})(g:vs.length+ws.length<=sizeLine):ai (be prog w) A (ff .Add (.ref t) (.ref b)) Q E s:=by
 obtain⟨⟨cls,k,data,l⟩,c,m,n,o⟩:=id v;obtain⟨⟨B,p,data2,q⟩,d,r,u,a⟩:=id x;simp only at m o r a;subst m o r a;have e:vs.toArray++ws.toArray=(vs++ws).toArray:=by simp
 by_cases f:ws=[]
 .exact aFS ⟨_,c,rfl⟩ ⟨_,d,rfl⟩ aFB seq_tuple_add PySem.F.slot_tuple_add PySem.F.entry_tuple_add (PySem.F.args_tuple_add_2 _ _)
   (tuple_addW1 t b vs.toArray ws.toArray n u k p l q (by simpa using h) (by simp[f])) ⟨c,d,y f⟩
 .refine aFS ⟨_,c,rfl⟩ ⟨_,d,rfl⟩ aFB seq_tuple_add PySem.F.slot_tuple_add PySem.F.entry_tuple_add (PySem.F.args_tuple_add_2 _ _)
   (tuple_addW2 t b vs.toArray ws.toArray n u k p l q (by simpa using h) (by simpa using f) (by rw[aAp,aAp];exact g)) ⟨c,d,?_⟩
  rw[e];exact z f
def sIx (n d:Nat):Option Int->Nat
 |none=>d
 |some v=>if v<0 then(v+(n:Int)).toNat else min v.toNat n
def xz (n d:Nat):sIx n d none=d:=rfl
def ZW (n d:Nat)(b:d<=n)(o:Option Int):sIx n d o<=n:=by
 cases o with
 |none=>exact b
 |some v=>
  show(if v<0 then(v+(n:Int)).toNat else min v.toNat n)<=n;by_cases a:v<0
  .rw[kd a];lia
  .rw[kz a];exact Nat.min_le_right _ _
def FR (v:Int)(n d:Nat):(if v<0 then max (v+(n:Int)) 0 else min v (n:Int))=((sIx n d (some v):Nat):Int):=by
 show(if v<0 then max (v+(n:Int)) 0 else min v (n:Int))=(((if v<0 then(v+(n:Int)).toNat else min v.toNat n):Nat):Int);by_cases a:v<0
 .simp only[kd a];lia
 .simp only[kz a];lia
def AY (lo a:Option Int)(n:Nat):aDK lo a 1 (n:Int)=(((sIx n 0 lo:Nat):Int),((sIx n n a:Nat):Int)):=by
 have b:¬((1:Int)<0):=by lia
 unfold aDK;simp only[b,if_false];refine aFs ?_ ?_
 .cases lo with
  |none=>rfl
  |some v=>exact FR v n 0
 .cases a with
  |none=>rfl
  |some v=>exact FR v n n
def EG (i j:Nat):aCQ (i:Int) (j:Int) 1=j-i:=by
 unfold aCQ;have a:(1:Int)>0:=by lia
 simp only[a,if_true,Int.ediv_one];split<;>lia
def pG {Q:Option Int->bb->Prop}(p:IsPart v o)(h:Q o s):ai (be prog w) A (Builtin.Slice.slicePartIndex v) Q E s:=by
 cases p with
 |none=>exact slicePart_none h
 |int i t=>exact slicePart_int h
def kG {sl:bc}{c d:af}{lo a:Option Int}{n:Nat}{Q:Int×Int×Nat->bb->Prop}(f:s.heap.IsSliceOf sl c d .none)(g:IsPart c lo)(k:IsPart d a)
  (h:Q (((sIx n 0 lo:Nat):Int),1,sIx n n a-sIx n 0 lo) s):ai (be prog w) A (aER (.ref sl) (pure (n:Int))) Q E s:=by
 obtain⟨os,b,l,e⟩:=id f;unfold aER Builtin.Slice.sliceFields;refine aAa (aAa<|aCR b e (x:=c) rfl<|aAa<|aCR b e (x:=d) rfl<|aAa<|aCR b e (x:=.none) rfl<|aAb ?_);refine aAa (slicePart_none ?_);show ai _ _ (if((1:Int)==0)=true then _ else _) _ _ s;rw[kz (by decide)];refine aAa (pG g<|aAa<|pG k<|aAa<|aAb ?_);show ai _ _ (match aDK lo a 1 (n:Int)with|(lo,a)=>pure (lo,(1:Int),aCQ lo a 1)) _ _ s;rw[AY lo a n];show ai _ _ (pure (((sIx n 0 lo:Nat):Int),(1:Int),aCQ ((sIx n 0 lo:Nat):Int) ((sIx n n a:Nat):Int) 1)) _ _ s;rw[EG];exact aAb h
def NR (Y:Array af)(i k:Nat):((aBF k).filterMap λ(m:Nat)=>Y[((i:Int)+(m:Int)*1).toNat]?).toArray=((Y.toList.drop i).take k).toArray:=by
 have e:(λ(m:Nat)=>Y[((i:Int)+(m:Int)*1).toNat]?)=λm=>Y[i+m]?:=by
  funext m
  have:((i:Int)+(m:Int)*1).toNat=i+m:=by lia
  rw[this]
 rw[e];have:=pick_run Y i k;rw[aDq]at this;have a:((λx=>Y[x]?)∘λx=>i+x)=λm=>Y[i+m]?:=rfl;rw[a]at this;rw[this]
def getItem_tuple_cut {t sl:bc}{items:Array af}{g k:af}{lo a:Option Int}{Q:B4}(b:IsTup s.heap t items)(l:s.heap.IsSliceOf sl g k .none)(n:IsPart g lo)(o:IsPart k a)
  (p:¬(sIx items.size 0 lo=0/\sIx items.size items.size a=items.size))
  (h:Q (.ref s.heap.objs.size) {s with heap:=s.heap.push {cls:=.type "tuple",data:=.seq ((items.toList.drop (sIx items.size 0 lo)).take (sIx items.size items.size a-sIx items.size 0 lo)).toArray}})
  (r:items.size<=sizeLine):ai (be prog w) A (getItem (.ref t) (.ref sl)) Q E s:=by
 have c:sizeOk (.seq ((items.toList.drop<|sIx items.size 0 lo).take (sIx items.size items.size a-sIx items.size 0 lo)).toArray):=by
  show((items.toList.drop<|sIx items.size 0 lo).take (sIx items.size items.size a-sIx items.size 0 lo)).toArray.size<=sizeLine;rw[aAp,aBU,aDN,aAZ]
  lia
 have v:sIx items.size items.size a<=items.size:=ZW _ _ (aAh _) a;obtain⟨os,d,u,x⟩:=id l;have e:s.TypeIs (.ref sl) "slice":=⟨os,d,u⟩;unfold getItem;try with_reducible refine aAK ?_
 first|refine aAa (aAb ?_)|skip
 refine aAa (wpAny_sequenceKey b.typeIs (by decide) ?_);refine aAa (aCa (name:=aCD "__getitem__") b.typeIs aCE
  (aBn aCE b.typeIs entry_tuple_getitem ?_ (args_tuple_getitem _ _)))
 show ai _ _ (aDF (.ref t)>>=_) _ _ s;refine aAa (tupleItemsOf_ b ?_);refine aAa (aDU e ?_);rw[kd (by decide)];refine aAa (kG l n o ?_);have f:¬((((sIx items.size 0 lo:Nat):Int)==0&&(1:Int)==1&&(sIx items.size items.size a-sIx items.size 0 lo)==items.size)=true):=by intro q;rw[aAH,aAH]at q;have y:((sIx items.size 0 lo:Nat):Int)=0:=eq_of_beq q.1.1;have z:sIx items.size items.size a-sIx items.size 0 lo=items.size:=eq_of_beq q.2;exact p ⟨by lia,by lia⟩
 show ai _ _ (if(((sIx items.size 0 lo:Nat):Int)==0&&(1:Int)==1&&(sIx items.size items.size a-sIx items.size 0 lo)==items.size)=true then _ else _) _ _ s;rw[kz f,NR];first
  |exact aAa (m:=aCY _) (aAW (aAb ⟨_,rfl,aAb h⟩) c)
  |exact aAa (m:=aCY _) (aAW (aAa<|aAb<|aAb ⟨_,rfl,aAb h⟩) c)
  |exact aAa (aAa (m:=aCY _)<|aAW (aAb<|aAb ⟨_,rfl,aAb h⟩) c)
  |exact aAa (aAa (m:=aCY _)<|aAW (aAb ⟨_,rfl,aAb h⟩) c)
end
end HT
namespace L2
open PySem PySem.Spec PyProof.Rows
abbrev TO:=St->Hp->(Option Int->Hp->Prop)->Prop
def PO (X:Cx)(e:Option dA)(t:TO):Prop:=
 ∀(a:N2) (s:bb) (σ:St) (H:Hp) (Q:Option Int->Hp->Prop),Inv X a σ H s->t σ H Q->
  ai (be X.prog X.w) X.A (evalPart e X.env) (λu c=>∃o b,Inv X a σ b c/\IsPart u o/\Q o b) X.xe s
def WB:TO:=λ_ H Q=>Q none H
def yw (t:TE):TO:=λσ H Q=>t σ H λx a=>∃i,x=.int i/\Q (some i) a
section
variable{X:Cx} {e:dA} {te:TE} {lo hi:Option dA} {tl th:TO} {pos p2:Pos}
def UE:PO X none WB:=by intro a s σ H Q I h;rw[evalPart_none];exact aAb ⟨none,H,I,.none,h⟩
def SU (h:PE X e te):PO X (some e) (yw te):=by intro a s σ H Q I b;rw[evalPart_some];refine E9 (h a s σ H _ I b) λu k ⟨x,c,d,f,g⟩=>?_;obtain⟨i,rfl,q⟩:=g;obtain⟨t,rfl⟩:=f;exact⟨some i,c,d,.int i t,q⟩
def YU (X:Cx)(r:V->Option Int->Option Int->Hp->VK->Prop):Prop:=
 ∀(a:N2) (s:bb) (σ:St) (H:Hp) (x:V) (v b c:af) (lo hi:Option Int) (d:bc) (Q:VK),Inv X a σ H s->RelV x v->s.heap.IsSliceOf d b c .none->IsPart b lo->IsPart c hi->r x lo hi H Q->
  ∃T id,typeLookup (.type T) "__getitem__"=pure (some<|.builtin id)/\s.TypeIs v T/\ai (be X.prog X.w) X.A (getItem v<|.ref d) (EP X a σ Q) X.xe s
def YU.or {r b:V->Option Int->Option Int->Hp->VK->Prop}(h:YU X r)(h':YU X b):YU X (λx lo hi H Q=>r x lo hi H Q\/b x lo hi H Q):=by
 intro a s σ H x v c d lo hi f Q I g k l m q;rcases q with q|q
 .exact h a s σ H x v c d lo hi f Q I g k l m q
 .exact h' a s σ H x v c d lo hi f Q I g k l m q
def tSl (r:V->Option Int->Option Int->Hp->VK->Prop)(te:TE)(tl th:TO):TE:=λσ H Q=>te σ H λx a=>tl σ a λl b=>th σ b λu c=>r x l u c Q
def PY {r:V->Option Int->Option Int->Hp->VK->Prop}(k:YU X r)(m:PE X e te)(n:PO X lo tl)(o:PO X hi th):PE X (.Subscript e (.Slice lo hi none p2) pos) (tSl r te tl th):=by intro a s σ H Q I h;refine Subscript_ (E9 (m a s σ H _ I h) λv p ⟨x,t,y,z,B⟩=>?_);refine wpAny_Slice (E9 (n a p σ t _ y B) λd C ⟨l,E,J,L,N⟩=>E9 (o a C σ E _ J N) λf c ⟨u,g,O,U,Y⟩=>?_);rw[evalPart_none];refine aAb ?_;have I4:Inv X a σ g {c with heap:=c.heap.push {cls:=.type "slice",data:=.fields #[d,f,.none]}}:=O.kept (t':=c.toks) λb ob q=>aAc _ q;obtain⟨T,id,hT,ht,hg⟩:=k a {c with heap:=c.heap.push {cls:=.type "slice",data:=.fields #[d,f,.none]}} σ g x v d f l u c.heap.objs.size Q I4 z (Heap.IsSliceOf.new ..) L U Y;show ai (be X.prog X.w) X.A (subscriptTail e (.Slice lo hi none p2) v<|.ref c.heap.objs.size) (EP X a σ Q) X.xe {c with heap:=c.heap.push {cls:=.type "slice",data:=.fields #[d,f,.none]}};exact tail_any (ops:=[.ref c.heap.objs.size,v]) ht hT hg (by with_unfolding_all rfl)
def yV (Y:List V)(lo hi:Option Int):List V:=(Y.drop<|HT.sIx Y.length 0 lo).take (HT.sIx Y.length Y.length hi-HT.sIx Y.length 0 lo)
def lO (Y:List V)(lo hi:Option Int):(yV Y lo hi).length<=Y.length:=by
 unfold yV;rw[aBU,aDN]
 lia
def a0d (K:lr):V->Option Int->Option Int->Hp->VK->Prop:=λx lo hi H Q=>∃a Y,x=.ref a/\V1 K H a Y/\
 ¬(HT.sIx Y.length 0 lo=0/\HT.sIx Y.length Y.length hi=Y.length)/\∀p,H p=none->Q (.ref p) (upd H p<|.tup (yV Y lo hi))
def ZM:YU X (a0d X.K):=by
 intro f s σ H x v w y lo hi z Q I l m n p h;obtain⟨a,Y,rfl,t,u,q⟩:=h;cases l;obtain⟨d,r,g,k⟩:=I.tuple t;have c:d.toArray.size=Y.length:=by rw[aAp];exact r.length.symm
 refine⟨"tuple",_,aCE.lookup,g.typeIs,?_⟩;refine HT.getItem_tuple_cut g m n p (by rw[c];exact u) ?_ (by rw[c];exact k);rw[c];refine⟨.ref s.heap.objs.size,_,I.laid (t':=s.toks) (o:=.tup (yV Y lo hi)) (λb A q=>aAc _ q) (aAh _) ?_,rfl,q _ (I.hok.fresh<|aAh _)⟩;exact⟨aAr (lO Y lo hi) k,_,(r.drop<|HT.sIx Y.length 0 lo).take (HT.sIx Y.length Y.length hi-HT.sIx Y.length 0 lo),IsTup.new _ _⟩
def xx (K:lr):R2:=λx y H Q=>∃a b Y c,x=.ref a/\y=.ref b/\V1 K H a Y/\V1 K H b c/\Y≠[]/\Y.length+c.length<=sizeLine/\
 (c=[]->Q (.ref a) H)/\(c≠[]->∀p,H p=none->Q (.ref p) (upd H p<|.tup (Y++c)))
def l7.ac3 (r:l7 Y a):a=[]↔Y=[]:=by
 cases r with
 |nil=>simp
 |cons _ _=>simp
def FQ:mH X (ff .Add) (xx X.K):=by intro f s σ H x y v u Q I k l h;obtain⟨a,b,Y,m,rfl,rfl,n,p,r,g,t,A⟩:=h;cases k;cases l;obtain⟨B,d,C,_⟩:=I.tuple n;obtain⟨E,c,p2,_⟩:=I.tuple p;refine HT.cat_tup C p2 (λz=>r (d.ac3.mp z)) (λz=>⟨.ref a,H,I,rfl,t (c.ac3.mp z)⟩) (λz=>?_) (by rw[<-d.length,<-c.length];exact g);refine⟨.ref s.heap.objs.size,_,I.laid (t':=s.toks) (o:=.tup (Y++m)) (λb J q=>aAc _ q) (aAh _) ?_,rfl,A (λw=>z (c.ac3.mpr w)) _ (I.hok.fresh<|aAh _)⟩;exact⟨by rw[aAD];exact g,_,d.append c,IsTup.new _ _⟩
end
def JE (n:Nat)(i:Int):Option Nat:=if 0<=i then(if i<n then some i.toNat else none)else if-(n:Int)<=i then some (i+n).toNat else none
def qO {α:Type}(Y:List α)(i:Int):Option α:=(JE Y.length i).bind λj=>Y[j]?
def EW (h:JE n i=some j):seqIndex? i n=some j/\j<n/\-(n:Int)<=i/\i<n:=by
 unfold JE at h;by_cases b:0<=i
 .rw[kd b]at h;by_cases a:i<n
  .rw[kd a]at h;have e:i.toNat=j:=aAn h;exact⟨by rw[seqIndex_of b a,e],by lia,by lia,a⟩
  .rw[kz a]at h;cases h
 .rw[kz b]at h;by_cases a:-(n:Int)<=i
  .rw[kd a]at h;have e:(i+n).toNat=j:=aAn h;exact⟨by rw[seqIndex_neg (by lia) a,e],by lia,a,by lia⟩
  .rw[kz a]at h;cases h
def ET {α:Type}{Y:List α}{i:Int}{v:α}(h:qO Y i=some v):∃j,seqIndex? i Y.length=some j/\Y[j]?=some v/\j<Y.length/\-(Y.length:Int)<=i/\i<Y.length:=by
 unfold qO at h;cases e:JE Y.length i with
 |none=>rw[e]at h;cases h
 |some j=>rw[e]at h;obtain⟨a,b,c,d⟩:=EW e;exact⟨j,a,h,b,c,d⟩
def SN (b:dA):Prop:=∀o i,subscripted b false o i=operate [o,i] (getItem o i)
def IxR (X:Cx)(r:R2):Prop:=
 ∀(c a:dA) (b:N2) (s:bb) (σ:St) (H:Hp) (x y:V) (v u:af) (Q:VK),Inv X b σ H s->RelV x v->RelV y u->r x y H Q->
  subscripted a false v u=operate [v,u] (getItem v u)->ai (be X.prog X.w) X.A (subscriptTail c a v u) (EP X b σ Q) X.xe s
def MtR (X:Cx)(id:String)(r:V->List V->Hp->VK->Prop):Prop:=
 ∀(a:N2) (s:bb) (σ:St) (H:Hp) (x:V) (Y:List V) (v:af) (b:List af) (Q:VK),Inv X a σ H s->RelV x v->l7 Y b->r x Y H Q->
  ai (be X.prog X.w) X.A (call (.builtin id) (v::b)) (EP X a σ Q) X.xe s
section
variable{X:Cx} {a b:dA} {ta tb:TE} {pos:Pos}
def a0w (K:lr):R2:=λx y H Q=>∃p Y i v,x=.ref p/\y=.int i/\K8 K H p Y/\qO Y i=some v/\Q v H
def a2l (K:lr):R2:=λx y H Q=>∃p Y i v,x=.ref p/\y=.int i/\V1 K H p Y/\qO Y i=some v/\Q v H
def SJ:IxR X (a0w X.K):=by
 intro f g c s σ H x y v u Q I C E h o;obtain⟨p,Y,i,z,rfl,rfl,J,L,q⟩:=h;cases C;obtain⟨t,rfl⟩:=E;obtain⟨k,r,l,hz⟩:=I.list J;obtain⟨j,e,N,h3,O,T⟩:=ET L;obtain⟨w,A,m⟩:=r.get N;have U:=r.length;have hn:=vL;have d:EP X c σ Q w s:=⟨z,H,I,m,q⟩;by_cases B:0<=i
 .have n:i.toNat=j:=by rw[seqIndex_of B T]at e;exact aAn e
  exact item_listR l.isList B (by lia) (by rw[n];simpa using A) d o
 .have n:(i+(k.toArray.size:Int)).toNat=j:=by rw[seqIndex_neg (by lia) O]at e;rw[aAp,<-U];exact aAn e
  exact subscriptTail_builtinR (x:=w) l.isList.typeIs slot_list_getitem.lookup
   (wpAny_getItem_list_neg (Q:=λr s'=>r=w/\EP X c σ Q r s') l.isList (by lia) (by rw[aAp]<;>lia) (by lia) (by rw[n];simpa using A) ⟨rfl,d⟩) o
def YW:IxR X (a2l X.K):=by
 intro d e c s σ H x y v u Q I l m h n;obtain⟨p,Y,i,z,rfl,rfl,o,A,q⟩:=h;cases l;obtain⟨t,rfl⟩:=m;obtain⟨B,r,k,O⟩:=I.tuple o;obtain⟨j,C,E,T,U,h5⟩:=ET A;obtain⟨w,J,f⟩:=r.get E;have L:=r.length;have hn:=vL;have g:EP X c σ Q w s:=⟨z,H,I,f,q⟩;exact subscriptTail_builtinR (x:=w) k.typeIs aCE.lookup
  (getItem_tuple (j:=j) (Q:=λr N=>r=w/\EP X c σ Q r N) k (by lia) (by lia) (by rw[aAp,<-L];exact C) (by simpa using J) ⟨rfl,g⟩) n
def BG (its:List af)(n j:Nat)(u:af):aBG (·.setIfInBounds j u) {cls:=.type "list",data:=.seq its.toArray n}={cls:=.type "list",data:=.seq (its.set j u).toArray n}:=by simp[aBG]
def Inv.lst {c:N2}{σ:St}{H:Hp}{s:bb}{p:bc}{Y:List V}(I:Inv X c σ H s)(h:H p=some (.lst Y)):
  ∃(its:List af) (n:Nat),l7 Y its/\s.heap.get? p=some {cls:=.type "list",data:=.seq its.toArray n}/\Y.length<=sizeLine:=by
 obtain⟨z,its,n,r,e⟩:=I.hok p _ h;exact⟨its,n,r,e,z⟩
def Inv.af5 {c:N2}{σ:St}{H:Hp}{s:bb}{p:bc}{Y d:List V}{its its':List af}{n g:Nat}{f:Obj->Obj}(I:Inv X c σ H s)(h:H p=some (.lst Y))
  (l:s.heap.get? p=some {cls:=.type "list",data:=.seq its.toArray n}) (k:f {cls:=.type "list",data:=.seq its.toArray n}={cls:=.type "list",data:=.seq its'.toArray g}) (r:l7 d its') (hz:d.length<=sizeLine) (t:Nat):
  Inv X c σ (upd H p (.lst d)) {s with heap:=s.heap.update p f,toks:=t}:=by
 have e:(s.heap.update p f).get? p=some {cls:=.type "list",data:=.seq its'.toArray g}:=by rw[aAT f l (by rw[k]<;>rfl),k]
 refine I.write (x:=p) (e:=p) (by rw[h];trivial) (.inl rfl) (λb u m q=>(aAw _ _<|aCk m).trans q) ⟨_,e⟩ ?_;exact⟨hz,its',g,r,e⟩
def a0c:V->V->V->Hp->(Hp->Prop)->Prop:=λo i v H Q=>∃p Y k j,o=.ref p/\i=.int k/\H p=some (.lst Y)/\JE Y.length k=some j/\Q (upd H p<|.lst (Y.set j v))
def RM:iy X a0c:=by
 intro c s σ H o i v L N u Q I A B C h;obtain⟨p,Y,k,j,rfl,rfl,m,E,q⟩:=h;cases A;obtain⟨t,rfl⟩:=B;obtain⟨d,n,r,f,J⟩:=I.lst m;obtain⟨e,O,w,x⟩:=EW E;have g:=r.length;have T:=vL;have y:Inv X c σ (upd H p<|.lst (Y.set j v)) {s with heap:=s.heap.update p (aBG (·.setIfInBounds j u))}:=
  I.af5 m f (BG d n j u) (r.set C j) (by rw[List.length_set];exact J) s.toks
 by_cases z:0<=k
 .have l:k.toNat=j:=by rw[seqIndex_of z x]at e;exact aAn e
  exact PySem.W.ki_setAt f z (by lia) (by rw[aAp,<-g];exact x) (by rw[l];exact⟨_,y,q⟩)
 .have l:(k+(d.toArray.size:Int)).toNat=j:=by rw[seqIndex_neg (by lia) w]at e;rw[aAp,<-g];exact aAn e
  exact PySem.W.ki_setBack f (by lia) (by rw[aAp,<-g];exact w) (by lia) (by rw[l];exact⟨_,y,q⟩)
def vX (lo c:Option Int)(n:Nat):(i6 lo c none n).1=((HT.sIx n 0 lo:Nat):Int)/\(i6 lo c none n).2.1=((HT.sIx n n c:Nat):Int)/\(i6 lo c none n).2.2=1:=by
 refine⟨?_,?_,rfl⟩
 .cases lo with
  |none=>simp[i6,HT.sIx]
  |some i=>
   simp only[i6,HT.sIx,Option.getD_none,show(1:Int)>0 by decide,if_true];by_cases h:i<0
   .simp only[h,if_true]<;>lia
   .simp only[h,if_false]<;>lia
 .cases c with
  |none=>simp[i6,HT.sIx]
  |some i=>
   simp only[i6,HT.sIx,Option.getD_none,show(1:Int)>0 by decide,if_true];by_cases h:i<0
   .simp only[h,if_true]<;>lia
   .simp only[h,if_false]<;>lia
def rN (its:List af)(lo c:Option Int):slicePick its.toArray lo c none=((its.drop (HT.sIx its.length 0 lo)).take (HT.sIx its.length its.length c-HT.sIx its.length 0 lo)).toArray:=by obtain⟨d,e,f⟩:=vX lo c its.toArray.size;unfold slicePick;rw[d,e,f];simp only[sliceRange_one,pick_run,aAp]<;>rfl
def wj (K:lr):V->Option Int->Option Int->Hp->VK->Prop:=λx lo c H Q=>∃a Y,x=.ref a/\K8 K H a Y/\∀p,H p=none->Q (.ref p) (upd H p<|.lst (yV Y lo c))
def UK:YU X (wj X.K):=by intro d s σ H x v t u lo c w Q I f g k l h;obtain⟨a,Y,rfl,m,q⟩:=h;cases f;obtain⟨n,r,e,p⟩:=I.list m;have hlen:=r.length;refine⟨"list",_,slot_list_getitem.lookup,e.isList.typeIs,?_⟩;refine wpAny_getItem_list_slice e.isList g k l .none (by simp) ?_ (by rw[aAp]<;>lia);rw[rN,<-hlen];refine⟨.ref s.heap.objs.size,_,I.laid (t':=s.toks) (o:=.lst (yV Y lo c)) (λb y q=>aAc _ q) (aAh _) ?_,rfl,q _ (I.hok.fresh<|aAh _)⟩;exact⟨aAr (lO Y lo c) p,_,0,(r.drop<|HT.sIx Y.length 0 lo).take (HT.sIx Y.length Y.length c-HT.sIx Y.length 0 lo),aAq _ rfl⟩
def rq:V->Bool
 |.non=>true
 |.bl _=>true
 |.int _=>true
 |.str _=>true
 |_=>false
def iG:yZ X (.builtin "len") (λY H Q=>∃p d,Y=[.ref p]/\(K8 X.K H p d\/V1 X.K H p d)/\Q (.int d.length) H):=by
 intro l s σ H Y o Q I r h;obtain⟨p,d,rfl,e,q⟩:=h;obtain⟨u,rfl,m⟩:=vals1 r;cases m;have t:=vL;rcases e with e|e
 .obtain⟨f,g,k,n⟩:=I.list e;have c:=g.length;exact Calls.call_len_list k.isList (by simp only[aAp]<;>lia) ⟨.int d.length,H,I.tok _,⟨s.toks+1,by rw[aAp,c]⟩,q⟩
 .obtain⟨f,g,k,n⟩:=I.tuple e;have c:=g.length;exact len_tuple k (by simp only[aAp]<;>lia) ⟨.int d.length,H,I.tok _,⟨s.toks+1,by rw[aAp,c]⟩,q⟩
def jH:yZ X (.type "list") (λY H Q=>∃p f,Y=[.ref p]/\(K8 X.K H p f\/V1 X.K H p f)/\∀l,H l=none->Q (.ref l) (upd H l (.lst f))):=by
 intro m s σ H Y N Q I r h;obtain⟨p,f,rfl,t,q⟩:=h;obtain⟨u,rfl,L⟩:=vals1 r;cases L;have v:∀(c:List af),l7 f c->f.length<=sizeLine->∀(d:df) (g:Nat),(∀b J,s.heap.get? b=some J->d.get? b=some J)->
   d.get? s.heap.objs.size=some {cls:=.type "list",dict:=none,data:=.seq c.toArray g,slots:=#[]}->EP X m σ Q (.ref s.heap.objs.size) {s with heap:=d}:=λc k x d g y e=>
  ⟨.ref s.heap.objs.size,_,I.laid (t':=s.toks) y (aAh _) (show ObjOk X.prog X.w _ d _ (.lst f)from⟨x,c,g,k,e⟩),rfl,q _ (I.hok.fresh<|aAh _)⟩
 rcases t with t|t
 .obtain⟨c,k,A,x⟩:=I.list t;have z:=k.length;obtain⟨o,B,C,n,E⟩:=A.isList;exact call_list_seq p (.inl rfl) B C E (λd g y e=>v c k x d g y e) (by simp only[aAp]<;>lia)
 .obtain⟨c,k,A,x⟩:=I.tuple t;have z:=k.length;obtain⟨o,B,C,n,E⟩:=A;exact call_list_seq p (.inr rfl) B C E (λd g y e=>v c k x d g y e) (by simp only[aAp]<;>lia)
def fW:yZ X (.type "tuple") (λY H Q=>∃p f,Y=[.ref p]/\((K8 X.K H p f/\∀l,H l=none->Q (.ref l) (upd H l (.tup f)))\/(V1 X.K H p f/\Q (.ref p) H))):=by
 intro c s σ H Y B Q I r h;obtain⟨p,f,rfl,h⟩:=h;obtain⟨u,rfl,y⟩:=vals1 r;cases y;rcases h with⟨k,q⟩|⟨k,q⟩
 .obtain⟨d,m,n,t⟩:=I.list k;have v:=m.length;refine call_tuple_list n.isList (λg z=>?_) (by simp only[aAp]<;>lia);have x:Inv X c σ H {s with heap:=g}:=I.kept (t':=s.toks) z;have A:Inv X c σ (upd H g.objs.size<|.tup f) {s with heap:=g.push {cls:=.type "tuple",data:=.seq d.toArray}}:=
   x.laid (t':=s.toks) (λb o e=>aAc _ e) (aAh _) (show ObjOk X.prog X.w _ _ _ (.tup f)from⟨t,d,m,IsTup.new _ _⟩)
  exact⟨.ref g.objs.size,_,A,rfl,q _ (x.hok.fresh<|aAh _)⟩
 .obtain⟨d,m,n,t⟩:=I.tuple k;exact call_tuple_same n ⟨.ref p,H,I,rfl,q⟩
def tyV (K : lr) (T : String) (x : V) (H : Hp) : Prop := match x with
  | .str _ => T = "str"
  | .int _ => T = "int"
  | .ref p => (T = "list" ∧ ∃ Y, K8 K H p Y) ∨ (T = "tuple" ∧ ∃ o, K.lookup p = some o ∧ o.cls = .type "tuple" ∧ o.dict = none) ∨
      (T = "dict" ∧ ((∃ U, H p = some (.dK U)) ∨ ∃ U, H p = some (.dT U))) ∨ (T = "set" ∧ ∃ S n, H p = some (.set S n))
  | _ => False
def QW (I:Inv X l σ H s)(r:RelV x v)(g:tyV X.K T x H):
  s.TypeIs v T/\∀a,v=.ref a->∃m,s.heap.get? a=some m/\m.dict=none:=by
 cases x with
 |str z=>obtain⟨t,rfl⟩:=r;cases(show T= "str"from g);exact⟨typeIs_str s z t,λ_ e=>nomatch e⟩
 |int i=>obtain⟨t,rfl⟩:=r;cases(show T= "int"from g);exact⟨typeIs_int s i t,λ_ e=>nomatch e⟩
 |ref p=>
  cases r;rcases g with⟨rfl,Y,u⟩|⟨rfl,o,d,w,h⟩|⟨rfl,d⟩|⟨rfl,S,n,d⟩
  .obtain⟨y,_,q,_⟩:=I.list u;refine⟨q.isList.typeIs,λa e=>?_⟩;cases e;obtain⟨o,n,e,c,h,_⟩:=q;exact⟨o,e,h⟩
  .refine⟨⟨o,I.kIn p o d,w⟩,λa e=>?_⟩;cases e;exact⟨o,I.kIn _ o d,h⟩
  .have z:∃o,s.heap.get? p=some o/\o.ExactDict:=by
    rcases d with⟨U,d⟩|⟨U,d⟩
    .obtain⟨_,_,_,_,o,_,_,e,f,_⟩:=I.hok p _ d;exact⟨o,e,f⟩
    .obtain⟨_,_,_,_,o,_,_,e,f,_⟩:=I.hok p _ d;exact⟨o,e,f⟩
   obtain⟨o,e,f⟩:=z;refine⟨⟨o,e,f.1⟩,λa k=>?_⟩;cases k;exact⟨o,e,f.2.1⟩
  .obtain⟨o,_,_,_,e,f,_⟩:=I.hok p _ d;refine⟨⟨o,e,f.1⟩,λa k=>?_⟩;cases k;exact⟨o,e,f.2.1⟩
 |_=>exact aAi g
def a1f (K:lr)(T:String)(r:V->List V->Hp->VK->Prop)(d:TE):TE:=λσ H Q=>d σ H λx c=>tyV K T x c/\r x [] c Q
def tBM (K:lr)(T:String)(r:V->List V->Hp->VK->Prop)(d:TE)(t:TA):TE:=λσ H Q=>d σ H λx c=>tyV K T x c/\t σ c λY e=>r x Y e Q
variable{o e:dA} {es:List dA} {to:TE} {t:TA} {name:Str} {apos ba:Pos} {T id:String} {r:V->List V->Hp->VK->Prop}
def OS (k:PlainAttrs T)(slot:Slot T name id)(d:typeOf (.builtin id)=pure (.type "method_descriptor"))(l:MtR X id r)(m:PE X o to)
  (n:ia o name X.env (ek o X.env)=ek o X.env:=by rfl) (p:(apos.endLine==ba.line)=true:=by rfl):PE X (.Call (.Attribute o name apos) [] [] ba) (a1f X.K T r to):=by
 intro c s σ H Q I h;refine wpAny_Call_method0_late n p (E9 (m c s σ H _ I h) λv q ⟨x,u,f,g,w,y⟩=>?_);obtain⟨z,A⟩:=QW f g w;exact⟨T,id,k,slot,d,z,A,aFJ rfl (PySem.evalArgs_none<|l c q σ u x [] v [] Q f g .nil y)⟩
def XE (l:PlainAttrs T)(slot:Slot T name id)(d:typeOf (.builtin id)=pure (.type "method_descriptor"))(m:MtR X id r)(n:PE X o to)(p:PA X (e::es) t)
  (q:ia o name X.env (ek o X.env)=ek o X.env:=by rfl)
  (u:((d3 ba (a9 (e::es) X.env)).all (λx=>!x.1)&&(backToKw ba (keywordEach [] X.env)).all (λx=>x.1.isSome)
   &&decide ((e::es).length+([]:List Keyword).length+(if([]:List Keyword).isEmpty then 0 else 1)<30))=true:=by rfl)
  (w:(apos.endLine==ba.line)=true:=by rfl) (y:a9 (e::es) X.env=(false,ek e X.env)::a9 es X.env:=by rfl) (z:(d3 ba (a9 es X.env)).any (·.1)=false:=by rfl):
  PE X (.Call (.Attribute o name apos) (e::es) [] ba) (tBM X.K T r to t):=by
 intro c s σ H Q I h;refine wpAny_Call_method_late q u w rfl (E9 (n c s σ H _ I h) λv A ⟨x,B,f,g,C,E⟩=>?_);obtain⟨J,L⟩:=QW f g C;refine⟨T,id,l,slot,d,J,L,?_⟩;have k:=p ba c A σ B _ f E;rw[y]at k⊢;refine aFJ (by show(false||(d3 ba<|a9 es X.env).any (·.1))=false;rw[z]<;>rfl) (Calls.evalArgs_plain ?_);exact E9 k λN O ⟨U,Y,I2,r2,q2⟩=>m c O σ Y x U v N Q I2 g r2 q2
end
def MtM (X:Cx)(id:String)(r:V->List V->Hp->VK->Prop):Prop:=
 ∀(a:N2) (s:bb) (σ:St) (H:Hp) (x:V) (Y:List V) (v:af) (b:List af) (Q:VK),Inv X a σ H s->RelV x v->l7 Y b->r x Y H Q->
  ai (be X.prog X.w) X.A (call (.builtin id) (v::b)) (EP X a σ Q) X.xe s
theorem l7.one:∀{x:V} {a:List af},l7 [x] a->∃u,a=[u]/\RelV x u
 |_,_,.cons r .nil=>⟨_,rfl,r⟩
theorem l7.zero:∀{a:List af},l7 [] a->a=[]
 |_,.nil=>rfl
def l7.dropLast (h:l7 Y a):l7 Y.dropLast a.dropLast:=by
 induction h with
 |nil=>exact .nil
 |cons r t b=>
  cases t with
  |nil=>exact .nil
  |cons q c=>exact .cons r b
def BV {α:Type}(l:List α):l.eraseIdx (l.length-1)=l.dropLast:=by
 induction l with
 |nil=>rfl
 |cons a r c=>
  cases r with
  |nil=>rfl
  |cons b r=>
   have e:(a::b::r).length-1=((b::r).length-1)+1:=by
    have d:(a::b::r).length=r.length+2:=rfl;have f:(b::r).length=r.length+1:=rfl
    lia
   rw[e,aFv,c]
   all_goals rfl
section
variable{X:Cx} {pins:N2} {σ:St} {H:Hp} {s:bb} {l b:bc} {Y ys zs:List V}
def Inv.af6 {its its':List af}{n:Nat}{f:Array af->Array af}{t':Nat}(I:Inv X pins σ H s)(a:H l=some (.lst Y))
  (e:s.heap.get? l=some {cls:=.type "list",data:=.seq its.toArray n}) (c:f its.toArray=its'.toArray) (d:l7 ys its') (hz:ys.length<=sizeLine):
  Inv X pins σ (upd H l (.lst ys)) {s with heap:=s.heap.update l (aBG f),toks:=t'}:=by
 have q:=PySem.IsL.update e f;rw[c]at q;refine I.write (x:=l) (e:=l) (by rw[a];exact trivial) (.inl rfl) (λk u g h=>(aAw s.heap (aBG f)<|aCk g).trans h) ⟨_,q⟩ ?_;exact⟨hz,its',_,d,q⟩
def Inv.ag1 (I:Inv X pins σ H s)(a:l7 ys its)(hz:ys.length<=sizeLine):
  Inv X pins σ (upd H s.heap.objs.size (.lst ys)) {s with heap:=s.heap.push {cls:=.type "list",data:=.seq its.toArray},toks:=t'}:=
 I.laid (λ_ _ q=>aAc _ q) (aAh _) ⟨hz,its,0,a,aAq _ rfl⟩
def Inv.fresh (I:Inv X pins σ H s):H s.heap.objs.size=none:=I.hok.fresh (aAh _)
def Inv.af2 (I:Inv X pins σ H s)(a:H l=some (.lst Y)):Y.length<=sizeLine/\∃(its:List af) (n:Nat),l7 Y its/\Y.length=its.length/\s.heap.get? l=some {cls:=.type "list",data:=.seq its.toArray n}:=by obtain⟨z,its,n,r,e⟩:=I.hok l _ a;exact⟨z,its,n,r,r.length,e⟩
def QR (h:n<=sizeLine):aCZ n=false:=by unfold aCZ;exact decide_eq_false (by lia)
end
section
variable{X:Cx}
def TJ:V->List V->Hp->VK->Prop:=λx a H Q=>∃l Y y,x=.ref l/\a=[y]/\H l=some (.lst Y)/\Y.length<sizeLine/\Q .non (upd H l<|.lst (Y++[y]))
def rW:MtM X "list.append" TJ:=by
 intro b s σ H x k v m Q I d f h;obtain⟨l,Y,y,rfl,rfl,c,o,q⟩:=h;cases d;obtain⟨u,rfl,g⟩:=f.one;obtain⟨z,a,n,r,p,e⟩:=I.af2 c;refine call_meets F.slot_list_append ⟨_,e,rfl⟩ F.entry_list_append (F.args_list_append_2 _ _) (PySem.list_append l a.toArray n u (by rw[aAp];lia)) ⟨e,?_⟩;refine⟨.non,_,I.af6 (its':=a++[u]) c e (by simp) (r.append<|.cons g .nil) ?_,rfl,q⟩;rw[aAD,List.length_singleton]
 lia
def a2k:V->List V->Hp->VK->Prop:=λx a H Q=>∃l Y y,x=.ref l/\a=[]/\H l=some (.lst Y)/\Y[Y.length-1]?=some y/\Q y (upd H l<|.lst Y.dropLast)
def OC:MtM X "list.pop" a2k:=by
 intro d s σ H x w v A Q I g k h;obtain⟨l,Y,y,rfl,rfl,f,m,q⟩:=h;cases g;have b:=k.zero;subst b;obtain⟨z,a,n,r,o,e⟩:=I.af2 f;obtain⟨u,p,t⟩:=r.get m;have c:a.toArray[a.toArray.size-1]?=some u:=by show a.toArray[a.length-1]?=some u;rw[<-aAC,<-o];exact p
 refine call_meets F.slot_list_pop ⟨_,e,rfl⟩ F.entry_list_pop (F.args_list_pop_1 _) (MeetsSeq.list_pop_last l a.toArray n u c (by rw[aAp];lia)) ⟨e,?_⟩;refine⟨y,_,I.af6 (its':=a.dropLast) f e ?_ r.dropLast ?_,t,q⟩
 .show a.toArray.eraseIdxIfInBounds (a.toArray.size-1)=a.dropLast.toArray;rw[aAp,List.eraseIdxIfInBounds_toArray,BV]
 .rw[aGb]
  lia
end
section
variable{prog:cp} {w:cy} {A:cv} {E:B4} {s:bb}
end
section
variable{X:Cx}
end
end L2
namespace Att
open PySem PySem.W PySem.Calls PyProof.Rows
def mE:∀(ns:List Int) (vs:List af),WellAll P h vs (ns.map WData.int)->IntsAre vs ns:=by
 intro ns;induction ns with
 |nil=>intro vs w;rw[aFT]at w;cases w;exact .nil
 |cons n ns c=>
  intro vs w;rw[aAz]at w;cases w with
  |cons a b=>cases a;exact .cons _ _ (c _ b)
def script_of {l:OpenLaw}{n:Nat}(o:l.most=some n){P:Params}{h:df}{args:List WData}{b:List af}
  (k:l.row.toRowW.claim.pre args=true) (p:WellAll P h b args):
  ∃a vs ns,b=[aDz a]/\args=[WData.list (ns.map WData.int)]/\h.get? a=some {cls:=.type "list",data:=.seq vs.toArray}/\IntsAre vs ns/\ns.length<=n:=by
 have g:WShape.hasAll [] args [.list .int]=true:=(pre_splitW k).1;have m:l.pre.holds [] {args:=args}=true:=(pre_splitW k).2;obtain⟨d,r,rfl,s,t⟩:=hasAllW_cons g;obtain rfl:=hasAllW_nil t;obtain⟨Y,rfl,u⟩:=hasW_list s;obtain⟨ns,rfl⟩:=items_int u;have c:ns.length<=n:=by
  unfold OpenLaw.pre at m;have e:(WTm.not<|.lt (.lit (.int (n:Int))) (.len (.arg 0))).holds [] {args:=[.list (ns.map .int)]}=true:=by have e:=(holds_andW m).1;rw[o]at e;exact e
  have f:=condW_of e (w_not<|w_lt w_lit<|w_len_list<|w_arg rfl);rw[aAj]at f;refine aEv λq=>?_;have v:(n:Int)<((ns.length:Nat):Int):=by lia
  first
   |(rw[decide_eq_true v]at f;exact absurd f (by decide))
   |(simp at f;lia)
 cases p with
 |cons w x=>
  cases x;cases w with
  |list y z=>exact⟨_,_,ns,rfl,rfl,y,mE ns _ z,c⟩
def post_true (l:OpenLaw)(args:List WData):l.row.toRowW.claim.post args (.bool true) args=true:=
 postW_of (r:=l.row.toRowW) (X:=(true==true))
  (show WShape.has [] (.bool true) .bool=true by first|rfl|decide|simp[WShape.has,WShape.arms,WShape.armsAll])
  (show(WTm.eq .res (.lit (.bool true))).value [] {args:=args,res:=some (.bool true),after:=args}=some (.bool (true==true))from w_eq_bool (w_res rfl) w_lit) rfl
section
variable{prog:cp} {w:cy} {A:cv} {E:B4} {s:bb} {K:Frag}
def a2g (h:df)(L d:bc):List (bc×Obj):=(aBF h.objs.size).filterMap λa=>if a=L\/a=d then none else(h.get? a).map λo=>(a,o)
end
end Att
namespace L2
open PySem PySem.Spec PyProof.Rows
theorem V6:∀{vs:List af} {ns:List Int},IntsAre vs ns->l7 (ns.map V.int) vs
 |_,_,.nil=>.nil
 |_,_,.cons n t h=>.cons ⟨t,rfl⟩ (V6 h)
def C8 (s:d9):Arguments:=match s with
 |.FunctionDef _ a _ _ _ _ _ _ _ _=>a
 |_=>{posonlyargs:=[],args:=[],vararg:=none,kwonlyargs:=[],kw_defaults:=[],kwarg:=none,defaults:=[]}
def p6 (s:d9):List d9:=match s with
 |.FunctionDef _ _ b _ _ _ _ _ _ _=>b
 |_=>[]
def c6 (s:d9):kb:=match s with
 |.FunctionDef _ _ _ _ _ _ a _ _ _=>a
 |_=>{kind:=.function,names:=[],isGenerator:=false,isCoroutine:=false}
abbrev sZ:RP:=λ_ _ _ _ _ _=>False
abbrev E0:XK:=λ_ _ _=>False
def WM:CF sZ X E0:=λ_ _ _ _ _ _ _ h=>h.elim
structure Fun (K:PySem.W.Frag)(x qual:Str)(st:Stmt)(f:Addr)(fd:FuncData):Prop where
 ex:∃(oc:Value) (od:Option Addr) (kV doc pm:Value) (an:Option Addr) (L ct:Value) (osl:Array (Option Value)),
  fd=PySem.W.fnOf x qual (C8 st) (p6 st) (c6 st) .none kV doc pm an L ct/\K.lookup f=some ⟨oc,od,.func fd,osl⟩/\PySem.W.codeIn K L qual=true
 kp:PySem.W.keepIn K (.ref f)=true
section
variable{P:cp} {w:cy} {K:lr} {mg:cH} {base:df}
def Fun.ok {x qual:Str}{st:d9}{f:bc}{fd:eQ}{N ps:List Str}{k:Nat}{b:Sp}(F:Fun K x qual st f fd)(S:FnScope N ps (c6 st))(len:∀vs H Q E,b vs H Q E->vs.length=ps.length)
  (d:∀(L:af) (A:cv) (a:List Env) (s:bb) (H:Hp) (vs:List V) (Q:VK) (E:XK),Room k (A.deeper (envOfC qual (c6 st) s.heap.objs.size f L))->b vs H Q E->
   ∃t,uK (EA sZ P w K mg base N qual (c6 st) f L A a s H E).nox (p6 st) t/\t {nx:=λ_ H'=>Q .non H',rt:=Q} (start N vs) H):FnOk P w K mg base sZ (k+1) f fd ps b:=by
 obtain⟨o,p,kV,e,r,u,L,v,g,rfl,l,m⟩:=F.ex;refine XS l m S len λA a s H vs Q E n c=>?_;obtain⟨t,h,q⟩:=d L A a s H vs Q E n c;exact⟨t,h.nox,q⟩
def Fun.binds {x qual:Str}{st:d9}{f:bc}{fd:eQ}{ps:List Str}(F:Fun K x qual st f fd)
  (h:∀(kV a b:af) (c:Option bc) (L ct:af) (d:List af),d.length=ps.length->bindArgs (PySem.W.fnOf x qual (C8 st) (p6 st) (c6 st) .none kV a b c L ct) ⟨d,[]⟩=pure (ps.zip d)):Binds K fd ps []:=by
 obtain⟨g,k,kV,a,b,c,L,ct,e,rfl,l,m⟩:=F.ex;exact .all (h kV a b c L ct)
def LF {x qual:Str}{st:d9}{f:bc}{g:af}{h d:Option bc}{b:Array (Option af)}{kV a e L ct:af}(l:K.lookup f=some ⟨g,h,.func (PySem.W.fnOf x qual (C8 st) (p6 st) (c6 st) .none kV a e d L ct),b⟩)
 (c:PySem.W.codeIn K L qual=true) (k:PySem.W.keepIn K (.ref f)=true):Fun K x qual st f (PySem.W.fnOf x qual (C8 st) (p6 st) (c6 st) .none kV a e d L ct):=⟨⟨g,h,kV,a,e,d,L,ct,b,rfl,l,c⟩,k⟩
end
section
variable{X:Cx}
end
def Same (H H':Hp):Prop:=∀b o,H b=some o->H' b=some o
def Same.refl (H:Hp):Same H H:=λ_ _ h=>h
def Same.trans (a:Same H d)(b:Same d e):Same H e:=λc o h=>b c o (a c o h)
def Same.seq {K:lr}{H H':Hp}{a:bc}{Y:List V}(e:Same H H')(h:K8 K H a Y):K8 K H' a Y:=by
 rcases h with(h|⟨o,h⟩)|h
 .exact .inl (.inl (e _ _ h))
 .exact .inl (.inr ⟨o,e _ _ h⟩)
 .exact .inr h
end L2
namespace DL
open PySem PySem.Spec L2
open PyProof.Rows hiding St
section
inductive D where
 |non|bl (b:Bool)|int (i:Int)|str (x:Str)|tup (Y:List D)|lst (Y:List D)|dct
mutual
def n4:D->Int
 |.int i=>hashInt i
 |.tup Y=>reduceHash (aAP (uQ Y))
 |_=>0
def uQ:List D->List Int
 |[]=>[]
 |x::Y=>n4 x::uQ Y
end
def R9:Nat->D->Bool
 |_,.int _=>true
 |n+1,.tup Y=>Y.all (R9 n)
 |_,_=>false
inductive R (α:Type)where
 |ok (a:α)|ex (e:Str)|bad
def R.bind {α β:Type}:R α->(α->R β)->R β
 |.ok a,f=>f a
 |.ex e,_=>.ex e
 |.bad,_=>.bad
@[simp]def R.aa0 {α β:Type}(a:α)(f:α->R β):(R.ok a).bind f=f a:=rfl
section
variable(K:lr) (H:Hp) (O:bc->Prop)
mutual
inductive Rep:V->D->Prop
 |non:Rep .non .non
 |bl {b:Bool}:Rep (.bl b) (.bl b)
 |int {i:Int}:Rep (.int i) (.int i)
 |str {x:Str}:Rep (.str x) (.str x)
 |tup {a:Addr} {vs:List V} {ds:List D} (h:V1 K H a vs) (r:Reps vs ds):Rep (.ref a) (.tup ds)
 |lst {a:Addr} {vs:List V} {ds:List D} (h:K8 K H a vs) (n:¬O a) (r:Reps vs ds):Rep (.ref a) (.lst ds)
 |dct {a:Addr} {o:Obj} (h:H a=some (.ext λh=>h.get? a=some o)) (x:o.ExactDict) (n:¬O a):Rep (.ref a) .dct
inductive Reps:List V->List D->Prop
 |nil:Reps [] []
 |cons {v:V} {d:D} {vs:List V} {ds:List D} (h:Rep v d) (t:Reps vs ds):Reps (v::vs) (d::ds)
end
end
section
variable{K:lr}
def _root_.L2.Same.tup {a:bc}{Y:List V}(e:Same H H')(h:V1 K H a Y):V1 K H' a Y:=by
 rcases h with(h|⟨o,h⟩)|h
 .exact .inl (.inl (e _ _ h))
 .exact .inl (.inr ⟨o,e _ _ h⟩)
 .exact .inr h
mutual
theorem Rep.mono (e:∀a Y,V1 K H a Y->V1 K H' a Y)(b:∀a Y,¬O a->K8 K H a Y->¬f a/\K8 K H' a Y)(c:∀a φ,¬O a->H a=some (.ext φ)->¬f a/\H' a=some (.ext φ)):∀{v:V} {d:D},Rep K H O v d->Rep K H' f v d
 |_,_,.non=>.non
 |_,_,.bl=>.bl
 |_,_,.int=>.int
 |_,_,.str=>.str
 |_,_,.tup h r=>.tup (e _ _ h) (Reps.mono e b c r)
 |_,_,.lst h n r=>.lst (b _ _ n h).2 (b _ _ n h).1 (Reps.mono e b c r)
 |_,_,.dct h x n=>.dct (c _ _ n h).2 x (c _ _ n h).1
theorem Reps.mono (b:∀a Y,V1 K H a Y->V1 K H' a Y)(c:∀a Y,¬O a->K8 K H a Y->¬d a/\K8 K H' a Y)(e:∀a φ,¬O a->H a=some (.ext φ)->¬d a/\H' a=some (.ext φ)):∀{vs:List V} {ds:List D},Reps K H O vs ds->Reps K H' d vs ds
 |_,_,.nil=>.nil
 |_,_,.cons h t=>.cons (Rep.mono b c e h) (Reps.mono b c e t)
end
def Rep.same (e:Same H H')(r:Rep K H O v d):Rep K H' O v d:=r.mono (λ_ _ h=>e.tup h) (λ_ _ n h=>⟨n,e.seq h⟩) λ_ _ n h=>⟨n,e _ _ h⟩
def Reps.same (e:Same H H')(r:Reps K H O v d):Reps K H' O v d:=r.mono (λ_ _ h=>e.tup h) (λ_ _ n h=>⟨n,e.seq h⟩) λ_ _ n h=>⟨n,e _ _ h⟩
def Rep.sub (e:∀a,b a->O a)(r:Rep K H O v d):Rep K H b v d:=r.mono (λ_ _ h=>h) (λ_ _ n h=>⟨λz=>n (e _ z),h⟩) λ_ _ n h=>⟨λz=>n (e _ z),h⟩
def Reps.sub (e:∀a,b a->O a)(r:Reps K H O v d):Reps K H b v d:=r.mono (λ_ _ h=>h) (λ_ _ n h=>⟨λz=>n (e _ z),h⟩) λ_ _ n h=>⟨λz=>n (e _ z),h⟩
theorem Reps.length:∀{vs:List V} {ds:List D},Reps K H O vs ds->vs.length=ds.length
 |_,_,.nil=>rfl
 |_,_,.cons _ t=>by simp[Reps.length t]
theorem Reps.get:∀{vs:List V} {ds:List D} {i:Nat} {d:D},Reps K H O vs ds->ds[i]?=some d->∃v,vs[i]?=some v/\Rep K H O v d
 |_,_,_,_,.nil,e=>by simp at e
 |_,_,0,_,.cons r _,e=>by simp at e;subst e;exact⟨_,rfl,r⟩
 |_,_,i+1,d,.cons _ t,e=>by obtain⟨u,a,b⟩:=Reps.get (i:=i) (d:=d) t (by simpa using e);exact⟨u,by simpa using a,b⟩
theorem Reps.append:∀{vs ws:List V} {ds es:List D},Reps K H O vs ds->Reps K H O ws es->Reps K H O (vs++ws) (ds++es)
 |_,_,_,_,.nil,s=>s
 |_,_,_,_,.cons r t,s=>.cons r (Reps.append t s)
theorem Reps.take:∀{vs:List V} {ds:List D} (n:Nat),Reps K H O vs ds->Reps K H O (vs.take n) (ds.take n)
 |_,_,0,_=>.nil
 |_,_,_+1,.nil=>.nil
 |_,_,n+1,.cons r t=>.cons r (Reps.take n t)
theorem Reps.drop:∀{vs:List V} {ds:List D} (n:Nat),Reps K H O vs ds->Reps K H O (vs.drop n) (ds.drop n)
 |_,_,0,r=>r
 |_,_,_+1,.nil=>.nil
 |_,_,n+1,.cons _ t=>Reps.drop n t
theorem Reps.set (r:Rep K H O v d):∀{vs:List V} {ds:List D} (i:Nat),Reps K H O vs ds->Reps K H O (vs.set i v) (ds.set i d)
 |_,_,_,.nil=>.nil
 |_,_,0,.cons _ t=>.cons r t
 |_,_,i+1,.cons q t=>.cons q (Reps.set r i t)
def Reps.dropLast (r:Reps K H O vs ds):Reps K H O vs.dropLast ds.dropLast:=by rw[aEr,aEr,r.length];exact r.take _
def Reps.snoc (r:Reps K H O vs ds)(h:Rep K H O v d):Reps K H O (vs++[v]) (ds++[d]):=r.append (.cons h .nil)
theorem Reps.ints:∀(ns:List Int),Reps K H O (ns.map V.int) (ns.map D.int)
 |[]=>.nil
 |_::ns=>.cons .int (Reps.ints ns)
theorem Reps.reverse:∀{vs:List V} {ds:List D},Reps K H O vs ds->Reps K H O vs.reverse ds.reverse
 |_,_,.nil=>.nil
 |_,_,.cons r t=>by rw[aAM,aAM];exact(Reps.reverse t).snoc r
end
def Kp (H:Hp)(O:bc->Prop)(H':Hp)(a:bc->Prop):Prop:=∀b o,H b=some o->¬O b->H' b=some o/\¬a b
section
def Kp.refl (H:Hp)(O:bc->Prop):Kp H O H O:=λ_ _ h n=>⟨h,n⟩
def Kp.of (s:Same H H'):Kp H O H' O:=λb o h n=>⟨s b o h,n⟩
def Kp.trans (a:Kp H O H' f)(b:Kp H' f d e):Kp H O d e:=λc o h n=>let⟨g,k⟩:=a c o h n;b c o g k
end
class Tabs where
 tbs:List (Addr×List (Pos×Str))
inductive Sl where
 |no|v (d:D)|o (Y:List D)|x (C:Value)|c (m:List D->R D) (φ:Hp->(Addr->Prop)->Addr->Prop)|d (U:List (D×D))
abbrev Ev:=List Sl
def Mt:HO->Prop
 |.lst _=>True
 |.dK _=>True
 |.dT _=>True
 |.ext _=>True
 |_=>False
def mC (K:lr)(H:Hp)(O:bc->Prop)(es:List jd)(U:List (D×D)):Prop:=
 Paired (λ(e:jd) (p:D×D)=>(∃a,e.key=.ref a/\Rep K H O (.ref a) p.1)/\(∃v,RelV v e.val/\Rep K H O v p.2)/\e.hash=n4 p.1/\R9 7 p.1=true) es U
def LO (a:bc)(o:Obj)(es:List jd):Prop:=(a==ij)=false/\o.ExactDict/\∃b c,o.data=.dict b c/\b.toList=es
def HJ:Sl->Prop
 |.o _=>True
 |.d _=>True
 |_=>False
section
variable(K:lr) (H9 H:Hp) (O:bc->Prop)
def bT (x:Option (Option V)):Sl->Prop
 |.no=>True
 |.v d=>∃v,x=some (some v)/\Rep K H O v d
 |.o Y=>∃a b,x=some (some (V.ref a))/\O a/\H9 a=none/\H a=some (.lst b)/\Reps K H O b Y
 |.x C=>∃a o,x=some (some (V.ref a))/\H a=some (.frz o (.own a))/\o.cls=C
 |.c m φ=>∃a,x=some (some (V.ref a))/\∀e f,Kp H O e f->φ e f a
 |.d U=>∃a o g,x=some (some (V.ref a))/\O a/\H9 a=none/\H a=some (.ext λh=>h.get? a=some o)/\LO a o g/\mC K H O g U/\(U.map (·.1)).Nodup
end
variable [Tabs]
def Tb (H:Hp):Prop:=∀p∈Tabs.tbs,H p.1=some (.tbl p.2)
structure EnvOk (K:PySem.W.Frag)(H9:Hp)(O0:Addr->Prop)(H:Hp)(O:Addr->Prop)(σ:St)(ρ:Ev):Prop where
 len:σ.length=ρ.length
 same:Same H9 H
 sub:∀a,O0 a->O a
 trk:∀a,O a->∃o,H a=some o/\Mt o
 trk0:∀a,O0 a->∃o,H9 a=some o
 tab:Tb H
 slot:∀(i:Nat) (sl:Sl),ρ[i]?=some sl->bT K H9 H O σ[i]? sl
 inj:∀(i j:Nat) (x y:Sl) (a:Addr),ρ[i]?=some x->ρ[j]?=some y->HJ x->HJ y->σ[i]?=some (some (V.ref a))->σ[j]?=some (some (V.ref a))->i=j
section
variable{K:lr} {O0 O O':bc->Prop}
def Tb.same (h:Tb H)(s:Same H H'):Tb H':=λp a=>s _ _ (h p a)
def EnvOk.val (E:EnvOk K a O0 H O σ ρ)(i:Nat)(d:D)(h:ρ[i]?=some (Sl.v d)):∃v,σ[i]?=some (some v)/\Rep K H O v d:=E.slot i _ h
def EnvOk.own (E:EnvOk K b O0 H O σ ρ)(i:Nat)(Y:List D)(h:ρ[i]?=some (Sl.o Y)):∃a vs,σ[i]?=some (some (V.ref a))/\O a/\b a=none/\H a=some (.lst vs)/\Reps K H O vs Y:=E.slot i _ h
def mC.mono (f:∀{v:V} {d:D},Rep K H O v d->Rep K H' O' v d):∀{U:List (D×D)},mC K H O es U->mC K H' O' es U:=λ{_} r=>Paired.af3 r λ_ _ ⟨⟨v,a,b⟩,⟨w,c,e⟩,g⟩=>⟨⟨v,a,f b⟩,⟨w,c,f e⟩,g⟩
def bT.move (h:bT K A H O x sl)(l:∀a Y,V1 K H a Y->V1 K H' a Y)(p:∀a Y,¬O a->K8 K H a Y->¬O' a/\K8 K H' a Y)(B:∀a o u,H a=some (.frz o u)->H' a=some (.frz o u))(q:Kp H O H' O')(z:HJ sl->∀a o,x=some (some (V.ref a))->O a->H a=some o->O' a/\H' a=some o):bT K A H' O' x sl:=by
 have s:∀a φ,¬O a->H a=some (.ext φ)->¬O' a/\H' a=some (.ext φ):=λa φ n h=>⟨(q a _ h n).2,(q a _ h n).1⟩;cases sl with
 |no=>trivial
 |v d=>obtain⟨v,b,e⟩:=h;exact⟨v,b,e.mono l p s⟩
 |o Y=>obtain⟨a,E,b,e,f,t,w⟩:=h;obtain⟨g,y⟩:=z trivial a _ b e t;exact⟨a,E,b,g,f,y,w.mono l p s⟩
 |x C=>obtain⟨a,o,b,e,f⟩:=h;exact⟨a,o,b,B _ _ _ e,f⟩
 |c m φ=>obtain⟨a,b,e⟩:=h;exact⟨a,b,λI J k=>e I J (q.trans k)⟩
 |d U=>obtain⟨a,o,L,b,e,f,t,w,g⟩:=h;obtain⟨y,N⟩:=z trivial a _ b e t;exact⟨a,o,L,b,y,f,N,w,g.1.mono λr=>r.mono l p s,g.2⟩
def bT.grow (h:bT K a H O x sl)(e:Same H H'):bT K a H' O x sl:=
 h.move (λ_ _ q=>e.tup q) (λ_ _ n q=>⟨n,e.seq q⟩) (λ_ _ _ q=>e _ _ q) (Kp.of e) λ_ _ _ _ b c=>⟨b,e _ _ c⟩
def EnvOk.grow (E:EnvOk K b O0 H O σ ρ)(e:Same H H'):EnvOk K b O0 H' O σ ρ where
 len:=E.len
 same:=E.same.trans e
 sub:=E.sub
 trk:=λa h=>let⟨o,q,m⟩:=E.trk a h;⟨o,e a o q,m⟩
 trk0:=E.trk0
 tab:=E.tab.same e
 slot:=λi c h=>(E.slot i c h).grow e
 inj:=E.inj
def EnvOk.fresh (E:EnvOk K a O0 H O σ ρ)(h:H p=none):¬O p:=λz=>by obtain⟨o,q,_⟩:=E.trk p z;rw[h]at q;cases q
def v9 {α:Type}{l:List α}{i j:Nat}{x:α}(h:i≠j):(l.set i x)[j]?=l[j]?:=aCV h
def B0 {α:Type}{l:List α}{i:Nat}{x y:α}(h:(l.set i x)[i]?=some y):y=x/\i<l.length:=by
 have a:i<l.length:=by have:=(aAy.mp h).1;simpa using this
 rw[aBL a]at h;exact⟨(aAn h).symm,a⟩
def EnvOk.put (E:EnvOk K d O0 H O σ ρ){v:Option V}{sl:Sl}(i:Nat)(no:¬HJ sl)(r:bT K d H O (some v) sl):EnvOk K d O0 H O (σ.set i v) (ρ.set i sl)where
 len:=by simpa using E.len
 same:=E.same
 sub:=E.sub
 trk:=E.trk
 trk0:=E.trk0
 tab:=E.tab
 slot:=λj s h=>by
  by_cases f:i=j
  .subst f;obtain⟨e,t⟩:=B0 h;subst e;rw[aBL (by rw[E.len];exact t)];exact r
  .rw[v9 f]at h⊢;exact E.slot j s h
 inj:=λj k x y a b c g m n p=>by
  have ne:∀(l:Nat) (z:Sl),(ρ.set i sl)[l]?=some z->HJ z->i≠l:=λl z q o e=>by subst e;obtain⟨e,_⟩:=B0 q;subst e;exact no o
  have u:=ne j x b g;have w:=ne k y c m;rw[v9 u]at b n;rw[v9 w]at c p;exact E.inj j k x y a b c g m n p
def EnvOk.set (E:EnvOk K a O0 H O σ ρ)(i:Nat)(r:Rep K H O v d):EnvOk K a O0 H O (σ.set i (some v)) (ρ.set i (.v d)):=E.put i (λz=>z) ⟨v,rfl,r⟩
def bT.at_ (h:bT K g H O x sl)(o:HJ sl):∃a u,x=some (some (V.ref a))/\O a/\g a=none/\H a=some u/\Mt u:=by
 cases sl with
 |o Y=>obtain⟨a,k,b,c,e,f,_⟩:=h;exact⟨a,_,b,c,e,f,trivial⟩
 |d U=>obtain⟨a,u,l,b,c,e,f,_⟩:=h;exact⟨a,_,b,c,e,f,trivial⟩
 |_=>exact o.elim
def EnvOk.af4 (E:EnvOk K p O0 H O σ ρ){a:bc}{sl:Sl}(i:Nat)(t:∀(j:Nat) (y:Sl),i≠j->ρ[j]?=some y->HJ y->σ[j]?≠some (some (V.ref a)))(r:bT K p H O (some (some (V.ref a))) sl):
  EnvOk K p O0 H O (σ.set i (some (V.ref a))) (ρ.set i sl)where
 len:=by simpa using E.len
 same:=E.same
 sub:=E.sub
 trk:=E.trk
 trk0:=E.trk0
 tab:=E.tab
 slot:=λj s h=>by
  by_cases c:i=j
  .subst c;obtain⟨e,w⟩:=B0 h;subst e;rw[aBL (by rw[E.len];exact w)];exact r
  .rw[v9 c]at h⊢;exact E.slot j s h
 inj:=λj k x y b m n u v f g=>by
  have at_:∀(l:Nat),i=l->(σ.set i<|some<|V.ref a)[l]?=some (some<|V.ref b)->b=a:=λl e q=>by subst e;obtain⟨e,_⟩:=B0 q;injection e with e;injection e
  by_cases c:i=j
  .by_cases d:i=k
   .exact c.symm.trans d
   .exfalso;have o:=at_ j c f;subst o;rw[v9 d]at n g;exact t k y d n v g
  .by_cases d:i=k
   .exfalso;have o:=at_ k d g;subst o;rw[v9 c]at m f;exact t j x c m u f
   .rw[v9 c]at m f;rw[v9 d]at n g;exact E.inj j k x y b m n u v f g
def j6 (h:H p=none)(o:HO):Same H (upd H p o):=λb u q=>by rw[k7 (t4 q h)];exact q
def EnvOk.ab8 (E:EnvOk K d O0 H O σ ρ)(h:H a=none)(f:K.lookup a=none)(m:Mt u):EnvOk K d O0 (upd H a u) (λb=>O b\/b=a) σ ρ:=by
 have s:=j6 h u;have ne:∀b Y,K8 K H b Y->b≠a:=λb Y q z=>by
  subst z;rcases q with(q|⟨o,q⟩)|⟨o,_,_,q,_⟩
  .rw[h]at q;cases q
  .rw[h]at q;cases q
  .rw[f]at q;cases q
 refine⟨E.len,E.same.trans s,λb z=>.inl (E.sub b z),λb z=>?_,E.trk0,E.tab.same s,λi g e=>?_,E.inj⟩
 .rcases z with z|z
  .obtain⟨o,q,m⟩:=E.trk b z;exact⟨o,s b o q,m⟩
  .subst z;exact⟨_,j3,m⟩
 .exact(E.slot i g e).move (λ_ _ q=>s.tup q) (λb Y n q=>⟨λz=>z.elim n (ne b Y q),s.seq q⟩) (λ_ _ _ q=>s _ _ q) (λb o c n=>⟨s b o c,λz=>z.elim n λe=>by subst e;rw[h]at c;cases c⟩) λ_ b o _ k l=>⟨.inl k,s _ _ l⟩
def YK (h:H a=none)(c:K.lookup a=none)(q:K8 K H b Y):b≠a:=λz=>by
 subst z;rcases q with(q|⟨o,q⟩)|⟨o,_,_,q,_⟩
 .rw[h]at q;cases q
 .rw[h]at q;cases q
 .rw[c]at q;cases q
def Reps.ab8 (h:H a=none)(c:K.lookup a=none)(r:Reps K H O v d):Reps K (upd H a u) (λb=>O b\/b=a) v d:=
 r.mono (λ_ _ q=>(j6 h u).tup q) (λb Y n q=>⟨λz=>z.elim n (YK h c q),(j6 h u).seq q⟩) λb φ n q=>⟨λz=>z.elim n (t4 q h),j6 h u _ _ q⟩
def EnvOk.ae2 (E:EnvOk K d O0 H O σ ρ)(i:Nat)(h:H a=none)(g:K.lookup a=none)(m:Mt u)(r:d a=none->bT K d (upd H a u) (λb=>O b\/b=a) (some (some (V.ref a))) sl):
  EnvOk K d O0 (upd H a u) (λb=>O b\/b=a) (σ.set i (some (.ref a))) (ρ.set i sl):=by
 have k:d a=none:=by
  cases e:d a with
  |none=>rfl
  |some o=>have:=E.same a o e;rw[h]at this;cases this
 refine(E.ab8 h g m).af4 i (λj y _ e o q=>?_) (r k);obtain⟨b,w,c,_,_,f,_⟩:=(E.slot j y e).at_ o;rw[q]at c;injection c with c;injection c with c;injection c with c;subst c;rw[h]at f;cases f
def uV (h:H a=some u)(m:Mt u)(q:V1 K H b Y):V1 K (upd H a u') b Y:=by
 have ne:∀w,H b=some w->¬Mt w->b≠a:=λw e n z=>by subst z;rw[h]at e;cases e;exact n m
 rcases q with(q|⟨o,q⟩)|q
 .exact .inl (.inl (by rw[k7 (ne _ q λz=>z)];exact q))
 .exact .inl (.inr ⟨o,by rw[k7 (ne _ q λz=>z)];exact q⟩)
 .exact .inr q
def wK (c:O a)(n:¬O b)(q:K8 K H b Y):K8 K (upd H a u') b Y:=by
 have ne:b≠a:=λz=>by subst z;exact n c
 rcases q with(q|⟨o,q⟩)|q
 .exact .inl (.inl (by rw[k7 ne];exact q))
 .exact .inl (.inr ⟨o,by rw[k7 ne];exact q⟩)
 .exact .inr q
def Rep.upd (h:H a=some u)(m:Mt u)(c:O a)(r:Rep K H O v d):Rep K (upd H a u') O v d:=r.mono (λ_ _ q=>uV h m q) (λ_ _ n q=>⟨n,wK c n q⟩) λb _ n q=>⟨n,by rw[k7 (λz=>n (by rw[z];exact c))];exact q⟩
def Reps.upd (h:H a=some u)(m:Mt u)(c:O a)(r:Reps K H O v d):Reps K (upd H a u') O v d:=r.mono (λ_ _ q=>uV h m q) (λ_ _ n q=>⟨n,wK c n q⟩) λb _ n q=>⟨n,by rw[k7 (λz=>n (by rw[z];exact c))];exact q⟩
def EnvOk.ae0 {i:Nat}{sl sl':Sl}{a:bc}{u u':HO}(E:EnvOk K g O0 H O σ ρ)(e:ρ[i]?=some sl)(t:HJ sl)(v:σ[i]?=some (some (V.ref a)))(A:H a=some u)(m':Mt u')(ow':HJ sl')
  (r:O a->g a=none->Mt u->bT K g (upd H a u') O (some (some (V.ref a))) sl'):EnvOk K g O0 (upd H a u') O σ (ρ.set i sl')/\Kp H O (upd H a u') O:=by
 obtain⟨b,w,c,B,T,U,m⟩:=(E.slot i sl e).at_ t;rw[v]at c;injection c with c;injection c with c;injection c with c;subst c;rw[A]at U;cases U;have Y:Kp H O (upd H a u') O:=λb o f n=>⟨by rw[k7 (λz=>by subst z;exact n B)];exact f,n⟩;have nf:∀b w,H b=some w->¬Mt w->upd H a u' b=some w:=λb w q n=>by rw[k7 (λz=>by subst z;rw[A]at q;cases q;exact n m)];exact q
 refine⟨⟨by simpa using E.len,λb o q=>?_,E.sub,λb z=>?_,E.trk0,λp hp=>nf _ _ (E.tab p hp) λz=>z,λj s h=>?_,λj k x y b C I o1 o2 J q4=>?_⟩,Y⟩
 .rw[k7 (λz=>by subst z;rw[T]at q;cases q)];exact E.same b o q
 .by_cases f:b=a
  .subst f;exact⟨_,j3,m'⟩
  .obtain⟨o,q,m⟩:=E.trk b z;exact⟨o,by rw[k7 f];exact q,m⟩
 .by_cases L:i=j
  .subst L;obtain⟨e',_⟩:=B0 h;subst e';rw[v];exact r B T m
  .rw[v9 L]at h;refine(E.slot j s h).move (λ_ _ q=>uV A m q) (λ_ _ n q=>⟨n,wK B n q⟩) (λb o w q=>nf _ _ q λz=>z) Y λo b w C I J=>⟨I,?_⟩;rw[k7 (λz=>by subst z;exact L (E.inj i j sl s b e h t o v C))];exact J
 .have d:∀l z,(ρ.set i sl')[l]?=some z->HJ z->∃z',ρ[l]?=some z'/\HJ z':=λl z q o=>by
   by_cases hl:i=l
   .subst hl;exact⟨sl,e,t⟩
   .rw[v9 hl]at q;exact⟨z,q,o⟩
  obtain⟨x',u1,N⟩:=d j x C o1;obtain⟨y',u2,Q⟩:=d k y I o2;exact E.inj j k x' y' b u1 u2 N Q J q4
def EnvOk.af1 {i:Nat}{sl sl':Sl}{a:bc}(E:EnvOk K u O0 H O σ ρ)(e:ρ[i]?=some sl)(v:HJ sl)(l:σ[i]?=some (some (V.ref a)))(no:¬HJ sl')(r:bT K u H (λb=>O b/\b≠a) (some (some (V.ref a))) sl'):
  EnvOk K u O0 H (λb=>O b/\b≠a) σ (ρ.set i sl'):=by
 obtain⟨b,w,c,Q,C,T,m⟩:=(E.slot i sl e).at_ v;rw[l]at c;injection c with c;injection c with c;injection c with c;subst c;have sub:∀b,(O b/\b≠a)->O b:=λb z=>z.1;refine⟨by simpa using E.len,E.same,λb z=>⟨E.sub b z,λq=>?_⟩,λb z=>E.trk b z.1,E.trk0,E.tab,λj s h=>?_,λj k x y b d f A B p I=>?_⟩
 .subst q;obtain⟨o,q⟩:=E.trk0 b z;rw[C]at q;cases q
 .by_cases t:i=j
  .subst t;obtain⟨g,_⟩:=B0 h;subst g;rw[l];exact r
  .rw[v9 t]at h;refine(E.slot j s h).move (λ_ _ q=>q) (λ_ _ n q=>⟨λz=>n z.1,q⟩) (λ_ _ _ q=>q) (λb o J n=>⟨J,λz=>n z.1⟩) λo b w d f p=>⟨⟨f,λz=>?_⟩,p⟩;subst z;exact t (E.inj i j sl s b e h v o l d)
 .have L:i≠j:=λz=>by subst z;obtain⟨g,_⟩:=B0 d;subst g;exact no A
  have N:i≠k:=λz=>by subst z;obtain⟨g,_⟩:=B0 f;subst g;exact no B
  rw[v9 L]at d;rw[v9 N]at f;exact E.inj j k x y b d f A B p I
end
def XW (X:Cx)(e:Str)(H:Hp):Prop:=False
def RC (X:Cx)(H:Hp)(O:bc->Prop)(r:R D)(Q:VK):Prop:=match r with
 |.ok d=>∀v a,Same H a->Rep X.K a O v d->Q v a
 |.ex e=>∀a,Same H a->XW X e a
 |.bad=>False
def B5 (K:lr)(H:Hp)(O:bc->Prop)(v:V)(d:D):Prop:=Rep K H O v d\/∃a b c,v=.ref a/\d=.lst c/\K8 K H a b/\Reps K H O b c
def LW (X:Cx)(H:Hp)(O:bc->Prop)(r:R D)(Q:VK):Prop:=match r with
 |.ok d=>∀v a,Same H a->B5 X.K a O v d->Q v a
 |.ex e=>∀a,Same H a->XW X e a
 |.bad=>False
def vU (X:Cx)(H:Hp)(r:R Bool)(Q:Bool->Hp->Prop):Prop:=match r with
 |.ok b=>∀a,Same H a->Q b a
 |.ex e=>∀a,Same H a->XW X e a
 |.bad=>False
def KB (X:Cx)(H:Hp)(O:bc->Prop)(r:R (List D))(Q:List V->Hp->Prop):Prop:=match r with
 |.ok c=>∀b a,Same H a->Reps X.K a O b c->Q b a
 |.ex e=>∀a,Same H a->XW X e a
 |.bad=>False
def NC (X:Cx)(H:Hp)(O:bc->Prop)(r:R (List D))(Q:List V->Hp->Prop):Prop:=match r with
 |.ok c=>∀b a,Same H a->Paired (B5 X.K a O) b c->Q b a
 |.ex e=>∀a,Same H a->XW X e a
 |.bad=>False
def tD (X:Cx)(f:Ev->R D):TE:=λσ H Q=>∃a b O ρ,EnvOk X.K a b H O σ ρ/\RC X H O (f ρ) Q
def tDB (X:Cx)(f:Ev->R D):TE:=λσ H Q=>∃a b O ρ,EnvOk X.K a b H O σ ρ/\LW X H O (f ρ) Q
def tDT (X:Cx)(f:Ev->R Bool):TT:=λσ H Q=>∃a b O ρ,EnvOk X.K a b H O σ ρ/\vU X H (f ρ) Q
def tDs (X:Cx)(f:Ev->R (List D)):TA:=λσ H Q=>∃a b O ρ,EnvOk X.K a b H O σ ρ/\KB X H O (f ρ) Q
def a1h (X:Cx)(f:Ev->R (List D)):TA:=λσ H Q=>∃a b O ρ,EnvOk X.K a b H O σ ρ/\NC X H O (f ρ) Q
def PD (X:Cx)(e:dA)(f:Ev->R D):Prop:=PE X e (tD X f)
def PB (X:Cx)(e:dA)(f:Ev->R D):Prop:=PE X e (tDB X f)
def AZ (X:Cx)(e:dA)(f:Ev->R Bool):Prop:=PT X e (tDT X f)
def HN (X:Cx)(es:List dA)(f:Ev->R (List D)):Prop:=PA X es (tDs X f)
def aw (X:Cx)(es:List dA)(f:Ev->R (List D)):Prop:=PA X es (a1h X f)
def RO {r:Hp->(bc->Prop)->Ev->VK->Prop}(h:PE X e t)(i:∀σ H Q a b O ρ,EnvOk X.K a b H O σ ρ->r H O ρ Q->t σ H Q):PE X e λσ H Q=>∃a b O ρ,EnvOk X.K a b H O σ ρ/\r H O ρ Q:=λc s σ H Q I q=>h c s σ H Q I (let⟨a,b,O,ρ,E,q⟩:=q;i σ H Q a b O ρ E q)
def ptI {r:Hp->(bc->Prop)->Ev->(Bool->Hp->Prop)->Prop}(h:PT X e t)(i:∀σ H Q a b O ρ,EnvOk X.K a b H O σ ρ->r H O ρ Q->t σ H Q):PT X e λσ H Q=>∃a b O ρ,EnvOk X.K a b H O σ ρ/\r H O ρ Q:=λc s σ H Q I q=>h c s σ H Q I (let⟨a,b,O,ρ,E,q⟩:=q;i σ H Q a b O ρ E q)
def paI {r:Hp->(bc->Prop)->Ev->(List V->Hp->Prop)->Prop}(h:PA X es t)(i:∀σ H Q a b O ρ,EnvOk X.K a b H O σ ρ->r H O ρ Q->t σ H Q):PA X es λσ H Q=>∃a b O ρ,EnvOk X.K a b H O σ ρ/\r H O ρ Q:=λd c s σ H Q I q=>h d c s σ H Q I (let⟨a,b,O,ρ,E,q⟩:=q;i σ H Q a b O ρ E q)
def uI {β:Type}{r:Hp->(bc->Prop)->Ev->β->Prop}{G:List (bc×Obj)->bb->St->Hp->β->Prop}(h:∀a s σ H Q,Inv X a σ H s->∀b c O ρ,EnvOk X.K b c H O σ ρ->r H O ρ Q->G a s σ H Q)(a s σ H Q)(I:Inv X a σ H s)(q:∃b c O ρ,EnvOk X.K b c H O σ ρ/\r H O ρ Q):G a s σ H Q:=let⟨b,c,O,ρ,E,q⟩:=q;h a s σ H Q I b c O ρ E q
def PD.pb (h:PD X e f):PB X e f:=RO h λσ H Q a b O ρ E q=>⟨a,b,O,ρ,E,by
 unfold RC LW at*
 cases e:f ρ with
 |ok d=>rw[e]at q;exactλv c s r=>q v c s (.inl r)
 |ex x=>rw[e]at q;exact q
 |bad=>rw[e]at q;exact q⟩
def RC.seq {O:bc->Prop}(h:RC X H O (r.bind g) Q):
  RC X H O r λv b=>∃d,r=.ok d/\Same H b/\Rep X.K b O v d/\RC X b O (g d) Q:=by
 cases r with
 |ok d=>
  intro v b c l;refine⟨d,rfl,c,l,?_⟩;have a:RC X H O (g d) Q:=h;cases e:g d with
  |ok n=>rw[e]at a;exactλw f k m=>a w f (c.trans k) m
  |ex x=>rw[e]at a;exactλf k=>a f (c.trans k)
  |bad=>rw[e]at a;exact a
 |ex x=>exact h
 |bad=>exact h
def LW.seq {O:bc->Prop}(h:RC X H O (r.bind g) Q):
  LW X H O r λv b=>∃d,r=.ok d/\Same H b/\B5 X.K b O v d/\RC X b O (g d) Q:=by
 cases r with
 |ok d=>
  intro v b c l;refine⟨d,rfl,c,l,?_⟩;have a:RC X H O (g d) Q:=h;cases e:g d with
  |ok n=>rw[e]at a;exactλw f k m=>a w f (c.trans k) m
  |ex x=>rw[e]at a;exactλf k=>a f (c.trans k)
  |bad=>rw[e]at a;exact a
 |ex x=>exact h
 |bad=>exact h
def RC.grow {O:bc->Prop}(h:RC X H O r Q)(c:Same H e):RC X e O r Q:=by
 cases r with
 |ok d=>exactλw a b f=>h w a (c.trans b) f
 |ex x=>exactλa b=>h a (c.trans b)
 |bad=>exact h
end
section
variable [Tabs]
section
variable{X:Cx}
def B5.same (e:Same H H')(r:B5 X.K H O v d):B5 X.K H' O v d:=by
 rcases r with r|⟨a,b,c,f,g,h,k⟩
 .exact .inl (r.same e)
 .exact .inr ⟨a,b,c,f,g,e.seq h,k.same e⟩
def B5.aa5 {K:lr}{ds:List D}(r:B5 K H O v (.lst ds)):∃a vs,v=.ref a/\K8 K H a vs/\Reps K H O vs ds:=by
 rcases r with r|⟨a,vs,f,c,b,d,e⟩
 .cases r with|lst h n r=>exact⟨_,_,rfl,h,r⟩
 .injection b with b;subst b;exact⟨a,vs,c,d,e⟩
def B5.af9 {K:lr}(r:B5 K H O v .dct):∃a o,v=.ref a/\H a=some (.ext λh=>h.get? a=some o)/\o.ExactDict:=by
 rcases r with r|⟨a,c,d,e,b,f,g⟩
 .cases r with|dct h x n=>exact⟨_,_,rfl,h,x⟩
 .cases b
def B5.tupI {K:lr}{ds:List D}(r:B5 K H O v (.tup ds)):∃a vs,v=.ref a/\V1 K H a vs/\Reps K H O vs ds:=by
 rcases r with r|⟨a,vs,c,d,b,e,f⟩
 .cases r with|tup h r=>exact⟨_,_,rfl,h,r⟩
 .cases b
def B5.aa6 {K:lr}{i:Int}(r:B5 K H O v (.int i)):v=.int i:=by
 rcases r with r|⟨a,c,d,e,b,f,g⟩
 .cases r;rfl
 .cases b
def B5.blI {K:lr}{i:Bool}(r:B5 K H O v (.bl i)):v=.bl i:=by
 rcases r with r|⟨a,c,d,e,b,f,g⟩
 .cases r;rfl
 .cases b
def B5.ac1 {K:lr}(r:B5 K H O v .non):v=.non:=by
 rcases r with r|⟨a,c,d,e,b,f,g⟩
 .cases r;rfl
 .cases b
def B5.ac4 {K:lr}{i:Str}(r:B5 K H O v (.str i)):v=.str i:=by
 rcases r with r|⟨a,c,d,e,b,f,g⟩
 .cases r;rfl
 .cases b
end
def T1 (i:Nat)(ρ:Ev):R D:=match ρ[i]? with
 |some (.v d)=>.ok d
 |_=>.bad
def rO (i:Nat)(ρ:Ev):R D:=match ρ[i]? with
 |some (.v d)=>.ok d
 |some (.o Y)=>.ok (.lst Y)
 |_=>.bad
section
def c7 (i:Nat)(a:X.N[i]?=some x:=by rfl)(b:xU X.env.scope x:=by first|exact aCy rfl|exact aBP (aCy rfl)|exact aBP (aBP rfl))(f:(x==lM)=false:=by decide)(g:(x==ma)=false:=by decide):PD X (.Name x h) (T1 i):=RO (L8 a b f g) λσ H Q p r O ρ E q=>by
 unfold T1 at q;cases e:ρ[i]? with
 |none=>rw[e]at q;exact q.elim
 |some k=>
  rw[e]at q;cases k with
  |no=>exact q.elim
  |x C=>exact q.elim
  |c m φ=>exact q.elim
  |d U=>exact q.elim
  |o Y=>exact q.elim
  |v d=>obtain⟨v,l,n⟩:=E.val i d e;exact⟨v,l,q v H (Same.refl H) n⟩
def b8 (i:Nat)(g:X.N[i]?=some x:=by rfl)(h:xU X.env.scope x:=by first|exact aCy rfl|exact aBP (aCy rfl)|exact aBP (aBP rfl))(k:(x==lM)=false:=by decide)(l:(x==ma)=false:=by decide):PB X (.Name x n) (rO i):=RO (L8 g h k l) λσ H Q u w O ρ E q=>by
 unfold rO at q;cases e:ρ[i]? with
 |none=>rw[e]at q;exact q.elim
 |some p=>
  rw[e]at q;cases p with
  |no=>exact q.elim
  |x C=>exact q.elim
  |c m φ=>exact q.elim
  |d U=>exact q.elim
  |o Y=>obtain⟨a,r,b,f,y,s,t⟩:=E.own i Y e;exact⟨_,b,q _ H (Same.refl H) (.inr ⟨a,r,Y,rfl,rfl,K8.of s,t⟩)⟩
  |v d=>obtain⟨v,b,f⟩:=E.val i d e;exact⟨v,b,q v H (Same.refl H) (.inl f)⟩
def WF (d:D)(_:Ev):R D:=.ok d
def wN (h:PE X e (tC v))(r:∀H O,Rep X.K H O v d):PD X e (WF d):=RO h λσ H Q a b O ρ E q=>q v H (Same.refl H) (r H O)
def d6 {j a}:PD X (.Constant (.int i) j a) (WF (.int i)):=wN ZS λ_ _=>.int
def zI {j a}:PD X (.Constant (.bool i) j a) (WF (.bl i)):=wN mz λ_ _=>.bl
def CM {j a}:PD X (.Constant .none j a) (WF .non):=wN ZV λ_ _=>.non
def mF (X:Cx)(f:af->af->Sem af)(g:D->D->R D):Prop:=
 ∀(H:Hp) (O:bc->Prop) (x y:V) (a b:D) (Q:VK),(∀p,H p=none->¬O p)->B5 X.K H O x a->B5 X.K H O y b->RC X H O (g a b) Q->∃r,mH X f r/\r x y H Q
def a0y (X:Cx)(O:bc->Prop)(g:D->D->R D)(Q:VK):V->V->Hp->Prop:=λx y H=>∃a b,(∀p,H p=none->¬O p)/\B5 X.K H O x a/\B5 X.K H O y b/\RC X H O (g a b) Q
def mW {c O:bc->Prop}(E:EnvOk X.K l c H O σ ρ)(q:RC X H O ((m ρ).bind λx=>(n ρ).bind λy=>g x y) Q):
  tDB X m σ H λx f=>tDB X n σ f λy h=>a0y X O g Q x y h:=by
 refine⟨l,c,O,ρ,E,?_⟩;have a:=LW.seq q;revert a;cases I:m ρ with
 |ok t=>
  intro a x f o u;obtain⟨d,e,_,r,v⟩:=a x f o u;cases e;have s:=E.grow o;refine⟨l,c,O,ρ,s,?_⟩;have b:=LW.seq v;revert b;cases J:n ρ with
  |ok w=>intro b y h k z;obtain⟨L,e,_,A,B⟩:=b y h k z;cases e;exact⟨t,w,λp C=>(s.grow k).fresh C,r.same k,A,B⟩
  |ex x=>intro b;exact b
  |bad=>intro b;exact b
 |ex x=>intro a;exact a
 |bad=>intro a;exact a
def c5 (e:mF X (ff op) g)(f:PB X a k)(l:PB X b m):PD X (.BinOp a op b n) (λρ=>(k ρ).bind λx=>(m ρ).bind λy=>g x y):=by refine uI λc s σ H Q I T U O ρ E q=>?_;refine wpAny_BinOp (OE f l I (mW E q) λv u o x y d p t w h=>?_);obtain⟨z,A,B,C,J,q⟩:=h;obtain⟨r,L,N⟩:=e d O x y z A Q B C J q;exact L c o σ d x y v u Q p t w N
def vN (e:mF X (eY op) g)(f:PB X a k)(l:PB X b m)(n:jk op b=false:=by first|exact KS _|with_unfolding_all rfl):
  PD X (.Compare a [op] [b] o) (λρ=>(k ρ).bind λx=>(m ρ).bind λy=>g x y):=by
 refine uI λc s σ H Q I U Y O ρ E q=>?_;refine wpAny_Compare1 (OE f l I (mW E q) λv u p x y d t w z h=>?_) n;obtain⟨A,B,C,J,L,q⟩:=h;obtain⟨r,N,T⟩:=e d O x y A B Q C J L q;exact N c p σ d x y v u Q t w z T
def qN:D->R Bool
 |.bl b=>.ok b
 |_=>.bad
def wI {O:bc->Prop}{Q:Bool->Hp->Prop}(h:vU X H (r.bind qN) Q):RC X H O r λv a=>∃c,v=.bl c/\Q c a:=by
 cases r with
 |ok d=>
  cases d with
  |bl b=>intro v a e f;cases f;exact⟨b,rfl,h a e⟩
  |_=>exact(show False from h).elim
 |ex x=>exact h
 |bad=>exact h
def k8 (l:mF X (eY op) g)(m:PB X a n)(o:PB X b p)(t:jk op b=false:=by first|exact KS _|with_unfolding_all rfl):
  AZ X (.Compare a [op] [b] w) (λρ=>((n ρ).bind λx=>(p ρ).bind λy=>g x y).bind qN):=by
 refine uI λd s σ H Q I H9 O0 O ρ E q=>?_;have A:=wI (O:=O) q;refine wpAny_isTrue_Compare1 (OE m o I (mW E A) λv u B x y f C J L h=>?_) t;obtain⟨N,T,U,Y,r2,q⟩:=h;obtain⟨r,hr,hq⟩:=l f O x y N T _ U Y r2 q;refine E9 (hr d B σ f x y v u _ C J L hq) λc s3 z9=>?_;obtain⟨z,H3,I3,r3,k,e,q3⟩:=z9;subst e;cases r3;exact aBH ⟨H3,I3,q3⟩
def bX (h:PD X e f)(a:∀whole,isTrue e X.env whole=(do let v<-whole;standAt e.pos;gn [v] (truthy v)):=by intro _;rfl):AZ X e (λρ=>(f ρ).bind qN):=by refine ptI (ZL h a) λσ H Q b c O ρ E q=>⟨b,c,O,ρ,E,wI q⟩
def vU.seq {Q:Bool->Hp->Prop}(h:vU X H (r.bind g) Q):vU X H r λb c=>r=.ok b/\Same H c/\vU X c (g b) Q:=by
 cases r with
 |ok d=>
  intro c f;refine⟨rfl,f,?_⟩;have a:vU X H (g d) Q:=h;cases e:g d with
  |ok m=>rw[e]at a;exactλk l=>a k (f.trans l)
  |ex x=>rw[e]at a;exactλk l=>a k (f.trans l)
  |bad=>rw[e]at a;exact a
 |ex x=>exact h
 |bad=>exact h
def vU.ag3 {O:bc->Prop}(h:RC X H O (r.bind g) Q):vU X H r λb a=>r=.ok b/\Same H a/\RC X a O (g b) Q:=by
 cases r with
 |ok d=>intro a c;refine⟨rfl,c,?_⟩;have e:RC X H O (g d) Q:=h;exact e.grow c
 |ex x=>exact h
 |bad=>exact h
def vU.mono {Q c:Bool->Hp->Prop}(h:vU X H r Q)(i:∀b a,Q b a->c b a):vU X H r c:=by
 cases r with
 |ok d=>exactλa e=>i _ _ (h a e)
 |ex x=>exact h
 |bad=>exact h
def RC.mono {O:bc->Prop}(h:RC X H O r Q)(i:∀b a,Q b a->c b a):RC X H O r c:=by
 cases r with
 |ok d=>exactλv a e f=>i _ _ (h v a e f)
 |ex x=>exact h
 |bad=>exact h
def AU (X:Cx)(e:dA)(f:Ev->R Bool):Prop:=PW X e (tDT X f)
def VH (f g:Ev->R Bool):Ev->R Bool:=λρ=>(f ρ).bind λb=>if b=true then g ρ else .ok false
def orB (f g:Ev->R Bool):Ev->R Bool:=λρ=>(f ρ).bind λb=>if b=true then .ok true else g ρ
def yq (f:Ev->R Bool):Ev->R Bool:=λρ=>(f ρ).bind λb=>.ok (!b)
variable{rest:List dA}
def cW (b:AZ X a f):AU X (.BoolOp .And [a] c) f:=RY b
def xB (b:AZ X a f):AU X (.BoolOp .Or [a] c) f:=YV b
def QZ (h:PW X e t)(i:∀σ H Q,t' σ H Q->t σ H Q):PW X e t':=λb a s σ H Q I q=>h b a s σ H Q I (i σ H Q q)
def jK (k:AZ X a f)(l:AU X (.BoolOp .And (b::rest) c) g):AU X (.BoolOp .And (a::b::rest) c) (VH f g):=
 QZ (YD k l) λσ H Q ⟨d,e,O,ρ,E,q⟩=>⟨d,e,O,ρ,E,vU.mono (vU.seq q)<|by
  rintro b m ⟨_,n,h⟩;cases b with
  |true=>rw[kd rfl];exact⟨d,e,O,ρ,E.grow n,h⟩
  |false=>rw[kz aAQ];exact h m (Same.refl _)⟩
def oU (k:AZ X a f)(l:AU X (.BoolOp .Or (b::rest) c) g):AU X (.BoolOp .Or (a::b::rest) c) (orB f g):=
 QZ (pk k l) λσ H Q ⟨d,e,O,ρ,E,q⟩=>⟨d,e,O,ρ,E,vU.mono (vU.seq q)<|by
  rintro b m ⟨_,n,h⟩;cases b with
  |false=>rw[kz aAQ];exact⟨d,e,O,ρ,E.grow n,h⟩
  |true=>rw[kd rfl];exact h m (Same.refl _)⟩
def AU.pt (h:AU X e f):AZ X e f:=PW.pt h
def vI (c:AZ X a f):AZ X (.UnaryOp .Not a d) (yq f):=
 ptI (jj c) λσ H Q e g O ρ E q=>⟨e,g,O,ρ,E,vU.mono (vU.seq q)<|by rintro b h ⟨_,l,k⟩;exact k h (Same.refl _)⟩
def xw (f:Ev->R D)(g:Ev->R D):Ev->R D:=λρ=>((f ρ).bind qN).bind λb=>if b=true then g ρ else .ok (.bl false)
def gx {op}{f:Ev->R D}(h:PD X a f):PD X (.BoolOp op [a] b) f:=ay h
def gy {f g:Ev->R D}(m:PD X a f)(n:PD X (.BoolOp .And (b::rest) d) g):PD X (.BoolOp .And (a::b::rest) d) (xw f g):=
 RO (ZN m n) λσ H Q h k O ρ E q=>⟨h,k,O,ρ,E,RC.mono (wI<|vU.ag3 q) λv o ⟨c,e,_,p,l⟩=>⟨c,e,by
  cases c with
  |true=>rw[kd rfl];exact⟨h,k,O,ρ,E.grow p,l⟩
  |false=>rw[kz aAQ];exact l _ o (Same.refl _) .bl⟩⟩
def a0a:D->R D
 |.int i=>.ok (.int (-i))
 |_=>.bad
def pB {f:Ev->R D}(c:PD X a f):PD X (.UnaryOp .USub a e) (λρ=>(f ρ).bind a0a):=
 RO (tx YC c) λσ H Q g h O ρ E q=>⟨g,h,O,ρ,E,by
  refine RC.mono (RC.seq q) λv k l=>?_;obtain⟨d,_,n,m,b⟩:=l;cases d with
  |int i=>cases m;exact⟨i,rfl,b _ k (Same.refl _) .int⟩
  |_=>exact(show False from b).elim⟩
def KB.seq {H:Hp}{O:bc->Prop}{r:R (List D)}{g:List D->R D}{Q:VK}(h:RC X H O (r.bind g) Q):
  KB X H O r λv a=>∃d,r=.ok d/\Same H a/\Reps X.K a O v d/\RC X a O (g d) Q:=by
 cases r with
 |ok d=>exactλv a b c=>⟨d,rfl,b,c,(show RC X H O (g d) Q from h).grow b⟩
 |ex x=>exact h
 |bad=>exact h
def KB.mono {O:bc->Prop}{Q c:List V->Hp->Prop}(h:KB X H O r Q)(i:∀b a,Q b a->c b a):KB X H O r c:=by
 cases r with
 |ok d=>exactλv a e f=>i _ _ (h v a e f)
 |ex x=>exact h
 |bad=>exact h
def NC.seq {H:Hp}{O:bc->Prop}{r:R (List D)}{g:List D->R D}{Q:VK}(h:RC X H O (r.bind g) Q):
  NC X H O r λv a=>∃d,r=.ok d/\Same H a/\Paired (B5 X.K a O) v d/\RC X a O (g d) Q:=by
 cases r with
 |ok d=>exactλv a b c=>⟨d,rfl,b,c,(show RC X H O (g d) Q from h).grow b⟩
 |ex x=>exact h
 |bad=>exact h
def LW.mono {O:bc->Prop}(h:LW X H O r Q)(i:∀b a,Q b a->c b a):LW X H O r c:=by
 cases r with
 |ok d=>exactλv a e f=>i _ _ (h v a e f)
 |ex x=>exact h
 |bad=>exact h
def o6 (f:Ev->R D)(g:Ev->R (List D)):Ev->R (List D):=λρ=>(f ρ).bind λd=>(g ρ).bind λa=>.ok (d::a)
def R0:Ev->R (List D):=λ_=>.ok []
def p5:HN X [] R0:=paI Z7 λσ H Q a b O ρ E q=>q [] H (Same.refl _) .nil
def i7 {f:Ev->R D}{g:Ev->R (List D)}(n:PD X e f)(o:HN X es g)(p:a9 (e::es) X.env=(false,ek e X.env)::a9 es X.env:=by rfl):HN X (e::es) (o6 f g):=
 paI (G2 n o p) λσ H Q l m O ρ E q=>⟨l,m,O,ρ,E,by
  unfold o6 at q;cases b:f ρ with
  |ok d=>
   rw[b]at q;intro v u c r;refine⟨l,m,O,ρ,E.grow c,?_⟩;cases h:g ρ with
   |ok w=>rw[h]at q;exactλs k a t=>q (v::s) k (c.trans a) (.cons (r.same a) t)
   |ex x=>rw[h]at q;exactλk a=>q k (c.trans a)
   |bad=>rw[h]at q;exact q
  |ex x=>rw[b]at q;exact q
  |bad=>rw[b]at q;exact q⟩
def x6:aw X [] R0:=paI Z7 λσ H Q a b O ρ E q=>q [] H (Same.refl _) .nil
def m9 {f:Ev->R D}{g:Ev->R (List D)}(n:PB X e f)(o:aw X es g)(p:a9 (e::es) X.env=(false,ek e X.env)::a9 es X.env:=by rfl):aw X (e::es) (o6 f g):=
 paI (G2 n o p) λσ H Q l m O ρ E q=>⟨l,m,O,ρ,E,by
  unfold o6 at q;cases b:f ρ with
  |ok d=>
   rw[b]at q;intro v u c r;refine⟨l,m,O,ρ,E.grow c,?_⟩;cases h:g ρ with
   |ok w=>rw[h]at q;exactλs k a t=>q (v::s) k (c.trans a) (.cons (r.same a) t)
   |ex x=>rw[h]at q;exactλk a=>q k (c.trans a)
   |bad=>rw[h]at q;exact q
  |ex x=>rw[b]at q;exact q
  |bad=>rw[b]at q;exact q⟩
def bK (ds:List D):R D:=if ds.length<=sizeLine then .ok (.tup ds)else .bad
def uR (ds:List D):R D:=if ds.length<=sizeLine then .ok (.lst ds)else .bad
def wC {f:Ev->R (List D)}{d}(h:HN X es f):PD X (.Tuple es d e) (λρ=>(f ρ).bind bK):=
 RO (ZG h) λσ H Q g k O ρ E q=>⟨g,k,O,ρ,E,KB.mono (KB.seq q)<|by
  rintro m n ⟨o,_,r,b,a⟩;unfold bK at a;split at a
  .rename_i l;exact⟨by rw[b.length];exact l,λp c=>a (.ref p) _ (j6 c _) (.tup (V1.of j3) (b.same<|j6 c _))⟩
  .exact a.elim⟩
def nI {f:Ev->R (List D)}(h:HN X es f):PD X (.List es d) (λρ=>(f ρ).bind uR):=
 RO (PQ h) λσ H Q e g O ρ E q=>⟨e,g,O,ρ,E,KB.mono (KB.seq q)<|by
  rintro m n ⟨o,_,k,c,a⟩;unfold uR at a;split at a
  .rename_i l;exact⟨by rw[c.length];exact l,λp b=>a (.ref p) _ (j6 b _) (.lst (K8.of j3) ((E.grow k).fresh b) (c.same<|j6 b _))⟩
  .exact a.elim⟩
def aU (X:Cx)(f:af)(g:List D->R D):Prop:=
 ∀(H:Hp) (O:bc->Prop) (a:List V) (b:List D) (Q:VK),(∀p,H p=none->¬O p)->Paired (B5 X.K H O) a b->RC X H O (g b) Q->∃r,yZ X f r/\r a H Q
def R1 {x:Str}{id:String}{p:Pos}{f:Ev->R (List D)}{g:List D->R D}(l:aU X (.builtin id) g)(m:aw X (e::es) f)(n:Gl X x:=by rfl)(o:X.mg x=none:=by assumption)(t:dm x=some (.builtin id):=by decide+kernel)(u:x≠ "__name__":=by decide)
  (v:(x==lM)=false:=by decide) (w:a9 (e::es) X.env=(false,ek e X.env)::a9 es X.env:=by rfl) (y:(d3 b (a9 es X.env)).any (·.1)=false:=by rfl):
  PD X (.Call (.Name x p) (e::es) [] b) (λρ=>(f ρ).bind g):=by
 refine uI λa s σ H Q I z A O ρ E q=>?_;refine aAR (J8 I n o t ?_ u v);refine aBx (E9 (m b a s σ H _ I ⟨z,A,O,ρ,E,NC.seq q⟩) λB C ⟨c,k,J,L,d,_,N,r,h⟩=>?_) w y;obtain⟨r',T,U⟩:=l k O c d Q (λp Y=>(E.grow N).fresh Y) r h;exact T a C σ k c B Q J L U
def fE {x:Str}{T:String}{p:Pos}{f:Ev->R (List D)}{g:List D->R D}(l:aU X (.type T) g)(m:aw X (e::es) f)(n:Gl X x:=by rfl)(o:X.mg x=none:=by assumption)(t:dm x=some (.type T):=by decide+kernel)(u:x≠ "__name__":=by decide)
  (v:(x==lM)=false:=by decide) (w:a9 (e::es) X.env=(false,ek e X.env)::a9 es X.env:=by rfl) (y:(d3 b (a9 es X.env)).any (·.1)=false:=by rfl):
  PD X (.Call (.Name x p) (e::es) [] b) (λρ=>(f ρ).bind g):=by
 refine uI λa s σ H Q I z A O ρ E q=>?_;refine aAR (J8 I n o t ?_ u v);refine aBk (E9 (m b a s σ H _ I ⟨z,A,O,ρ,E,NC.seq q⟩) λB C ⟨c,k,J,L,d,_,N,r,h⟩=>?_) w y;obtain⟨r',U,Y⟩:=l k O c d Q (λp hp=>(E.grow N).fresh hp) r h;exact U a C σ k c B Q J L Y
end
mutual
def u7:D->D->Bool
 |.non,.non=>true
 |.bl a,.bl b=>a==b
 |.bl a,.int b=>(if a then 1 else 0)==b
 |.int a,.bl b=>a==(if b then 1 else 0)
 |.int a,.int b=>a==b
 |.str a,.str b=>a==b
 |.tup Y,.tup c=>Y0 Y c
 |.lst Y,.lst c=>Y0 Y c
 |.dct,.dct=>true
 |_,_=>false
def Y0:List D->List D->Bool
 |[],[]=>true
 |x::Y,y::a=>u7 x y&&Y0 Y a
 |_,_=>false
end
mutual
def C4:D->Nat
 |.tup Y=>C5 Y+1
 |.lst Y=>C5 Y+1
 |.dct=>ee
 |_=>0
def C5:List D->Nat
 |[]=>0
 |x::Y=>max (C4 x) (C5 Y)
end
mutual
theorem J6:∀d:D,u7 d d=true
 |.non=>by simp[u7]
 |.bl b=>by simp[u7]
 |.int i=>by simp[u7]
 |.str x=>by simp[u7]
 |.tup Y=>by rw[u7];exact kD Y
 |.lst Y=>by rw[u7];exact kD Y
 |.dct=>by simp[u7]
theorem kD:∀ds:List D,Y0 ds ds=true
 |[]=>by simp[Y0]
 |x::Y=>by rw[Y0,J6 x,kD Y];rfl
end
def lS (Y c:List D)(j:Nat):Bool:=match Y[j]?,c[j]? with
 |some a,some b=>u7 a b
 |_,_=>false
theorem gM:∀(Y a:List D),Y0 Y a=((aBF (min Y.length a.length)).all (lS Y a)&&(Y.length==a.length))
 |[],[]=>by simp[Y0]
 |[],_::_=>by simp[Y0]
 |_::_,[]=>by simp[Y0]
 |x::Y,y::a=>by
  rw[Y0,gM Y a,aAv,aAv,Nat.succ_min_succ,aFI,aGs,List.all_map];have b:lS (x::Y) (y::a) 0=u7 x y:=rfl;have c:(lS (x::Y) (y::a)∘Nat.succ)=lS Y a:=by
   funext j
   simp[lS]
  have d:(Y.length+1==a.length+1)=(Y.length==a.length):=by rw[aDa];simp
  rw[b,c,d,Bool.and_assoc]
theorem wW:∀{Y:List D} {d:D} {j:Nat},Y[j]?=some d->C4 d<=C5 Y
 |[],_,_,h=>by simp at h
 |x::Y,d,0,h=>by simp at h;subst h;rw[C5];exact Nat.le_max_left _ _
 |x::Y,d,j+1,h=>by rw[C5];exact aAr (wW (j:=j) (by simpa using h)) (Nat.le_max_right _ _)
section
def CW {K:lr}{H:Hp}{O:bc->Prop}{a:bc}{d:D}(h:Rep K H O (.ref a) d):(∃vs ds,d=.tup ds/\V1 K H a vs/\Reps K H O vs ds)\/(∃vs ds,d=.lst ds/\K8 K H a vs/\Reps K H O vs ds)\/(d=.dct/\∃o:Obj,H a=some (.ext λh=>h.get? a=some o)/\o.ExactDict):=by
 cases h with
 |tup h r=>exact .inl ⟨_,_,rfl,h,r⟩
 |lst h n r=>exact .inr (.inl ⟨_,_,rfl,h,r⟩)
 |dct h x n=>exact .inr (.inr ⟨rfl,_,h,x⟩)
def XU (I:Inv X b σ H s)(h:V1 X.K H a vs)(h':K8 X.K H a ws):False:=by obtain⟨d,_,p,_⟩:=I.tuple h;obtain⟨c,_,e,_⟩:=I.list h';exact absurd rfl (SeqAt.ne_of_list_tuple (s:=s) e.isList p)
def XG {o:Obj}(I:Inv X b σ H s)(h':V1 X.K H a vs)(h:H a=some (.ext λh=>h.get? a=some o))(x:o.ExactDict):False:=by obtain⟨d,_,⟨f,g,c,_⟩,_⟩:=I.tuple h';have e:s.heap.get? _=some _:=(I.hok _ _ h).1;rw[g]at e;cases e;exact absurd (c.symm.trans x.1) (by decide)
def WZ {o:Obj}(I:Inv X b σ H s)(h':K8 X.K H a vs)(h:H a=some (.ext λh=>h.get? a=some o))(x:o.ExactDict):False:=by obtain⟨d,_,p,_⟩:=I.list h';obtain⟨f,g,c,_⟩:=p.isList;have e:s.heap.get? _=some _:=(I.hok _ _ h).1;rw[g]at e;cases e;exact absurd (c.symm.trans x.1) (by decide)
mutual
theorem Rep.inj (I:Inv X f σ H s):∀{v:V} {d:D},Rep X.K H O v d->∀{d':D},Rep X.K H g v d'->d=d'
 |_,_,.non=>λh=>by cases h;rfl
 |_,_,.bl=>λh=>by cases h;rfl
 |_,_,.int=>λh=>by cases h;rfl
 |_,_,.str=>λh=>by cases h;rfl
 |_,_,.tup h r=>λb=>by
  rcases CW b with⟨_,_,rfl,a,c⟩|⟨_,_,rfl,a,_⟩|⟨rfl,_,a,x⟩
  .have e:=I.ab4 h a;subst e;rw[Reps.inj I r c]
  .exact(XU I h a).elim
  .exact(XG I h a x).elim
 |_,_,.lst h _ r=>λb=>by
  rcases CW b with⟨_,_,rfl,a,_⟩|⟨_,_,rfl,a,c⟩|⟨rfl,_,a,x⟩
  .exact(XU I a h).elim
  .have e:=I.ab2 h a;subst e;rw[Reps.inj I r c]
  .exact(WZ I h a x).elim
 |_,_,.dct h x _=>λb=>by
  rcases CW b with⟨_,_,rfl,a,_⟩|⟨_,_,rfl,a,_⟩|⟨rfl,_⟩
  .exact(XG I a h x).elim
  .exact(WZ I a h x).elim
  .rfl
theorem Reps.inj (I:Inv X a σ H s):∀{v:List V} {d:List D},Reps X.K H O v d->∀{d':List D},Reps X.K H f v d'->d=d'
 |_,_,.nil=>λh=>by cases h;rfl
 |_,_,.cons h t=>λb=>by
  cases b with
  |cons c e=>rw[Rep.inj I h c,Reps.inj I t e]
end
def mZ (A:cv)(s:bb)(a ws:List af)(Y b:List D):Prop:=∀(j:Nat) (u w:af),a[j]?=some u->ws[j]?=some w->SeqAt.EqAt A.in1 s u w (lS Y b j)
def yY (f:s.heap.IsList l c.toArray)(g:s.heap.IsList b ws.toArray)(e1:c.length=Y.length)(e2:ws.length=d.length)(h:A.units<ee)(p:mZ A s c ws Y d):SeqAt.RcAt A s (.ref l) (.ref b) (Y0 Y d)/\SeqAt.RcNeAt A s (.ref l) (.ref b) (!Y0 Y d):=by
 rw[gM];by_cases a:Y.length=d.length
 .have e:c.toArray.size=ws.toArray.size:=by simp[e1,e2,a]
  have q:min Y.length d.length=c.toArray.size:=by simp[e1,a]
  have k:(Y.length==d.length)=true:=by simp[a]
  have m:∀j (n:j<c.toArray.size) (o:j<ws.toArray.size),SeqAt.EqAt A.in1 s c.toArray[j] ws.toArray[j] (lS Y d j):=λj n o=>p j _ _ (by simp[aAg (show j<c.length by simpa using n)]) (by simp[aAg (show j<ws.length by simpa using o)]);rw[k,Bool.and_true,q];exact⟨SeqAt.RcAt.lists f g e h m,SeqAt.RcNeAt.lists f g e h m⟩
 .have e:(c.toArray.size !=ws.toArray.size)=true:=by simp[e1,e2,a]
  have k:(Y.length==d.length)=false:=by simp[a]
  rw[k,aGg];exact⟨SeqAt.RcAt.lists_lengths f g e h,SeqAt.RcNeAt.lists_lengths f g e h⟩
def lJ (d:IsTup s.heap l a.toArray)(e:IsTup s.heap b ws.toArray)(e1:a.length=Y.length)(e2:ws.length=c.length)(f:A.units<ee)(m:mZ A s a ws Y c):SeqAt.RcAt A s (.ref l) (.ref b) (Y0 Y c)/\SeqAt.RcNeAt A s (.ref l) (.ref b) (!Y0 Y c):=by
 rw[gM];have n:min Y.length c.length=min a.toArray.size ws.toArray.size:=by simp[e1,e2]
 have o:(Y.length==c.length)=(a.toArray.size==ws.toArray.size):=by simp[e1,e2]
 have g:∀j (h:j<a.toArray.size) (k:j<ws.toArray.size),SeqAt.EqAt A.in1 s a.toArray[j] ws.toArray[j] (lS Y c j):=λj h k=>m j _ _ (by simp[aAg (show j<a.length by simpa using h)]) (by simp[aAg (show j<ws.length by simpa using k)]);rw[o,n];exact⟨SeqAt.RcAt.tuples d e f g,SeqAt.RcNeAt.tuples d e f g⟩
def t6 (A:cv):A.in1.units=A.units+1:=rfl
mutual
theorem YJ (I:Inv X N σ H s):∀{x y:V} {z B:D} {v u:af} {A:cv},Rep X.K H O x z->Rep X.K H O' y B->RelV x v->RelV y u->A.units+C4 z<ee->A.units+C4 B<ee->SeqAt.EqAt A s v u (u7 z B)
 |_,_,_,_,v,u,A,.non,f,g,b,k,d=>by
  have c:A.units<ee:=by lia
  cases g;cases f with
  |dct=>exact absurd d (by rw[C4];lia)
  |non=>cases b;exact aEb _
  |bl=>cases b;simp only[u7];exact SeqAt.EqAt.none_bool _
  |int=>obtain⟨t,rfl⟩:=b;simp only[u7];exact SeqAt.EqAt.none_int _ _
  |str=>obtain⟨t,rfl⟩:=b;simp only[u7];exact SeqAt.EqAt.none_str _ _
  |tup h r=>cases b;obtain⟨_,_,p,_⟩:=I.tuple h;simp only[u7];exact SeqAt.EqAt.none_tuple p c
  |lst h _ r=>cases b;obtain⟨_,_,p,_⟩:=I.list h;simp only[u7];exact SeqAt.EqAt.none_list p.isList c
 |_,_,_,_,v,u,A,.bl,f,g,b,k,d=>by
  have c:A.units<ee:=by lia
  cases g;cases f with
  |dct=>exact absurd d (by rw[C4];lia)
  |non=>cases b;simp only[u7];exact SeqAt.EqAt.bool_none _
  |bl=>cases b;simp only[u7];exact SeqAt.EqAt.bool_bool _ _
  |int=>obtain⟨t,rfl⟩:=b;simp only[u7];exact SeqAt.EqAt.bool_int _ _ _
  |str=>obtain⟨t,rfl⟩:=b;simp only[u7];exact SeqAt.EqAt.bool_str _ _ _
  |tup h r=>cases b;obtain⟨_,_,p,_⟩:=I.tuple h;simp only[u7];exact SeqAt.EqAt.bool_tuple _ p c
  |lst h _ r=>cases b;obtain⟨_,_,p,_⟩:=I.list h;simp only[u7];exact SeqAt.EqAt.bool_list _ p.isList c
 |_,_,_,_,v,u,A,.int,f,g,b,k,d=>by
  have c:A.units<ee:=by lia
  obtain⟨Q,rfl⟩:=g;cases f with
  |dct=>exact absurd d (by rw[C4];lia)
  |non=>cases b;simp only[u7];exact SeqAt.EqAt.int_none _ _
  |bl=>cases b;simp only[u7];exact SeqAt.EqAt.int_bool _ _ _
  |int=>obtain⟨t,rfl⟩:=b;simp only[u7];exact aFa _ _ _ _
  |str=>obtain⟨t,rfl⟩:=b;simp only[u7];exact aGq _ _ _ _
  |tup h r=>cases b;obtain⟨_,_,p,_⟩:=I.tuple h;simp only[u7];exact aGc _ _ p c
  |lst h _ r=>cases b;obtain⟨_,_,p,_⟩:=I.list h;simp only[u7];exact SeqAt.EqAt.int_list _ _ p.isList c
 |_,_,_,_,v,u,A,.str,f,g,b,k,d=>by
  have c:A.units<ee:=by lia
  obtain⟨Q,rfl⟩:=g;cases f with
  |dct=>exact absurd d (by rw[C4];lia)
  |non=>cases b;simp only[u7];exact SeqAt.EqAt.str_none _ _
  |bl=>cases b;simp only[u7];exact SeqAt.EqAt.str_bool _ _ _
  |int=>obtain⟨t,rfl⟩:=b;simp only[u7];exact aGr _ _ _ _
  |str=>obtain⟨t,rfl⟩:=b;simp only[u7];exact SeqAt.EqAt.str_str _ _ _ _
  |tup h r=>cases b;obtain⟨_,_,p,_⟩:=I.tuple h;simp only[u7];exact SeqAt.EqAt.str_tuple _ _ p c
  |lst h _ r=>cases b;obtain⟨_,_,p,_⟩:=I.list h;simp only[u7];exact SeqAt.EqAt.str_list _ _ p.isList c
 |_,_,_,_,v,u,A,.tup (a:=a) (vs:=vs) (ds:=ds) h r,f,g,b,k,d=>by
  have c:A.units<ee:=by lia
  cases g;obtain⟨C,o,p,_⟩:=I.tuple h;cases f with
  |dct=>exact absurd d (by rw[C4];lia)
  |non=>cases b;simp only[u7];exact SeqAt.EqAt.tuple_none p c
  |bl=>cases b;simp only[u7];exact SeqAt.EqAt.tuple_bool _ p c
  |int=>obtain⟨t,rfl⟩:=b;simp only[u7];exact aGd _ _ p c
  |str=>obtain⟨t,rfl⟩:=b;simp only[u7];exact SeqAt.EqAt.tuple_str _ _ p c
  |@tup E T U l m=>
   cases b;obtain⟨q,w,n,_⟩:=I.tuple l;by_cases e:a=E
   .subst e;have J:=I.ab4 h l;subst J;have L:=Reps.inj I r m;subst L;rw[J6];exact aEb _
   .simp only[u7];refine aFc e (lJ p n (by rw[<-o.length,r.length]) (by rw[<-w.length,m.length]) c<|iI I r m o w ?_ ?_).1
    .rw[C4]at k;rw[t6];lia
    .rw[C4]at d;rw[t6];lia
  |lst l _ m=>cases b;obtain⟨_,_,n,_⟩:=I.list l;simp only[u7];exact SeqAt.EqAt.tuple_list p n.isList c
 |_,_,_,_,v,u,A,.lst (a:=a) (vs:=vs) (ds:=ds) h nO r,f,g,b,k,d=>by
  have c:A.units<ee:=by lia
  cases g;obtain⟨C,o,p,_⟩:=I.list h;cases f with
  |dct=>exact absurd d (by rw[C4];lia)
  |non=>cases b;simp only[u7];exact SeqAt.EqAt.list_none p.isList c
  |bl=>cases b;simp only[u7];exact SeqAt.EqAt.list_bool _ p.isList c
  |int=>obtain⟨t,rfl⟩:=b;simp only[u7];exact SeqAt.EqAt.list_int _ _ p.isList c
  |str=>obtain⟨t,rfl⟩:=b;simp only[u7];exact SeqAt.EqAt.list_str _ _ p.isList c
  |tup l m=>cases b;obtain⟨_,_,n,_⟩:=I.tuple l;simp only[u7];exact SeqAt.EqAt.list_tuple p.isList n c
  |@lst E T U l Y m=>
   cases b;obtain⟨q,w,n,_⟩:=I.list l;by_cases e:a=E
   .subst e;have J:=I.ab2 h l;subst J;have L:=Reps.inj I r m;subst L;rw[J6];exact aEb _
   .simp only[u7];refine aFc e (yY p.isList n.isList (by rw[<-o.length,r.length]) (by rw[<-w.length,m.length]) c<|iI I r m o w ?_ ?_).1
    .rw[C4]at k;rw[t6];lia
    .rw[C4]at d;rw[t6];lia
 |_,_,_,_,v,u,A,.dct ..,f,g,b,k,d=>absurd k (by rw[C4];lia)
theorem iI (I:Inv X p σ H s):∀{vs ws:List V} {Y k:List D} {c e:List af} {A:cv},Reps X.K H O vs Y->Reps X.K H z ws k->l7 vs c->l7 ws e->A.in1.units+C5 Y<ee->A.in1.units+C5 k<ee->mZ A s c e Y k
 |_,_,_,_,c,e,A,.nil,B,f,g,l,m=>λj u w a b=>by cases f;simp at a
 |_,_,_,_,c,e,A,.cons h t,.nil,f,g,l,m=>λj u w a b=>by cases g;simp at b
 |_,_,_,_,c,e,A,.cons (d:=d) (ds:=ds) h t,.cons (d:=C) (ds:=E) r v,f,g,l,m=>λj u w a b=>by
  cases f with
  |cons x y=>
   cases g with
   |cons n o=>
    rw[C5]at l m;cases j with
    |zero=>simp only[aDd,aGz]at a b;subst a b;exact YJ I h r x n (by lia) (by lia)
    |succ j=>simp only[aDf]at a b;have q:=iI I (A:=A) t v y o (by lia) (by lia) j u w a b;exact q
end
def xj (I:Inv X Q σ H s)(o:B5 X.K H O x C)(c:B5 X.K H U y f)(q:RelV x v)(d:RelV y u)(E:A.units+C4 C<ee)(l:A.units+C4 f<ee):
  SeqAt.RcAt A s v u (u7 C f)/\SeqAt.RcNeAt A s v u (!u7 C f):=by
 have b:A.units<ee:=by lia
 cases C with
 |dct=>exact absurd E (by rw[C4];lia)
 |non=>
  cases o.ac1;cases q;cases f with
  |dct=>exact absurd l (by rw[C4];lia)
  |non=>cases c.ac1;cases d;simp only[u7];exact⟨SeqAt.RcAt.none_none,SeqAt.RcNeAt.none_none⟩
  |bl=>cases c.blI;cases d;simp only[u7];exact⟨SeqAt.RcAt.none_bool _,SeqAt.RcNeAt.none_bool _⟩
  |int=>cases c.aa6;obtain⟨t,rfl⟩:=d;simp only[u7];exact⟨SeqAt.RcAt.none_int _ _,SeqAt.RcNeAt.none_int _ _⟩
  |str=>cases c.ac4;obtain⟨t,rfl⟩:=d;simp only[u7];exact⟨SeqAt.RcAt.none_str _ _,SeqAt.RcNeAt.none_str _ _⟩
  |tup e=>obtain⟨a,g,rfl,h,r⟩:=c.tupI;cases d;obtain⟨_,_,p,_⟩:=I.tuple h;simp only[u7];exact⟨SeqAt.RcAt.none_tuple p b,SeqAt.RcNeAt.none_tuple p b⟩
  |lst e=>obtain⟨a,g,rfl,h,r⟩:=c.aa5;cases d;obtain⟨_,_,p,_⟩:=I.list h;simp only[u7];exact⟨SeqAt.RcAt.none_list p.isList b,SeqAt.RcNeAt.none_list p.isList b⟩
 |bl=>
  cases o.blI;cases q;cases f with
  |dct=>exact absurd l (by rw[C4];lia)
  |non=>cases c.ac1;cases d;simp only[u7];exact⟨SeqAt.RcAt.bool_none _,SeqAt.RcNeAt.bool_none _⟩
  |bl=>cases c.blI;cases d;simp only[u7];exact⟨SeqAt.RcAt.bool_bool _ _,SeqAt.RcNeAt.bool_bool _ _⟩
  |int=>cases c.aa6;obtain⟨t,rfl⟩:=d;simp only[u7];exact⟨SeqAt.RcAt.bool_int _ _ _,SeqAt.RcNeAt.bool_int _ _ _⟩
  |str=>cases c.ac4;obtain⟨t,rfl⟩:=d;simp only[u7];exact⟨SeqAt.RcAt.bool_str _ _ _,SeqAt.RcNeAt.bool_str _ _ _⟩
  |tup e=>obtain⟨a,g,rfl,h,r⟩:=c.tupI;cases d;obtain⟨_,_,p,_⟩:=I.tuple h;simp only[u7];exact⟨SeqAt.RcAt.bool_tuple _ p b,SeqAt.RcNeAt.bool_tuple _ p b⟩
  |lst e=>obtain⟨a,g,rfl,h,r⟩:=c.aa5;cases d;obtain⟨_,_,p,_⟩:=I.list h;simp only[u7];exact⟨SeqAt.RcAt.bool_list _ p.isList b,SeqAt.RcNeAt.bool_list _ p.isList b⟩
 |int=>
  cases o.aa6;obtain⟨T,rfl⟩:=q;cases f with
  |dct=>exact absurd l (by rw[C4];lia)
  |non=>cases c.ac1;cases d;simp only[u7];exact⟨SeqAt.RcAt.int_none _ _,SeqAt.RcNeAt.int_none _ _⟩
  |bl=>cases c.blI;cases d;simp only[u7];exact⟨SeqAt.RcAt.int_bool _ _ _,SeqAt.RcNeAt.int_bool _ _ _⟩
  |int=>cases c.aa6;obtain⟨t,rfl⟩:=d;simp only[u7];exact⟨SeqAt.RcAt.int_int _ _ _ _,SeqAt.RcNeAt.int_int _ _ _ _⟩
  |str=>cases c.ac4;obtain⟨t,rfl⟩:=d;simp only[u7];exact⟨SeqAt.RcAt.int_str _ _ _ _,SeqAt.RcNeAt.int_str _ _ _ _⟩
  |tup e=>obtain⟨a,g,rfl,h,r⟩:=c.tupI;cases d;obtain⟨_,_,p,_⟩:=I.tuple h;simp only[u7];exact⟨SeqAt.RcAt.int_tuple _ _ p b,SeqAt.RcNeAt.int_tuple _ _ p b⟩
  |lst e=>obtain⟨a,g,rfl,h,r⟩:=c.aa5;cases d;obtain⟨_,_,p,_⟩:=I.list h;simp only[u7];exact⟨SeqAt.RcAt.int_list _ _ p.isList b,SeqAt.RcNeAt.int_list _ _ p.isList b⟩
 |str=>
  cases o.ac4;obtain⟨T,rfl⟩:=q;cases f with
  |dct=>exact absurd l (by rw[C4];lia)
  |non=>cases c.ac1;cases d;simp only[u7];exact⟨SeqAt.RcAt.str_none _ _,SeqAt.RcNeAt.str_none _ _⟩
  |bl=>cases c.blI;cases d;simp only[u7];exact⟨SeqAt.RcAt.str_bool _ _ _,SeqAt.RcNeAt.str_bool _ _ _⟩
  |int=>cases c.aa6;obtain⟨t,rfl⟩:=d;simp only[u7];exact⟨SeqAt.RcAt.str_int _ _ _ _,SeqAt.RcNeAt.str_int _ _ _ _⟩
  |str=>cases c.ac4;obtain⟨t,rfl⟩:=d;simp only[u7];exact⟨SeqAt.RcAt.str_str _ _ _ _,SeqAt.RcNeAt.str_str _ _ _ _⟩
  |tup e=>obtain⟨a,g,rfl,h,r⟩:=c.tupI;cases d;obtain⟨_,_,p,_⟩:=I.tuple h;simp only[u7];exact⟨SeqAt.RcAt.str_tuple _ _ p b,SeqAt.RcNeAt.str_tuple _ _ p b⟩
  |lst e=>obtain⟨a,g,rfl,h,r⟩:=c.aa5;cases d;obtain⟨_,_,p,_⟩:=I.list h;simp only[u7];exact⟨SeqAt.RcAt.str_list _ _ p.isList b,SeqAt.RcNeAt.str_list _ _ p.isList b⟩
 |tup Y=>
  obtain⟨a,g,rfl,h,r⟩:=o.tupI;cases q;obtain⟨J,w,p,_⟩:=I.tuple h;cases f with
  |dct=>exact absurd l (by rw[C4];lia)
  |non=>cases c.ac1;cases d;simp only[u7];exact⟨SeqAt.RcAt.tuple_none p b,SeqAt.RcNeAt.tuple_none p b⟩
  |bl=>cases c.blI;cases d;simp only[u7];exact⟨SeqAt.RcAt.tuple_bool _ p b,SeqAt.RcNeAt.tuple_bool _ p b⟩
  |int=>cases c.aa6;obtain⟨t,rfl⟩:=d;simp only[u7];exact⟨SeqAt.RcAt.tuple_int _ _ p b,SeqAt.RcNeAt.tuple_int _ _ p b⟩
  |str=>cases c.ac4;obtain⟨t,rfl⟩:=d;simp only[u7];exact⟨SeqAt.RcAt.tuple_str _ _ p b,SeqAt.RcNeAt.tuple_str _ _ p b⟩
  |tup e=>
   obtain⟨L,N,rfl,m,n⟩:=c.tupI;cases d;obtain⟨z,B,k,_⟩:=I.tuple m;simp only[u7];refine lJ p k (by rw[<-w.length,r.length]) (by rw[<-B.length,n.length]) b (iI I r n w B ?_ ?_)
   .rw[C4]at E;rw[t6];lia
   .rw[C4]at l;rw[t6];lia
  |lst e=>obtain⟨L,N,rfl,m,n⟩:=c.aa5;cases d;obtain⟨_,_,k,_⟩:=I.list m;simp only[u7];exact⟨SeqAt.RcAt.tuple_list p k.isList b,SeqAt.RcNeAt.tuple_list p k.isList b⟩
 |lst Y=>
  obtain⟨a,g,rfl,h,r⟩:=o.aa5;cases q;obtain⟨J,w,p,_⟩:=I.list h;cases f with
  |dct=>exact absurd l (by rw[C4];lia)
  |non=>cases c.ac1;cases d;simp only[u7];exact⟨SeqAt.RcAt.list_none p.isList b,SeqAt.RcNeAt.list_none p.isList b⟩
  |bl=>cases c.blI;cases d;simp only[u7];exact⟨SeqAt.RcAt.list_bool _ p.isList b,SeqAt.RcNeAt.list_bool _ p.isList b⟩
  |int=>cases c.aa6;obtain⟨t,rfl⟩:=d;simp only[u7];exact⟨SeqAt.RcAt.list_int _ _ p.isList b,SeqAt.RcNeAt.list_int _ _ p.isList b⟩
  |str=>cases c.ac4;obtain⟨t,rfl⟩:=d;simp only[u7];exact⟨SeqAt.RcAt.list_str _ _ p.isList b,SeqAt.RcNeAt.list_str _ _ p.isList b⟩
  |tup e=>obtain⟨L,N,rfl,m,n⟩:=c.tupI;cases d;obtain⟨_,_,k,_⟩:=I.tuple m;simp only[u7];exact⟨SeqAt.RcAt.list_tuple p.isList k b,SeqAt.RcNeAt.list_tuple p.isList k b⟩
  |lst e=>
   obtain⟨L,N,rfl,m,n⟩:=c.aa5;cases d;obtain⟨z,B,k,_⟩:=I.list m;simp only[u7];refine yY p.isList k.isList (by rw[<-w.length,r.length]) (by rw[<-B.length,n.length]) b (iI I r n w B ?_ ?_)
   .rw[C4]at E;rw[t6];lia
   .rw[C4]at l;rw[t6];lia
end
def KJ (x y:D):R D:=if C4 x<=40/\C4 y<=40 then .ok (.bl (u7 x y))else .bad
def IE (x y:D):R D:=if C4 x<=40/\C4 y<=40 then .ok (.bl (!u7 x y))else .bad
section
def X6 (t:X.A.units+64<ee):mF X (eY .Eq) KJ:=by
 intro H O x y f g Q w h k q;unfold KJ at q;split at q
 .rename_i z;refine⟨λa b c d=>a=x/\b=y/\c=H/\d (.bl (u7 f g)) H,?_,rfl,rfl,rfl,q _ H (Same.refl _) .bl⟩;intro e s σ c a b v u d I l m ⟨n,o,p,r⟩;subst n o p;exact(xj I (A:=X.A) h k l m (by lia) (by lia)).1 _ _ _ _ ⟨.bl _,_,I,rfl,r⟩
 .exact q.elim
def jA (t:X.A.units+64<ee):mF X (eY .NotEq) IE:=by
 intro H O x y f g Q w h k q;unfold IE at q;split at q
 .rename_i z;refine⟨λa b c d=>a=x/\b=y/\c=H/\d (.bl (!u7 f g)) H,?_,rfl,rfl,rfl,q _ H (Same.refl _) .bl⟩;intro e s σ c a b v u d I l m ⟨n,o,p,r⟩;subst n o p;exact(xj I (A:=X.A) h k l m (by lia) (by lia)).2 _ _ _ _ ⟨.bl _,_,I,rfl,r⟩
 .exact q.elim
end
def jY:D->D->R D
 |.int a,.int b=>.ok (.int (a+b))
 |.lst a,.lst b=>if a.length+b.length<=sizeLine then .ok (.lst (a++b))else .bad
 |.tup [],.tup b=>.ok (.tup b)
 |.tup (x::a),.tup []=>if(x::a).length<=sizeLine then .ok (.tup (x::a))else .bad
 |.tup (x::a),.tup (y::b)=>if(x::a).length+(y::b).length<=sizeLine then .ok (.tup ((x::a)++(y::b)))else .bad
 |_,_=>.bad
def NP:D->D->R D
 |.int a,.int b=>.ok (.int (a-b))
 |_,_=>.bad
def l5 (a b:Int):Prop:=aBa a<=60000000/\aBa b<=60000000
instance(a b:Int):Decidable (l5 a b):=inferInstanceAs (Decidable<|_/\_)
def U6:D->D->R D
 |.int a,.int b=>if l5 a b then .ok (.int (a*b))else .bad
 |_,_=>.bad
def uC (b:Int):Prop:=b≠0/\aBa b<=9000
instance(b:Int):Decidable (uC b):=inferInstanceAs (Decidable<|_/\_)
def N6:D->D->R D
 |.int a,.int b=>if uC b then .ok (.int (a.fdiv b))else .bad
 |_,_=>.bad
def X3:D->D->R D
 |.int a,.int b=>if b≠0 then .ok (.int (a.fmod b))else .bad
 |_,_=>.bad
def JQ:D->D->R D
 |.int a,.int b=>if 0<=b/\b<=1000000/\a.natAbs<2^64 then .ok (.int (a^b.toNat))else .bad
 |_,_=>.bad
def ltR:D->D->R D
 |.int a,.int b=>.ok (.bl (decide (a<b)))
 |_,_=>.bad
def uq:D->D->R D
 |.int a,.int b=>.ok (.bl (decide (a<=b)))
 |_,_=>.bad
def WS:D->D->R D
 |.int a,.int b=>.ok (.bl (decide (b<a)))
 |_,_=>.bad
def JX (h0:b≠0)(h:aBa b<=n):b.natAbs.log2<n:=by
 unfold aBa at h;split at h
 .rename_i z;exact absurd (by simpa using z) h0
 .omega
def PP (h:l5 a b):IntMulOk a b:=mulOk_of_bits (m:=60000000) (n:=60000000) h.1 h.2 (by decide)
section
def mF.aa8 {f:af->af->Sem af}{g:D->D->R D}{C:Int->Int->Prop}{w:Int->Int->V}{dw:Int->Int->D}(c:mH X f (rI C w))(h:∀a b d,g a b=.ok d->∃i j,a=.int i/\b=.int j/\C i j/\d=dw i j)
  (k:∀a b e,g a b≠.ex e) (l:∀K H O i j,Rep K H O (w i j) (dw i j)):mF X f g:=by
 intro H O x y a b Q p m n q;cases e:g a b with
 |ok d=>rw[e]at q;obtain⟨i,j,rfl,rfl,o,rfl⟩:=h a b d e;cases m.aa6;cases n.aa6;exact⟨_,c,i,j,rfl,rfl,o,q _ H (Same.refl _) (l _ _ _ _ _)⟩
 |ex x=>exact absurd e (k _ _ _)
 |bad=>rw[e]at q;exact q.elim
def mH.c0 (h:mH X f (XI w)):mH X f (rI (λ_ _=>True) w):=by rintro a s σ H x y v u Q I b c ⟨i,j,d,e,_,q⟩;exact h a s σ H x y v u Q I b c ⟨i,j,d,e,q⟩
def v6:mF X (ff .Sub) NP:=mF.aa8 (dw:=λi j=>.int (i-j)) (mH.c0 fq) (λa b d h=>by cases a<;>cases b<;>simp only[NP,R.ok.injEq,reduceCtorEq]at h;exact⟨_,_,rfl,rfl,trivial,h.symm⟩) (λa b e h=>by cases a<;>cases b<;>simp only[NP,reduceCtorEq]at h) λ_ _ _ _ _=>.int
def EX:mF X (eY .Lt) ltR:=mF.aa8 (dw:=λi j=>.bl (decide (i<j))) (mH.c0 sk) (λa b d h=>by cases a<;>cases b<;>simp only[ltR,R.ok.injEq,reduceCtorEq]at h;exact⟨_,_,rfl,rfl,trivial,h.symm⟩) (λa b e h=>by cases a<;>cases b<;>simp only[ltR,reduceCtorEq]at h) λ_ _ _ _ _=>.bl
def qk:mF X (eY .LtE) uq:=mF.aa8 (dw:=λi j=>.bl (decide (i<=j))) (mH.c0 vk) (λa b d h=>by cases a<;>cases b<;>simp only[uq,R.ok.injEq,reduceCtorEq]at h;exact⟨_,_,rfl,rfl,trivial,h.symm⟩) (λa b e h=>by cases a<;>cases b<;>simp only[uq,reduceCtorEq]at h) λ_ _ _ _ _=>.bl
def lK:mF X (eY .Gt) WS:=mF.aa8 (dw:=λi j=>.bl (decide (j<i))) (mH.c0 tz) (λa b d h=>by cases a<;>cases b<;>simp only[WS,R.ok.injEq,reduceCtorEq]at h;exact⟨_,_,rfl,rfl,trivial,h.symm⟩) (λa b e h=>by cases a<;>cases b<;>simp only[WS,reduceCtorEq]at h) λ_ _ _ _ _=>.bl
def RA:mH X (ff .FloorDiv) (rI (λ_ j=>uC j) λi j=>.int (i.fdiv j)):=opI λ_ _ _ _ _ _ _ a q=>floordiv_int a.1 q (.inl (PyProof.noPylong_of_log2<|JX a.1 a.2))
def y9:mF X (ff .FloorDiv) N6:=mF.aa8 (dw:=λi j=>.int (i.fdiv j)) RA (λa b d h=>by
 cases a<;>cases b<;>simp only[N6,reduceCtorEq]at h;split at h
 .rename_i c;cases h;exact⟨_,_,rfl,rfl,c,rfl⟩
 .cases h) (λa b e h=>by
  cases a<;>cases b<;>simp only[N6,reduceCtorEq]at h;split at h<;>cases h) λ_ _ _ _ _=>.int
def A2:mF X (ff .Mod) X3:=mF.aa8 (dw:=λi j=>.int (i.fmod j)) UW (λa b d h=>by
 cases a<;>cases b<;>simp only[X3,reduceCtorEq]at h;split at h
 .rename_i c;cases h;exact⟨_,_,rfl,rfl,c,rfl⟩
 .cases h) (λa b e h=>by
  cases a<;>cases b<;>simp only[X3,reduceCtorEq]at h;split at h<;>cases h) λ_ _ _ _ _=>.int
def gS:mF X (ff .Pow) JQ:=mF.aa8 (dw:=λi j=>.int (i^j.toNat)) YO (λa b d h=>by
 cases a<;>cases b<;>simp only[JQ,reduceCtorEq]at h;split at h
 .rename_i c;cases h;exact⟨_,_,rfl,rfl,c,rfl⟩
 .cases h) (λa b e h=>by
  cases a<;>cases b<;>simp only[JQ,reduceCtorEq]at h;split at h<;>cases h) λ_ _ _ _ _=>.int
def SH:mH X (ff .Mult) (rI l5 λi j=>.int (i*j)):=opI λ_ _ _ _ _ _ _ a q=>mul_int q (PP a)
def l8:mF X (ff .Mult) U6:=mF.aa8 (dw:=λi j=>.int (i*j)) SH (λa b d h=>by
 cases a<;>cases b<;>simp only[U6,reduceCtorEq]at h;split at h
 .rename_i c;cases h;exact⟨_,_,rfl,rfl,c,rfl⟩
 .cases h) (λa b e h=>by
  cases a<;>cases b<;>simp only[U6,reduceCtorEq]at h;split at h<;>cases h) λ_ _ _ _ _=>.int
def SO:mH X (ff .Add) (λx y H Q=>∃l b Y d,x=.ref l/\y=.ref b/\K8 X.K H l Y/\K8 X.K H b d/\Y.length+d.length<=sizeLine/\∀p,H p=none->Q (.ref p) (upd H p (.lst (Y++d)))):=by
 intro g s σ H x y v u Q I B C h;obtain⟨l,b,Y,d,rfl,rfl,E,J,L,q⟩:=h;cases B;cases C;obtain⟨a,r,p,_⟩:=I.list E;obtain⟨e,k,N,_⟩:=I.list J;obtain⟨⟨O,T,m,U⟩,o,t,n,w⟩:=p.isList;obtain⟨⟨zb,sv,data2,qp⟩,z,A,n2,c⟩:=N.isList;simp only at t w A c;subst t w A c;have f:a.toArray.size+e.toArray.size<=sizeLine:=by rw[aAp,aAp,<-r.length,<-k.length];exact L
 have ea:a.toArray++e.toArray=(a++e).toArray:=by simp
 refine aFS ⟨_,o,rfl⟩ ⟨_,z,rfl⟩ noFill_list_add seq_list_add PySem.F.slot_list_add PySem.F.entry_list_add (PySem.F.args_list_add_2 _ _) (list_addW l b a.toArray e.toArray n n2 T sv U qp f) ⟨o,z,?_⟩;rw[ea];exact⟨.ref _,_,I.ag1 (t':=s.toks) (r.append k) (by rw[aAD];omega),rfl,q _ I.fresh⟩
def QJ:mH X (ff .Add) (λx y H Q=>∃a b d,x=.ref a/\y=.ref b/\V1 X.K H a []/\V1 X.K H b d/\Q (.ref b) H):=by intro e s σ H x y v u Q I p r h;obtain⟨t,b,d,rfl,rfl,w,z,q⟩:=h;cases p;cases r;obtain⟨A,B,C,_⟩:=I.tuple w;obtain⟨Y,r2,E,_⟩:=I.tuple z;cases B;obtain⟨⟨J,L,f,N⟩,g,k,n,l⟩:=C;obtain⟨⟨zb,O,data2,T⟩,m,o,U,c⟩:=E;simp only at k l o c;subst k l o c;exact aFS ⟨_,g,rfl⟩ ⟨_,m,rfl⟩ aFB seq_tuple_add PySem.F.slot_tuple_add PySem.F.entry_tuple_add (PySem.F.args_tuple_add_2 _ _) (tuple_addW0 t b _ _ n U L O N T (by simp)) ⟨g,m,.ref b,H,I,rfl,q⟩
def o5:mF X (ff .Add) jY:=by
 intro H O x y u s Q v n o q;cases u with
 |int i=>
  cases s with
  |int j=>cases n.aa6;cases o.aa6;exact⟨_,YR,i,j,rfl,rfl,q _ H (Same.refl _) .int⟩
  |_=>exact aAi q
 |lst a=>
  cases s with
  |lst b=>
   simp only[jY]at q;split at q
   .rename_i r;obtain⟨l,e,rfl,f,c⟩:=n.aa5;obtain⟨h,k,rfl,g,d⟩:=o.aa5;exact⟨_,SO,l,h,e,k,rfl,rfl,f,g,by rw[c.length,d.length];exact r,λp m=>q _ _ (j6 m _) (.lst (K8.of j3) (v p m) ((c.append d).same (j6 m _)))⟩
   .exact q.elim
  |_=>exact aAi q
 |tup a=>
  cases s with
  |tup b=>
   cases a with
   |nil=>obtain⟨l,e,rfl,f,c⟩:=n.tupI;obtain⟨h,k,rfl,g,d⟩:=o.tupI;cases c;exact⟨_,QJ,l,h,k,rfl,rfl,f,g,q _ H (Same.refl _) (.tup g d)⟩
   |cons x a=>
    cases b with
    |nil=>
     obtain⟨l,e,rfl,f,c⟩:=n.tupI;obtain⟨h,k,rfl,g,d⟩:=o.tupI;cases d;have t:e≠[]:=λz=>by subst z;have:=c.length;simp at this
     simp only[jY]at q;split at q
     .rename_i r;exact⟨_,FQ,l,h,e,[],rfl,rfl,f,g,t,by rw[c.length];exact r,λ_=>q _ H (Same.refl _) (.tup f c),λz=>absurd rfl z⟩
     .exact q.elim
    |cons y b=>
     simp only[jY]at q;split at q
     .rename_i r;obtain⟨l,e,rfl,f,c⟩:=n.tupI;obtain⟨h,k,rfl,g,d⟩:=o.tupI;have t:e≠[]:=λz=>by subst z;have:=c.length;simp at this
      have w:k≠[]:=λz=>by subst z;have:=d.length;simp at this
      exact⟨_,FQ,l,h,e,k,rfl,rfl,f,g,t,by rw[c.length,d.length];exact r,λz=>absurd z w,λ_ p m=>q _ _ (j6 m _) (.tup (V1.of j3) ((c.append d).same (j6 m _)))⟩
     .exact q.elim
  |_=>cases a<;>exact aAi q
 |_=>exact aAi q
def U8 (x y:D):R D:=match x,y with
 |.lst Y,.int i=>match qO Y i with|some d=>.ok d|none=>.bad
 |.tup Y,.int i=>match qO Y i with|some d=>.ok d|none=>.bad
 |_,_=>.bad
def yP {K:lr}{H:Hp}{O:bc->Prop}{vs:List V}{ds:List D}{i:Int}{d:D}(r:Reps K H O vs ds)(h:qO ds i=some d):∃v,qO vs i=some v/\Rep K H O v d:=by
 unfold qO at h⊢;rw[r.length];cases e:JE ds.length i with
 |none=>rw[e]at h;cases h
 |some j=>rw[e]at h;exact r.get h
def f7 (N:PB X a f)(T:PD X b g)(t:SN b:=by exactλ_ _=>rfl):PD X (.Subscript a b U) (λρ=>(f ρ).bind λx=>(g ρ).bind λy=>U8 x y):=by
 refine uI λc s σ H Q I H9 O0 O ρ E q=>?_;refine Subscript_ (OE N T.pb I (mW E q) λv u z x y k A B C h=>?_);obtain⟨J,dy,fr,L,r2,q⟩:=h;cases dy with
 |int i=>
  cases r2.aa6;cases J with
  |lst Y=>
   simp only[U8]at q;cases e:qO Y i with
   |none=>rw[e]at q;exact q.elim
   |some d=>rw[e]at q;obtain⟨p,l,rfl,m,n⟩:=L.aa5;obtain⟨w,o,r⟩:=yP n e;exact SJ a b c z σ k _ _ v u Q A B C ⟨p,l,i,w,rfl,rfl,m,o,q w k (Same.refl _) r⟩ (t _ _)
  |tup Y=>
   simp only[U8]at q;cases e:qO Y i with
   |none=>rw[e]at q;exact q.elim
   |some d=>rw[e]at q;obtain⟨p,l,rfl,m,n⟩:=L.tupI;obtain⟨w,o,r⟩:=yP n e;exact YW a b c z σ k _ _ v u Q A B C ⟨p,l,i,w,rfl,rfl,m,o,q w k (Same.refl _) r⟩ (t _ _)
  |_=>exact aAi q
 |_=>cases J<;>exact aAi q
def cutD (Y:List D)(lo a:Option Int):List D:=(Y.drop<|HT.sIx Y.length 0 lo).take (HT.sIx Y.length Y.length a-HT.sIx Y.length 0 lo)
def uG {K:lr}{H:Hp}{O:bc->Prop}{vs:List V}{ds:List D}{lo a:Option Int}(r:Reps K H O vs ds):Reps K H O (yV vs lo a) (cutD ds lo a):=by unfold yV cutD;rw[r.length];exact(r.drop _).take _
def PTO (X:Cx)(e:Option dA)(f:Ev->R (Option Int)):Prop:=PO X e λσ H Q=>∃b c O ρ,EnvOk X.K b c H O σ ρ/\match f ρ with
 |.ok o=>∀a,Same H a->Q o a
 |.ex e=>∀a,Same H a->XW X e a
 |.bad=>False
def toI:D->R (Option Int)
 |.int i=>.ok (some i)
 |_=>.bad
def cT:PTO X none (λ_=>.ok none):=by rintro a s σ H Q I ⟨b,c,O,ρ,E,q⟩;exact UE a s σ H Q I (q H<|Same.refl _)
def W3 (h:PD X e f):PTO X (some e) (λρ=>(f ρ).bind toI):=by rintro a s σ H Q I ⟨b,c,O,ρ,E,q⟩;exact SU h a s σ H Q I ⟨b,c,O,ρ,E,by
 dsimp only at q;cases e:f ρ with
 |ok d=>
  rw[e]at q;cases d with
  |int i=>exactλv g k l=>by cases l;exact⟨i,rfl,q g k⟩
  |_=>exact aAi q
 |ex x=>rw[e]at q;exact q
 |bad=>rw[e]at q;exact q⟩
def LA (x:D)(lo a:Option Int):R D:=match x with
 |.lst Y=>.ok (.lst (cutD Y lo a))
 |.tup Y=>if HT.sIx Y.length 0 lo=0/\HT.sIx Y.length Y.length a=Y.length then .bad else .ok (.tup (cutD Y lo a))
 |_=>.bad
def tO {lo C:Option dA}{J:Pos}{n o:Ev->R (Option Int)}(L:PB X a f)(N:PTO X lo n)(T:PTO X C o):
  PD X (.Subscript a (.Slice lo C none J) U) (λρ=>(f ρ).bind λx=>(n ρ).bind λl=>(o ρ).bind λh=>LA x l h):=by
 refine uI λg s σ H Q I t u O ρ E q=>?_;have v:∀x d l h e,B5 X.K e O x d->(∀p,e p=none->¬O p)->RC X e O (LA d l h) Q->wj X.K x l h e Q\/a0d X.K x l h e Q:=λx d l h e r fr q=>by
  cases d with
  |lst Y=>obtain⟨p,w,rfl,y,m⟩:=r.aa5;exact .inl ⟨p,w,rfl,y,λp b=>q _ _ (j6 b _) (.lst (K8.of j3) (fr p b) ((uG m).same (j6 b _)))⟩
  |tup Y=>
   obtain⟨p,w,rfl,y,m⟩:=r.tupI;simp only[LA]at q;split at q
   .exact q.elim
   .rename_i hn;exact .inr ⟨p,w,rfl,y,by rw[m.length];exact hn,λp b=>q _ _ (j6 b _) (.tup (V1.of j3) ((uG m).same (j6 b _)))⟩
  |_=>exact aAi q
 refine PY (UK.or ZM) L N T g s σ H Q I ⟨t,u,O,ρ,E,?_⟩;dsimp only at q;cases z:f ρ with
 |ok d=>
  rw[z]at q;intro x H1 s1 r1;refine⟨t,u,O,ρ,E.grow s1,?_⟩;rw[R.aa0]at q;cases A:n ρ with
  |ok l=>
   rw[A]at q;intro H2 s2;refine⟨t,u,O,ρ,(E.grow s1).grow s2,?_⟩;cases B:o ρ with
   |ok h=>rw[B]at q;intro k c;have q':RC X H O (LA d l h) Q:=q;exact v x d l h k ((r1.same s2).same c) (λp b=>(((E.grow s1).grow s2).grow c).fresh b) (q'.grow<|s1.trans<|s2.trans c)
   |ex x=>rw[B]at q;exactλk c=>q k (s1.trans<|s2.trans c)
   |bad=>rw[B]at q;exact q
  |ex x=>rw[A]at q;exactλk c=>q k (s1.trans c)
  |bad=>rw[A]at q;exact q
 |ex x=>rw[z]at q;exact q
 |bad=>rw[z]at q;exact q
def BF {K:lr}{H:Hp}{O:bc->Prop}{vs:List V}{d:D}(r:Paired (B5 K H O) vs [d]):∃v,vs=[v]/\B5 K H O v d:=by
 cases r with
 |cons a b=>cases b;exact⟨_,rfl,a⟩
def pr2 {K:lr}{H:Hp}{O:bc->Prop}{vs:List V}{d d':D}(r:Paired (B5 K H O) vs [d,d']):∃v a,vs=[v,a]/\B5 K H O v d/\B5 K H O a d':=by
 cases r with
 |cons b c=>obtain⟨a,e,f⟩:=BF c;subst e;exact⟨_,_,rfl,b,f⟩
def HI:List D->R D
 |[.lst Y]=>.ok (.int Y.length)
 |[.tup Y]=>.ok (.int Y.length)
 |_=>.bad
def S1:aU X (.builtin "len") HI:=by
 intro H O e d Q f r q;match d,q with
 |[.lst Y],q=>obtain⟨v,rfl,z⟩:=BF r;obtain⟨p,a,rfl,b,c⟩:=z.aa5;exact⟨_,iG,p,a,rfl,.inl b,q _ H (Same.refl _) (by rw[c.length];exact .int)⟩
 |[.tup Y],q=>obtain⟨v,rfl,z⟩:=BF r;obtain⟨p,a,rfl,b,c⟩:=z.tupI;exact⟨_,iG,p,a,rfl,.inr b,q _ H (Same.refl _) (by rw[c.length];exact .int)⟩
def sj:List D->R D
 |[.int i]=>.ok (.int (if i<0 then-i else i))
 |_=>.bad
def PM:aU X (.builtin "abs") sj:=by
 intro H O b a Q c r q;match a,q with
 |[.int i],q=>obtain⟨v,rfl,z⟩:=BF r;cases z.aa6;exact⟨_,LX,i,rfl,q _ H (Same.refl _) .int⟩
def uU:List D->R D
 |[.lst Y]=>.ok (.tup Y)
 |[.tup Y]=>.ok (.tup Y)
 |_=>.bad
def pL:aU X (.type "tuple") uU:=by
 intro H O f e Q g r q;match e,q with
 |[.lst Y],q=>obtain⟨v,rfl,z⟩:=BF r;obtain⟨p,b,rfl,a,c⟩:=z.aa5;exact⟨_,fW,p,b,rfl,.inl ⟨a,λl d=>q _ _ (j6 d _) (.tup (V1.of j3) (c.same<|j6 d _))⟩⟩
 |[.tup Y],q=>obtain⟨v,rfl,z⟩:=BF r;obtain⟨p,b,rfl,a,c⟩:=z.tupI;exact⟨_,fW,p,b,rfl,.inr ⟨a,q _ _ (Same.refl _) (.tup a c)⟩⟩
def WX:List D->R D
 |[.lst Y]=>.ok (.lst Y)
 |[.tup Y]=>.ok (.lst Y)
 |_=>.bad
def UQ:aU X (.type "list") WX:=by
 intro H O g f Q e r q;match f,q with
 |[.lst Y],q=>obtain⟨v,rfl,z⟩:=BF r;obtain⟨p,b,rfl,c,d⟩:=z.aa5;exact⟨_,jH,p,b,rfl,.inl c,λl a=>q _ _ (j6 a _) (.lst (K8.of j3) (e l a) (d.same<|j6 a _))⟩
 |[.tup Y],q=>obtain⟨v,rfl,z⟩:=BF r;obtain⟨p,b,rfl,c,d⟩:=z.tupI;exact⟨_,jH,p,b,rfl,.inr c,λl a=>q _ _ (j6 a _) (.lst (K8.of j3) (e l a) (d.same<|j6 a _))⟩
def tyD:D->String
 |.non=> "NoneType"|.bl _=> "bool"|.int _=> "int"|.str _=> "str"|.tup _=> "tuple"|.lst _=> "list"|.dct=> "dict"
def DT (T:String)(d:D):Bool:=tyD d==T||(T== "int"&&tyD d== "bool")
def HD (T:String):Prop:=∀(K:lr) (d:D),PySem.W.kitOne K (.type (tyD d)) (.type T)=some (DT T d)
def uL:HD "tuple":=λK d=>by cases d<;>with_unfolding_all rfl
def NN:HD "list":=λK d=>by cases d<;>with_unfolding_all rfl
def SM {O:bc->Prop}(I:Inv X c σ H s)(y:HD T)(r:B5 X.K H O v d)(f:RelV v u)(q:Q (.bl (DT T d)) H):
  ai (be X.prog X.w) X.A (call (.builtin "isinstance") [u,.type T]) (EP X c σ Q) X.xe s:=by
 have e:=y X.K d;have b:∀m,EP X c σ Q (.bool (DT T d)) {s with toks:=m}:=λm=>⟨.bl _,H,I.tok _,rfl,q⟩;cases d with
 |non=>cases r.ac1;cases f;exact PySem.W.kia_one PySem.W.kitx_none I.kIn aGA e (λz=>nomatch z) b
 |bl=>cases r.blI;cases f;exact PySem.W.kia_one PySem.W.kitx_bool I.kIn aGA e (λz=>nomatch z) b
 |int=>cases r.aa6;obtain⟨t,rfl⟩:=f;exact PySem.W.kia_one PySem.W.kitx_int I.kIn aGA e (λz=>nomatch z) b
 |str=>cases r.ac4;obtain⟨t,rfl⟩:=f;exact PySem.W.kia_one PySem.W.kitx_str I.kIn aGA e (λz=>nomatch z) b
 |tup Y=>obtain⟨a,B,rfl,h,_⟩:=r.tupI;cases f;obtain⟨g,_,p,_⟩:=I.tuple h;obtain⟨o,k,l,_⟩:=p;exact PySem.W.kia_one PySem.W.kitx_tuple I.kIn ⟨o,k,l⟩ e (λz=>nomatch z) b
 |lst Y=>obtain⟨a,B,rfl,h,_⟩:=r.aa5;cases f;obtain⟨g,_,p,_⟩:=I.list h;obtain⟨o,n,k,l,_⟩:=p;exact PySem.W.kia_one PySem.W.kitx_list I.kIn ⟨o,k,l⟩ e (λz=>nomatch z) b
 |dct=>obtain⟨a,o,rfl,h,x⟩:=r.af9;cases f;exact PySem.W.kia_one PySem.W.kitx_dict I.kIn ⟨o,(I.hok _ _ h).1,x.1⟩ e (λz=>nomatch z) b
def CQ (z:HD T)(A:PB X a f)(B:dm x=some (.type T):=by decide+kernel)(C:X.mg "isinstance"=none:=by assumption)(k:X.mg x=none:=by assumption)(J:Gl X "isinstance":=by rfl)(l:Gl X x:=by rfl)(L:(x==lM)=false:=by decide)(N:x≠ "__name__":=by decide)(t:a9 [a,.Name x pt] X.env=(false,ek a X.env)::a9 [.Name x pt] X.env:=by rfl)(U:a9 [Expr.Name x pt] X.env=[(false,ek (.Name x pt) X.env)]:=by rfl)(Y:(d3 b (a9 [Expr.Name x pt] X.env)).any (·.1)=false:=by rfl):
  PD X (.Call (.Name "isinstance" p) [a,.Name x pt] [] b) (λρ=>(f ρ).bind λd=>.ok (.bl (DT T d))):=by
 refine uI λc s σ H Q I H9 O0 O ρ E q=>?_;refine aAR (J8 (u:=.builtin "isinstance") I J C (by decide+kernel) ?_);have hb:PE X (.Name x pt) (tC<|.ty T):=SR l k B rfl N L;have h:=G2 A (G2 hb Z7 (by rw[U];rfl)) t b c s σ H (λy g=>∃v d,y=[v,.ty T]/\B5 X.K g O v d/\Q (.bl (DT T d)) g) I ⟨H9,O0,O,ρ,E,by refine LW.mono (LW.seq q) λv g m=>?_;obtain⟨d,_,s1,n,h1⟩:=m;exact⟨v,d,rfl,n,h1 _ g (Same.refl _) .bl⟩⟩
 refine aBx (E9 h λus s1 m=>?_) t Y;obtain⟨y,g,I1,n,v,d,e,r,h⟩:=m;subst e;obtain⟨u,w,rfl,ru,o⟩:=vals2 n;cases o;exact SM I1 z r ru h
end
section
variable{K:lr}
def Kp.lst (k:Kp H O H' c){a:bc}{Y:List V}(n:¬O a)(h:K8 K H a Y)(e:∀o,K.lookup a=some o->¬c a):¬c a/\K8 K H' a Y:=by
 rcases h with(h|⟨o,h⟩)|h
 .exact⟨(k _ _ h n).2,.inl (.inl (k _ _ h n).1)⟩
 .exact⟨(k _ _ h n).2,.inl (.inr ⟨o,(k _ _ h n).1⟩)⟩
 .obtain⟨o,b,m,d,f⟩:=h;exact⟨e o d,.inr ⟨o,b,m,d,f⟩⟩
def Kp.tup (k:Kp H O H' c)(b:∀a,O a->∃o,H a=some o/\Mt o){a:bc}{Y:List V}(h:V1 K H a Y):V1 K H' a Y:=by
 rcases h with(h|⟨o,h⟩)|h
 .exact .inl (.inl (k _ _ h λz=>by obtain⟨o,q,m⟩:=b a z;rw[h]at q;cases q;exact m).1)
 .exact .inl (.inr ⟨o,(k _ _ h λz=>by obtain⟨o,q,m⟩:=b a z;rw[h]at q;cases q;exact m).1⟩)
 .exact .inr h
end
def aQ (K:lr)(O:bc->Prop):Prop:=∀a o,K.lookup a=some o->¬O a
def Kp.rep {K:lr}{H H':Hp}{O b:bc->Prop}(k:Kp H O H' b)(c:∀a,O a->∃o,H a=some o/\Mt o)(e:aQ K b){v:V}{d:D}(r:Rep K H O v d):Rep K H' b v d:=
 r.mono (λ_ _ h=>k.tup c h) (λa _ n h=>k.lst n h λo q=>e a o q) λa _ n h=>⟨(k a _ h n).2,(k a _ h n).1⟩
def Kp.ac0 {K:lr}{H H':Hp}{O b:bc->Prop}(k:Kp H O H' b)(c:∀a,O a->∃o,H a=some o/\Mt o)(e:aQ K b){v:List V}{d:List D}(r:Reps K H O v d):Reps K H' b v d:=
 r.mono (λ_ _ h=>k.tup c h) (λa _ n h=>k.lst n h λo q=>e a o q) λa _ n h=>⟨(k a _ h n).2,(k a _ h n).1⟩
inductive Out where
 |nx (ρ:Ev)|rt (d:D)|bk (ρ:Ev)|ct (ρ:Ev)
def RS (X:Cx)(f:Hp)(g:bc->Prop)(H:Hp)(O:bc->Prop)(r:R Out)(D:Ends):Prop:=match r with
 |.ok (.nx ρ)=>∀c a b,EnvOk X.K f g a b c ρ->aQ X.K b->Kp H O a b->D.nx c a
 |.ok (.bk ρ)=>∀c a b,EnvOk X.K f g a b c ρ->aQ X.K b->Kp H O a b->D.bk c a
 |.ok (.ct ρ)=>∀c a b,EnvOk X.K f g a b c ρ->aQ X.K b->Kp H O a b->D.ct c a
 |.ok (.rt d)=>∀v a,Same f a->Rep X.K a g v d->D.rt v a
 |.ex e=>∀a,Same f a->XW X e a
 |.bad=>False
def tS (X:Cx)(a:Hp)(b:bc->Prop)(F:Ev->R Out):TS:=λD σ H=>∃O ρ,EnvOk X.K a b H O σ ρ/\aQ X.K O/\RS X a b H O (F ρ) D
def mG (X:Cx)(st:d9)(F:Ev->R Out):Prop:=∀a b,PS X st (tS X a b F)
def aW (X:Cx)(st:List d9)(F:Ev->R Out):Prop:=∀a b,uK X st (tS X a b F)
def iq {X:Cx}{st:d9}{t t':TS}(h:PS X st t)(i:∀D σ H,t' D σ H->t D σ H):PS X st t':=λa s σ H D I q=>h a s σ H D I (i D σ H q)
def wZ {X:Cx}{st:List d9}{t t':TS}(h:uK X st t)(i:∀D σ H,t' D σ H->t D σ H):uK X st t':=λa s σ H D I q=>h a s σ H D I (i D σ H q)
def yC {X:Cx}{st:d9}{t:TS}{F:Ev->R Out}{a:Hp}{b:bc->Prop}(h:PS X st t)(i:∀D σ H O ρ,EnvOk X.K a b H O σ ρ->aQ X.K O->RS X a b H O (F ρ) D->t D σ H):PS X st (tS X a b F):=iq h λD σ H ⟨O,ρ,E,f,q⟩=>i D σ H O ρ E f q
def nk {X:Cx}{st:List d9}{t:TS}{F:Ev->R Out}{a:Hp}{b:bc->Prop}(h:uK X st t)(i:∀D σ H O ρ,EnvOk X.K a b H O σ ρ->aQ X.K O->RS X a b H O (F ρ) D->t D σ H):uK X st (tS X a b F):=wZ h λD σ H ⟨O,ρ,E,f,q⟩=>i D σ H O ρ E f q
def RS.grow {X:Cx}{g:Hp}{l:bc->Prop}{H m:Hp}{O n:bc->Prop}{r:R Out}{D:Ends}(h:RS X g l H O r D)(k:Kp H O m n):RS X g l m n r D:=by
 cases r with
 |ok o=>
  cases o with
  |nx ρ=>exactλa b c E f q=>h a b c E f (k.trans q)
  |bk ρ=>exactλa b c E f q=>h a b c E f (k.trans q)
  |ct ρ=>exactλa b c E f q=>h a b c E f (k.trans q)
  |rt d=>exact h
 |ex e=>exact h
 |bad=>exact h
def B7 (r:R Out)(F:Ev->R Out):R Out:=match r with
 |.ok (.nx ρ)=>F ρ
 |r=>r
section
variable{st:d9} {rest:List d9}
def RS.seq {a:Hp}{b:bc->Prop}{H:Hp}{O:bc->Prop}{r:R Out}{D:Ends}(h:RS X a b H O (B7 r G) D):RS X a b H O r {D with nx:=tS X a b G D}:=by
 cases r with
 |ok o=>
  cases o with
  |nx ρ=>exactλg l c E f k=>⟨c,ρ,E,f,(show RS X a b H O (G ρ) D from h).grow k⟩
  |bk ρ=>exact h
  |ct ρ=>exact h
  |rt d=>exact h
 |ex e=>exact h
 |bad=>exact h
def n6:aW X [] (λρ=>.ok (.nx ρ)):=λa b=>nk GV λD σ H O ρ E f q=>q σ H O E f (Kp.refl _ _)
def b9 (c:mG X st F)(d:aW X rest G):aW X (st::rest) (λρ=>B7 (F ρ) G):=λa b=>nk (xE (c a b)<|d a b) λD σ H O ρ E f q=>⟨O,ρ,E,f,RS.seq q⟩
def d7 (a:mG X st F):aW X [st] F:=λb c=>jB (a b c)
def j2 {e:dA}{f:Ev->R D}(c:PD X e f):mG X (.Return (some e) g) (λρ=>(f ρ).bind λd=>.ok (.rt d)):=λh k=>yC (vV c) λD σ H O ρ E l q=>⟨h,k,O,ρ,E,by
 cases a:f ρ with
 |ok d=>rw[a]at q;exactλv b s r=>q v b (E.same.trans s) (r.sub E.sub)
 |ex x=>rw[a]at q;exactλb s=>q b (E.same.trans s)
 |bad=>rw[a]at q;exact q⟩
def i9 (i:Nat){x:Str}{e:dA}{f:Ev->R D}{a:Pos}(h:PD X e f)(k:X.N.Nodup)(l:X.N[i]?=some x:=by rfl)(m:Loc X.env.scope x:=by first|exact aCy rfl|exact aBP rfl)
  (n:fh e (some (.Name x a)) b.line X.env=pure false:=by rfl) (o:X.fn x=true\/X.env.scope.names.lookup x=some .local:=by first|exact .inl rfl|exact .inr rfl|assumption):
  mG X (.Assign [.Name x a] e b) (λρ=>(f ρ).bind λd=>.ok (.nx (ρ.set i (.v d)))):=λp t=>yC (MC k l m h n o) λD σ H O ρ E u q=>⟨p,t,O,ρ,E,by
 cases c:f ρ with
 |ok d=>rw[c]at q;exactλv g s r=>q _ g O ((E.grow s).set i r) u (Kp.of s)
 |ex x=>rw[c]at q;exactλg s=>q g (E.same.trans s)
 |bad=>rw[c]at q;exact q⟩
def A5 {c:dA}{a b:List d9}{d:Ev->R Bool}(l:AZ X c d)(m:aW X a F)(n:aW X b G):mG X (.If c a b o) (λρ=>(d ρ).bind λt=>if t=true then F ρ else G ρ):=λe f=>yC (WW l (m e f)<|n e f) λD σ H O ρ E h q=>⟨e,f,O,ρ,E,by
 cases g:d ρ with
 |ok t=>
  rw[g]at q;intro k s;cases t with
  |true=>rw[kd rfl];exact⟨O,ρ,E.grow s,h,RS.grow q (Kp.of s)⟩
  |false=>rw[kz aAQ];exact⟨O,ρ,E.grow s,h,RS.grow q (Kp.of s)⟩
 |ex x=>rw[g]at q;exactλk s=>q k (E.same.trans s)
 |bad=>rw[g]at q;exact q⟩
def YQ (K:lr)(J:It)(H:Hp)(O:bc->Prop)(ds:List D):Prop:=∀b c,Kp H O b c->aQ K c->(∀a,O a->∃o,H a=some o/\Mt o)->(∀a,c a->∃o,b a=some o/\Mt o)->∀i:Nat,
 (∀d,ds[i]?=some d->J.go i b/\∀x e,J.yld i b x e->Same b e/\Rep K e c x d)/\(ds[i]?=none->J.stop i b)
def tI (X:Cx)(f:Ev->R (List D)):TI:=λσ H R=>∃b c O ρ,EnvOk X.K b c H O σ ρ/\aQ X.K O/\match f ρ with
 |.ok d=>∀J a,Same H a->YQ X.K J a O d->R J a
 |.ex e=>∀a,Same H a->XW X e a
 |.bad=>False
def WO (X:Cx)(a iter:dA)(f:Ev->R (List D)):Prop:=PI X a iter (tI X f)
def MR (h:PI X b iter t)(i:∀σ H R,t' σ H R->t σ H R):PI X b iter t':=λa s σ H R I q=>h a s σ H R I (i σ H R q)
def M6:D->R (List D)
 |.lst Y=>.ok Y
 |_=>.bad
def EZ:D->R (List D)
 |.tup Y=>.ok Y
 |_=>.bad
def p8 (h:PD X iter f):WO X C iter (λρ=>(f ρ).bind M6):=MR (EY h) λσ H R ⟨m,p,O,ρ,E,I,q⟩=>⟨m,p,O,ρ,E,by
 dsimp only at q;cases e:f ρ with
 |ok d=>
  rw[e]at q;cases d with
  |lst Y=>
   intro v t s r;cases r with
   |lst h n r=>
    rename_i a b;refine⟨a,rfl,⟨b,h⟩,q (Itl X.K a) t s ?_⟩;intro J L k g u w i;obtain⟨N,c⟩:=k.lst n h λo q=>g a o q;have y:=k.ac0 u g r;refine⟨λd e=>?_,λe=>⟨b,c,by rw[r.length];exact aBS.mp e⟩⟩;obtain⟨v,l,z⟩:=y.get e;exact⟨⟨b,v,c,l⟩,by rintro x Q ⟨A,B⟩;subst A;have:=B b c;rw[l]at this;cases this;exact⟨Same.refl _,z⟩⟩
  |_=>exact aAi q
 |ex x=>rw[e]at q;exact q
 |bad=>rw[e]at q;exact q⟩
def nD (h:PD X iter f):WO X A iter (λρ=>(f ρ).bind EZ):=MR (fj h) λσ H R ⟨m,n,O,ρ,E,B,q⟩=>⟨m,n,O,ρ,E,by
 dsimp only at q;cases e:f ρ with
 |ok d=>
  rw[e]at q;cases d with
  |tup Y=>
   intro v o s r;cases r with
   |tup h r=>
    rename_i a b;refine⟨a,rfl,⟨b,h⟩,q (Itt X.K a) o s ?_⟩;intro C I k p g t i;have c:=k.tup g h;have u:=k.ac0 g p r;refine⟨λd e=>?_,λe=>⟨b,c,by rw[r.length];exact aBS.mp e⟩⟩;obtain⟨v,l,w⟩:=u.get e;exact⟨⟨b,v,c,l⟩,by rintro x J ⟨y,z⟩;subst y;have:=z b c;rw[l]at this;cases this;exact⟨Same.refl _,w⟩⟩
  |_=>exact aAi q
 |ex x=>rw[e]at q;exact q
 |bad=>rw[e]at q;exact q⟩
def gq (lo c:Int)(n:Nat):It:=⟨λi _=>i<n,λi H x a=>a=H/\x=.int (lo+i*c),λi _=>n<=i⟩
def AH {P:cp}{w:cy}{K:lr}{L:dA}(it:bc)(lo c:Int)(n:Nat):Turn P w K L (gq lo c n) [it] it (λi h=>IsRangeIter h it (lo+(i:Nat)*c) ((n:Int)-(i:Nat)) c)where
 mem:=by simp
 obj:=λi h st b d=>by
  have e:b=it:=by simpa using d
  subst e;exact⟨_,st,λv z=>by have N:Data.fields _=Data.cell v:=z;cases N⟩
 keep:=λi h g st k=>k it (by simp) _ st
 item:=by intro X m p q r i a s σ H E I l st u;subst m p q;obtain⟨x,y,O,A,B,C⟩:=l it (by simp);have W:=Walks.range (prog:=X.prog) (w:=X.w) (I.ok.hd r) it lo c n;refine W.item i s _ _ u st λv g J Q f kk=>?_;obtain⟨t,rfl⟩:=Q;have T:Inv X a σ H {s with heap:=g,toks:=J}:=I.turned (λb o d e=>kk b o (by simpa using d) e) x y A B C;exact⟨_,rfl,OO (s:={s with heap:=g,toks:=J}) (n:= "range_iterator") f rfl rfl (by decide) ⟨.int (lo+i*c),H,T,⟨t,rfl⟩,⟨rfl,rfl⟩,f,λb d=>(l b d).1⟩⟩
 done:=by intro X m p q r i a s σ H E I l st u;subst m p q;obtain⟨x,y,O,A,B,C⟩:=l it (by simp);exact wpAny_pyNext_range_end (I.ok.hd r) st (by have:n<=i:=u;lia) λg U=>⟨rfl,I.turned (t':=s.toks) (λb o d e=>U b o d e) x y A B C⟩
 self:=λ_ _ _ _ _ st h=>wpAny_pyIter_rangeiter st h
def uT (lo c:Int)(n:Nat):List D:=(aBF n).map λ(k:Nat)=>D.int (lo+(k:Int)*c)
def kI (K:lr)(H:Hp)(O:bc->Prop)(lo c:Int)(n:Nat):YQ K (gq lo c n) H O (uT lo c n):=by
 intro h l k m o b i;unfold uT;rw[aAG];by_cases a:i<n
 .rw[List.getElem?_range a];refine⟨λd e=>?_,λe=>(by cases e)⟩;cases e;exact⟨a,by rintro x p ⟨f,g⟩;subst f g;exact⟨Same.refl _,.int⟩⟩
 .rw[aBS.mpr (by simpa using a)];exact⟨λd e=>(by cases e),λ_=>aEv a⟩
def gD (a b c:Int):Nat:=if a<b then((b-a-1)/c+1).toNat else 0
def JK (d:0<c):aCz a b c=(gD a b c:Int):=by
 unfold aCz gD;rw[kd (by lia)];split
 .have:0<=(b-a-1)/c:=Int.ediv_nonneg (by lia) (by lia)
  lia
 .rfl
def KH (l:0<c)(m:c<2^30)(n:-(2^60)<=a)(k:a<2^60)(o:-(2^60)<=b)(p:b<2^60):aGo a b c=true:=by
 unfold aGo;have e:aCz a b c=if a<b then(b-a-1)/c+1 else 0:=by unfold aCz;rw[kd (by lia)]
 rw[e];have d:a<b->(b-a-1)/c<=b-a-1:=λh=>Int.ediv_le_self _ (by lia);have f:a<b->0<=(b-a-1)/c:=λh=>Int.ediv_nonneg (by lia) (by lia);have g:a<b->(b-a-1)/c*c<=b-a-1:=λh=>Int.ediv_mul_le _ (by lia);simp only[Builtin.Range.rangeFitsLong,aAH,Bool.or_eq_true,decide_eq_true_eq,beq_iff_eq,show c>0 by lia,if_true];split
 .rename_i h;have d:=d h;have f:=f h;have g:=g h;generalize(b-a-1)/c=q at*
  lia
 .lia
def nG (a b c:Int):Prop:=0<c/\c<2^30/\-(2^60)<=a/\a<2^60/\-(2^60)<=b/\b<2^60
instance(a b c:Int):Decidable (nG a b c):=inferInstanceAs (Decidable<|_/\_)
def cM:List D->R (List D)
 |[.int b]=>if nG 0 b 1 then .ok (uT 0 1 (gD 0 b 1))else .bad
 |[.int a,.int b]=>if nG a b 1 then .ok (uT a 1 (gD a b 1))else .bad
 |[.int a,.int b,.int c]=>if nG a b c then .ok (uT a c (gD a b c))else .bad
 |_=>.bad
def lG {R:It->Hp->Prop}{E:B4}(I:Inv X d σ H s)(h:nG a b c)(q:R (gq a c (gD a b c)) H):ai (be X.prog X.w) X.A (pyIter (.ref s.heap.objs.size)) (PIE X d σ B R) E {s with heap:=s.heap.push {cls:=.type "range",data:=.fields #[.int a t,.int b u,.int c v]},toks:=tk}:=by
 obtain⟨g,k,l,m,n,p⟩:=h;refine wpAny_pyIter_range (IsRange.new ..) (KH g k l m n p) ?_;have f:Inv X d σ H {s with heap:=s.heap.push {cls:=.type "range",data:=.fields #[.int a t,.int b u,.int c v]},toks:=tk}:=I.kept λb o e=>aAc _ e;refine⟨(s.heap.push {cls:=.type "range",data:=.fields #[.int a t,.int b u,.int c v]}).objs.size,[(s.heap.push {cls:=.type "range",data:=.fields #[.int a t,.int b u,.int c v]}).objs.size],_,_,H,rfl,
  f.kept (t':=tk) λb o e=>aAc _ e,AH _ a c (gD a b c),?_,λr x=>?_,q⟩
 .have y:a+((0:Nat):Int)*c=a:=by simp
  have z:((gD a b c:Nat):Int)-((0:Nat):Int)=aCz a b c:=by rw[JK g];simp
  show IsRangeIter _ _ (a+((0:Nat):Int)*c) (((gD a b c:Nat):Int)-((0:Nat):Int)) c;rw[y,z];exact aAq _ rfl
 .have e:r=(s.heap.push {cls:=.type "range",data:=.fields #[.int a t,.int b u,.int c v]}).objs.size:=by simpa using x
  subst e;exact f.ae8 (aAh _) (f.hok.fresh<|aAh _)
def RK {R:It->Hp->Prop}{O:bc->Prop}(I:Inv X e σ H s)(r:Paired (B5 X.K H O) vs ds)(f:l7 vs k)(h:cM ds=.ok l)(q:∀J,YQ X.K J H O l->R J H):ai (be X.prog X.w) X.A (call (.type "range") k) (λv m=>ai (be X.prog X.w) X.A (pyIter v) (PIE X e σ C R) X.xe m) X.xe s:=by
 match ds,h with
 |[.int b],h=>
  obtain⟨v,rfl,z⟩:=BF r;cases z.aa6;obtain⟨u,rfl,t,rfl⟩:=vals1 f;simp only[cM]at h;split at h
  .rename_i d;cases h;exact call_range_1 (lG I d<|q _<|kI _ _ _ _ _ _)
  .cases h
 |[.int a,.int b],h=>
  obtain⟨v,n,rfl,z,g⟩:=pr2 r;cases z.aa6;cases g.aa6;obtain⟨u,o,rfl,⟨t,rfl⟩,⟨p,rfl⟩⟩:=vals2 f;simp only[cM]at h;split at h
  .rename_i d;cases h;exact call_range_2 (lG I d<|q _<|kI _ _ _ _ _ _)
  .cases h
 |[.int a,.int b,.int c],h=>
  cases r with
  |cons x r=>
   obtain⟨v,n,rfl,z,g⟩:=pr2 r;cases x.aa6;cases z.aa6;cases g.aa6;cases f with
   |cons y f=>
    obtain⟨u,o,rfl,⟨t,rfl⟩,⟨p,rfl⟩⟩:=vals2 f;obtain⟨E,rfl⟩:=y;simp only[cM]at h;split at h
    .rename_i d;cases h;have B:=d;obtain⟨L,N,_⟩:=B;exact call_range_3 (by lia) (lG (tk:=s.toks) I d<|q _<|kI _ _ _ _ _ _) (.inl (PyProof.noPylong_small (by lia)))
    .cases h
def O5 {v e:dA}{es:List dA}{p:Pos}{f:Ev->R (List D)}(w:aw X (e::es) f)(y:Gl X "range":=by rfl)(z:X.mg "range"=none:=by assumption)
  (A:a9 (e::es) X.env=(false,ek e X.env)::a9 es X.env:=by rfl) (B:(d3 k (a9 es X.env)).any (·.1)=false:=by rfl):
  WO X v (.Call (.Name "range" p) (e::es) [] k) (λρ=>(f ρ).bind cM):=by
 rintro l s σ H Q I ⟨C,L,O,ρ,E,fk,q⟩;dsimp only at q;refine Call_ (J8 I y z boot_range<|aBk (E9 (w k l s σ H (λn g=>∃h m,Same H g/\Paired (B5 X.K g O) n h/\cM h=.ok m/\∀J,YQ X.K J g O m->Q J g) I ⟨C,L,O,ρ,E,?_⟩) λus o N=>?_) A B)
 .cases t:f ρ with
  |ok h=>
   rw[t]at q;intro n g o u;rw[R.aa0]at q;cases d:cM h with
   |ok m=>rw[d]at q;exact⟨h,m,o,u,d,λJ T=>q J g o T⟩
   |ex x=>
    rw[d]at q;match h,d with
    |[.int b],d=>simp only[cM]at d;split at d<;>cases d
    |[.int a,.int b],d=>simp only[cM]at d;split at d<;>cases d
    |[.int a,.int b,.int c],d=>simp only[cM]at d;split at d<;>cases d
   |bad=>rw[d]at q;exact q.elim
  |ex x=>rw[t]at q;exact q
  |bad=>rw[t]at q;exact q
 .obtain⟨n,g,U,u,h,m,sm,r,Y,h2⟩:=N;exact RK U r u Y h2
def tG (X:Cx)(G:D->Ev->R Ev):TG:=λv σ H Q=>∃b c O ρ d e,EnvOk X.K b c H O σ ρ/\Rep X.K H O v d/\G d ρ=.ok e/\∀f a,Same H a->EnvOk X.K b c a O f e->Q f a
def MU (X:Cx)(a:dA)(G:D->Ev->R Ev):Prop:=PG X a (tG X G)
def YA (h:PG X b t)(i:∀v σ H Q,t' v σ H Q->t v σ H Q):PG X b t':=λa s σ H v u Q I r q=>h a s σ H v u Q I r (i v σ H Q q)
def l4 (i:Nat)(a:X.N.Nodup)(b:X.N[i]?=some x:=by rfl)(c:Loc X.env.scope x:=by first|exact aCy rfl|exact aBP rfl)(f:X.fn x=true\/X.env.scope.names.lookup x=some .local:=by first|exact .inl rfl|exact .inr rfl|assumption):
  MU X (.Name x g) (λd ρ=>.ok (ρ.set i (.v d))):=YA (FP a b c f)<|by
 rintro v σ H Q ⟨h,k,O,ρ,d,l,E,r,e,q⟩;cases e;exact q _ H (Same.refl _) (E.set i r)
def tGs (X:Cx)(G:List D->Ev->R Ev):ak:=λg σ H Q=>∃b c O ρ d e,EnvOk X.K b c H O σ ρ/\Reps X.K H O g d/\G d ρ=.ok e/\∀f a,Same H a->EnvOk X.K b c a O f e->Q f a
def TR (X:Cx)(a:List dA)(G:List D->Ev->R Ev):Prop:=jy X a (tGs X G)
def GN {b:List dA}{t t':ak}(h:jy X b t)(i:∀v σ H Q,t' v σ H Q->t v σ H Q):jy X b t':=λa s σ H v u Q I r q=>h a s σ H v u Q I r (i v σ H Q q)
def pI:List D->Ev->R Ev
 |[],ρ=>.ok ρ
 |_,_=>.bad
def eI (G:D->Ev->R Ev)(a:List D->Ev->R Ev):List D->Ev->R Ev
 |d::b,ρ=>(G d ρ).bind λc=>a b c
 |_,_=>.bad
def eM:TR X [] pI:=GN VL<|by
 rintro a σ H Q ⟨b,c,O,ρ,d,f,E,r,e,q⟩;cases r with
 |nil=>cases e;exact⟨rfl,q σ H (Same.refl _) E⟩
 |cons _ _=>cases e
def A9 {e:dA}{es:List dA}{G:D->Ev->R Ev}{c:List D->Ev->R Ev}(m:MU X e G)(n:TR X es c)
  (o:(eR (e::es) X.env).map (·.2)=ik e X.env::(eR es X.env).map (·.2):=by rfl):TR X (e::es) (eI G c):=GN (MQ m n o)<|by
 rintro f σ H Q ⟨g,h,O,ρ,k,p,E,r,e,q⟩;cases r with
 |nil=>cases e
 |@cons v d f k r s=>
  simp only[eI]at e;cases b:G d ρ with
  |ok a=>rw[b]at e;exact⟨v,f,rfl,g,h,O,ρ,d,a,E,r,b,λt B l u=>⟨g,h,O,a,k,p,u,s.same l,e,λw y z A=>q w y (l.trans z) A⟩⟩
  |ex x=>rw[b]at e;cases e
  |bad=>rw[b]at e;cases e
def jD (n:Nat)(b:List D->Ev->R Ev):D->Ev->R Ev
 |.tup a,ρ=>if a.length=n then b a ρ else .bad
 |.lst a,ρ=>if a.length=n then b a ρ else .bad
 |_,_=>.bad
end
section
theorem tQ (e:t≠it):∀(n i:Nat) (s:bb) (Q:List af->bb->Prop),s.heap.IsListIter it t i->s.heap.IsList t items->i+n<=items.size->
  (∀h',h'.IsListIter it t (i+n)->Heap.SameBut it s.heap h'->Q ((items.toList.drop i).take n) {s with heap:=h'})->ai (be prog w) A (draw (.ref it) n) Q E s
 |0,i,s,Q,a,_,_,d=>by show ai _ _ (pure []) Q E s;exact aAb (by simpa using d s.heap a (aGB ..))
 |n+1,i,s,Q,a,f,l,d=>by
  have g:i<items.size:=by omega
  show ai _ _ (fT (.ref it)>>=_) Q E s;refine aAa (wpAny_pyNext_list_item a f (x:=items[i]) (by simp[g]) λh b k=>?_);refine aAa (aAK (tQ e n (i+1) _ _ b (f.extBut k.extBut e) (by omega) λm c o=>aAb ?_));have p:items.toList.drop i=items[i]::items.toList.drop (i+1):=by simp[aCo,g]
  have:=d m (by rw[show i+(n+1)=i+1+n by omega];exact c) (k.trans o);rw[p,List.take_succ_cons]at this;exact this
def lA {Q:List af->bb->Prop}(p:A.handled=none)(f:s.heap.IsList t items)(q:∀h',Heap.ExtBut s.heap.objs.size s.heap h'->Q items.toList {s with heap:=h'}):ai (be prog w) A (unpackItems (.ref t) items.size none) Q E s:=by
 have l:t≠s.heap.objs.size:=by obtain⟨o,g,_⟩:=f;exact aAm (aAf g)
 unfold unpackItems;refine aAa ?_
 .unfold notIterableAtAll;refine aAa (aBC f.typeIs slot_list_iter.lookup ?_);refine aAb ?_;simp only[aAt,if_false];refine aAa (aAK<|aDE f ?_);have a:(s.heap.push {cls:=.type "list_iterator",data:=.fields #[.ref t,.int 0 0]}).IsList t items:=by obtain⟨o,g,r⟩:=f;exact⟨o,aAc _ g,r⟩
  refine aAa (aAK (tQ l items.size 0 _ _ ⟨_,aAq _ rfl,rfl,rfl⟩ a (by omega) λc d m=>?_));have u:List.take items.size (List.drop 0 items.toList)=items.toList:=by rw[aEj];exact aEg (by simp)
  rw[u];rw[kz (by simp)];have h:c.IsList t items:=a.extBut m.extBut l;refine aAa (aAK (wpAny_pyNext_list_end p d h (by simp) λv k=>?_));simp only[Option.isSome_none,aAt,if_false];refine aAb (q v λb o n e=>k b o n (m.extBut b o n<|aAc _ e))
def jL {c}{Q:Unit->bb->Prop}(d:A.handled=none)(e:s.heap.IsList t items)(f:(eR a env).length=items.size)(b:(eR a env).findIdx? (·.1)=none)(h:∀h',Heap.ExtBut s.heap.objs.size s.heap h'->ai (be prog w) A (assignInOrder ((eR a env).map (·.2)) items.toList) Q E {s with heap:=h'}):
  ai (be prog w) A (ik (.Tuple a c g) env (.ref t)) Q E s:=by
 rw[assign_Tuple];refine aAa (aEB ?_);unfold unpack;rw[f,b];exact aAa (aAK<|lA d e h)
end
section
def iW (B:X.calm=true)(h:TR X es U)(C:(eR es X.env).length=n:=by rfl)(J:(eR es X.env).findIdx? (·.1)=none:=by rfl):MU X (.Tuple es k Y) (jD n U):=by
 rintro c s σ H v u Q I r ⟨L,N,O,ρ,d,T,E,rd,e,q⟩;cases rd with
 |@tup a l m p f=>
  cases r;simp only[jD]at e;split at e
  .rename_i t;obtain⟨w,g,x,hz⟩:=I.tuple p;refine assign_Tuple_tuple (I.ok.hd B) x (by simp[C,<-t,<-f.length,g.length]) J λy z=>?_;have A:Inv X c σ H {s with heap:=y}:=I.kept (t':=s.toks) λb o e=>z b o (aAm<|aAf e) e;exact h c _ σ H l _ Q A (by simpa using g) ⟨L,N,O,ρ,m,T,E,f,e,q⟩
  .cases e
 |@lst a l m p _ f=>
  cases r;simp only[jD]at e;split at e
  .rename_i t;obtain⟨w,g,x,hz⟩:=I.list p;refine jL (I.ok.hd B) x.isList (by simp[C,<-t,<-f.length,g.length]) J λy z=>?_;have A:Inv X c σ H {s with heap:=y}:=I.kept (t':=s.toks) λb o e=>z b o (aAm<|aAf e) e;exact h c _ σ H l _ Q A (by simpa using g) ⟨L,N,O,ρ,m,T,E,f,e,q⟩
  .cases e
 |_=>cases e
def IF (f:Ev->R D)(G:D->Ev->R Ev):Ev->R Out:=λρ=>(f ρ).bind λd=>match G d ρ with
 |.ok a=>.ok (.nx a)
 |_=>.bad
def vF (m:PD X e f)(n:MU X a G)(o:hV [a] e c.line X.env=pure false:=by rfl)(p:h9 [a] e X.env=pure none:=by rfl)(t:(eR [a] X.env).map (·.2)=[ik a X.env]:=by rfl):mG X (.Assign [a] e c) (IF f G):=λh k=>yC (CJ m n o p t) λD σ H O ρ E u q=>⟨h,k,O,ρ,E,by
 unfold IF at q;cases g:f ρ with
 |ok d=>
  rw[g,R.aa0]at q;intro v l s r;cases b:G d ρ with
  |ok w=>rw[b]at q;exact⟨h,k,O,ρ,d,w,E.grow s,r,b,λy z A B=>q y z O B u (Kp.of<|s.trans A)⟩
  |ex x=>rw[b]at q;exact aAi q
  |bad=>rw[b]at q;exact aAi q
 |ex x=>rw[g]at q;exactλl s=>q l (E.same.trans s)
 |bad=>rw[g]at q;exact q⟩
def NY (i j:Nat){c e BP}(n:X.calm=true)(o:X.N.Nodup)(p:HN X [a,b] f)(t:X.N[i]?=some x:=by rfl)(u:X.N[j]?=some y:=by rfl)(w:i≠j:=by decide)(z:X.env.scope.names.lookup x=some .local:=by rfl)(A:X.env.scope.names.lookup y=some .local:=by rfl)(B:h9 [.Tuple [.Name x l,.Name y m] c pt] (.Tuple [a,b] e BP) X.env=pure (some [x,y]):=by rfl)(C:hV [.Tuple [.Name x l,.Name y m] c pt] (.Tuple [a,b] e BP) g.line X.env=pure false:=by rfl):
  mG X (.Assign [.Tuple [.Name x l,.Name y m] c pt] (.Tuple [a,b] e BP) g) (λρ=>(f ρ).bind λds=>match ds with
   |[d,d']=>.ok (.nx ((ρ.set i (.v d)).set j (.v d')))
   |_=>.bad):=λI J=>yC (ZA n o t u w z A p B C) λD σ H O ρ E L q=>⟨I,J,O,ρ,E,by
 cases h:f ρ with
 |ok ds=>
  rw[h,R.aa0]at q;intro U k s r;cases r with
  |nil=>exact aAi q
  |cons Q r=>
   cases r with
   |nil=>exact aAi q
   |cons T r=>
    cases r with
    |nil=>exact⟨_,_,rfl,q _ k O (((E.grow s).set i Q).set j T) L (Kp.of s)⟩
    |cons _ _=>exact aAi q
 |ex x=>rw[h]at q;exactλk s=>q k (E.same.trans s)
 |bad=>rw[h]at q;exact q⟩
def F6 (G:D->Ev->R Ev)(F:Ev->R Out):List D->Ev->R Out
 |[],ρ=>.ok (.nx ρ)
 |d::c,ρ=>match G d ρ with
  |.ok b=>match F b with
   |.ok (.nx a)=>F6 G F c a
   |.ok (.ct a)=>F6 G F c a
   |.ok (.bk a)=>.ok (.nx a)
   |r=>r
  |_=>.bad
def B9 (hp:PassesOwn (be X.prog X.w) X.A X.env X.xe)(hc:X.calm=true)(hi:WO X tg iter f)(hg:MU X tg G)(hb:aW X body F)(hs:∀x,fo iter X.env x=pure x:=by intro _;rfl):mG X (.For tg iter body [] pos) (λρ=>(f ρ).bind λds=>F6 G F ds ρ):=λh k=>yC (MA hp hc hi hg (hb h k) hs) λD σ H O ρ E fk q=>⟨h,k,O,ρ,E,fk,by
 cases Q:f ρ with
 |ex x=>rw[Q]at q;exactλg s=>q g (E.same.trans s)
 |bad=>rw[Q]at q;exact q
 |ok ds=>
  rw[Q,R.aa0]at q;intro J H1 T hJ;refine⟨λi m U g=>m=ds.length-i/\i<=ds.length/\∃c v,EnvOk X.K h k g c U v/\aQ X.K c/\Kp H1 O g c/\RS X h k g c (F6 G F (ds.drop i) v) D,⟨ds.length,by simp,aBb _,O,ρ,E.grow T,fk,Kp.refl _ _,?_⟩,?_⟩
  .rw[aEj];exact q.grow (Kp.of T)
  .rintro i m U g ⟨rfl,hi,c,v,Y,l,k',a⟩;have z:=hJ g c k' l (E.grow T).trk Y.trk i;by_cases ar:i<ds.length
   .obtain⟨go,yl⟩:=z.1 ds[i] (aAg ar);refine .inr ⟨go,λum u=>∃L b,EnvOk X.K h k u L um b/\aQ X.K L/\Kp H1 O u L/\RS X h k u L (F6 G F (ds.drop<|i+1) b) D,λum u p=>⟨ds.length-(i+1),by omega,rfl,ar,p⟩,λx u y=>?_⟩;obtain⟨s2,r2⟩:=yl x u y;rw[aCo ar,F6]at a;cases N:G ds[i] v with
    |ex x=>rw[N]at a;exact(show False from a).elim
    |bad=>rw[N]at a;exact(show False from a).elim
    |ok n=>
     rw[N]at a;dsimp only at a;refine⟨h,k,c,v,ds[i],n,Y.grow s2,r2,N,λsi H3 s3 E3=>⟨c,n,E3,l,?_⟩⟩;have kk:Kp g c H3 c:=Kp.of (s2.trans s3);cases e3:F n with
     |ex x=>rw[e3]at a;exact a
     |bad=>rw[e3]at a;exact a
     |ok o=>
      rw[e3]at a;cases o with
      |nx b=>exactλr H4 B C I t=>⟨B,b,C,I,k'.trans (kk.trans t),RS.grow a (kk.trans t)⟩
      |ct b=>exactλr H4 B C I t=>⟨B,b,C,I,k'.trans (kk.trans t),RS.grow a (kk.trans t)⟩
      |bk b=>exactλr H4 B C I t=>a r H4 B C I (kk.trans t)
      |rt d=>exact a
   .have e:i=ds.length:=by omega
    subst e;rw[aDO,F6]at a;exact .inl ⟨z.2 (by simp),a U g c Y l (Kp.refl _ _)⟩⟩
def S4 (c:Ev->R Bool)(F:Ev->R Out):Nat->Ev->R Out
 |0,_=>.bad
 |n+1,ρ=>(c ρ).bind λb=>if b=true then(match F ρ with
  |.ok (.nx a)=>S4 c F n a
  |.ok (.ct a)=>S4 c F n a
  |.ok (.bk a)=>.ok (.nx a)
  |r=>r)else .ok (.nx ρ)
def fG (n:Ev->Nat)(hp:PassesOwn (be X.prog X.w) X.A X.env X.xe)(hc:AZ X c B)(hb:aW X body F):mG X (.While c body [] pos) (λρ=>S4 B F (n ρ) ρ):=λk l=>yC (LS hp hc<|hb k l) λD σ H O ρ E fk q=>by
 refine⟨λm L C=>∃e g,EnvOk X.K k l C e L g/\aQ X.K e/\RS X k l C e (S4 B F m g) D,⟨n ρ,O,ρ,E,fk,q⟩,?_⟩;rintro m L C ⟨e,g,I,s,a⟩;cases m with
 |zero=>exact(show False from a).elim
 |succ m=>
  rw[S4]at a;refine⟨k,l,e,g,I,?_⟩;cases N:B g with
  |ex x=>rw[N]at a;exactλJ r=>a J (I.same.trans r)
  |bad=>rw[N]at a;exact a
  |ok b=>
   rw[N,R.aa0]at a;intro J r;cases b with
   |false=>rw[kz aAQ]at a⊢;exact a L J e (I.grow r) s (Kp.of r)
   |true=>
    rw[kd rfl]at a⊢;refine⟨λsi Q=>∃T t,EnvOk X.K k l Q T si t/\aQ X.K T/\RS X k l Q T (S4 B F m t) D,λsi Q p=>⟨m,aDj m,p⟩,e,g,I.grow r,s,?_⟩;have kk:Kp C e J e:=Kp.of r;cases U:F g with
    |ex x=>rw[U]at a;exact a
    |bad=>rw[U]at a;exact a
    |ok o=>
     rw[U]at a;cases o with
     |nx f=>exactλh Y u v y z=>⟨u,f,v,y,RS.grow a (kk.trans z)⟩
     |ct f=>exactλh Y u v y z=>⟨u,f,v,y,RS.grow a (kk.trans z)⟩
     |bk f=>exactλh Y u v y z=>a h Y u v y (kk.trans z)
     |rt d=>exact a
end
def jz (K:lr)(n:Nat)(m:List D->R D):Sp:=λe H Q _=>∃O b d,Reps K H O e b/\b.length=n/\(∀a,O a->∃o,H a=some o/\Mt o)/\Tb H/\aQ K O/\m b=.ok d/\∀v c,Same H c->Rep K c O v d->Q v c
def j4 (N:List Str)(ds:List D):Ev:=ds.map Sl.v++aCP (N.length-ds.length) Sl.no
def K3:R Out->R D
 |.ok (.rt d)=>.ok d
 |.ok (.nx _)=>.ok .non
 |.ex e=>.ex e
 |_=>.bad
def lI {K:lr}{H:Hp}{O:bc->Prop}{N:List Str}{vs:List V}{ds:List D}(r:Reps K H O vs ds)(t:∀a,O a->∃o,H a=some o/\Mt o)(tb:Tb H):EnvOk K H O H O (start N vs) (j4 N ds)where
 len:=by simp[L2.start,j4,r.length]
 same:=Same.refl H
 sub:=λ_ h=>h
 trk:=t
 trk0:=λa h=>let⟨o,q,_⟩:=t a h;⟨o,q⟩
 tab:=tb
 slot:=λi f h=>by
  unfold j4 at h;unfold L2.start;by_cases b:i<ds.length
  .rw[aAX (by simpa using b),aAG]at h;cases e:ds[i]? with
   |none=>rw[e]at h;cases h
   |some c=>rw[e]at h;have d:Sl.v c=f:=aAn h;subst d;obtain⟨v,g,k⟩:=r.get e;exact⟨v,by rw[aAX (by rw[aAj,r.length];exact b),aAG,g];rfl,k⟩
  .rw[aAB (by simpa using b),aBz]at h;split at h
   .cases h;trivial
   .cases h
 inj:=λi j x y a h _ o=>by
  unfold j4 at h;by_cases b:i<ds.length
  .rw[aAX (by simpa using b),aAG]at h;cases e:ds[i]? with
   |none=>rw[e]at h;cases h
   |some c=>rw[e]at h;have d:Sl.v c=x:=aAn h;subst d;exact o.elim
  .rw[aAB (by simpa using b),aBz]at h;split at h
   .cases h;exact o.elim
   .cases h
section
variable{K:lr}
abbrev RN (P:cp)(w:cy)(K:lr)(mg:cH)(base:df)(N:List Str)(qual:Str)(sc:kb)(f:bc)(L:af)(A:cv)(a:List Env)(s:bb)(H:Hp)(E:XK):Cx:=(EA sZ P w K mg base N qual sc f L A a s H E).nox
def fnD {x qual:Str}{st:d9}{f:bc}{fd:eQ}{N ps:List Str}{k:Nat}{m:List D->R D}{F:Ev->R Out}(l:Fun K x qual st f fd)(S:FnScope N ps (c6 st))
  (n:∀(L:af) (A:cv) (a:List Env) (s:bb) (H:Hp) (E:XK),Room k (A.deeper (envOfC qual (c6 st) s.heap.objs.size f L))->aW (RN P w K mg base N qual (c6 st) f L A a s H E) (p6 st) F)
  (p:∀ds d,ds.length=ps.length->m ds=.ok d->K3 (F (j4 N ds))=.ok d):FnOk P w K mg base sZ (k+1) f fd ps (jz K ps.length m):=by
 refine l.ok S (by rintro t H Q E ⟨O,ds,d,r,c,_⟩;rw[r.length];exact c) (λL A a s H t Q E u v=>?_);obtain⟨O,ds,d,r,c,y,z,B,e,q⟩:=v;refine⟨_,n L A a s H E u H O,O,_,lI r y z,B,?_⟩;have h:=p ds d c e;cases g:F (j4 N ds)with
 |ok o=>
  rw[g]at h;cases o with
  |rt C=>have b:R.ok C=R.ok d:=h;injection b with b;subst b;exact q
  |nx ρ=>have b:R.ok D.non=R.ok d:=h;injection b with b;subst b;exactλT I U J _ _=>q .non I J.same .non
  |bk ρ=>cases h
  |ct ρ=>cases h
 |ex x=>rw[g]at h;cases h
 |bad=>rw[g]at h;cases h
end
section
def qU (I:Inv X b σ H s)(O:bc->Prop)(t:∀a,O a->∃o,H a=some o/\Mt o):aQ X.K O:=λa o c z=>by obtain⟨u,h,_⟩:=t a z;have:=(I.bs a o<|I.ok.mod.kin a o c).2;rw[h]at this;cases this
def UA (F:FnOk X.prog X.w X.K X.mg X.base sZ k g r ps (jz X.K n m))(t:Room k X.A)(u:X.mg x=some (.ref g))(y:PySem.W.keepIn X.K (.ref g)=true)(B:Binds X.K r ps [])(C:HN X (e::es) f)(J:∀ρ ds,f ρ=.ok ds->ds.length=n)(L:Gl X x:=by rfl)(N:(x==lM)=false:=by decide)(T:a9 (e::es) X.env=(false,ek e X.env)::a9 es X.env:=by rfl)(U:(d3 h (a9 es X.env)).any (·.1)=false:=by rfl):
  PD X (.Call (.Name x p) (e::es) [] h) (λρ=>(f ρ).bind m):=by
 refine uI λa s σ H Q I Y O0 O ρ E q=>?_;refine GB F t L u y B .nil WM C N T U a s σ H Q I ⟨Y,O0,O,ρ,E,?_⟩;dsimp only at q;cases b:f ρ with
 |ex z=>rw[b]at q;exact q
 |bad=>rw[b]at q;exact q
 |ok ds=>
  rw[b,R.aa0]at q;intro vs H1 l r1;rw[aBR];have o:=E.grow l;cases c:m ds with
  |ex z=>rw[c]at q;exact(q H<|Same.refl _).elim
  |bad=>rw[c]at q;exact q.elim
  |ok d=>rw[c]at q;refine⟨O,ds,d,r1,J ρ ds b,o.trk,o.tab,?_,c,λv H' s2 r2=>q v H' (l.trans s2) r2⟩;exact qU I O E.trk
end
def KL (env:Env):List (Str×fg)->List (Str×bc)->List (Str×bc)
 |[],B=>B
 |(n,k)::r,B=>KL env r (if k=.free then(n,(env.cells.lookup n).getD 0)::B else B)
def fU (h:∀y∈d.names,y.2=.free->∃c,env.cells.lookup y.1=some c):closureFor d env=pure (KL env d.names []):=by
 have t:∀(b:List (Str×fg)) (B:List (Str×bc)),(∀y∈b,y.2=.free->∃c,env.cells.lookup y.1=some c)->
   (forIn b B λ(x:Str×fg) (r:List (Str×bc))=>(match x with
    |(f,g)=>if(g==NameKind.free)=true then(do let a<-cellOf env f;pure (aCp ((f,a)::r)))else pure (aCp r):Sem (ForInStep<|List<|Str×bc)))=pure (KL env b B):=by
  intro b;induction b with
  |nil=>intro B _;rfl
  |cons y r p=>
   intro B l;obtain⟨n,k⟩:=y;rw[aDb];by_cases m:k=.free
   .subst m;obtain⟨c,q⟩:=l (n,.free) aAU rfl;have e:cellOf env n=pure c:=by unfold cellOf;rw[q]
    simp only[beq_self_eq_true,if_true,e,pure_bind];rw[p _ λz o=>l z (aAe _ o)];simp[KL,q]
   .have u:(k==NameKind.free)=false:=by simpa using m
    simp only[u,aAt,if_false,pure_bind];rw[p _ λz o=>l z (aAe _ o)];simp[KL,m]
 have e:=t d.names [] h;show((forIn d.names ([]:List (Str×bc)) λ(x:Str×fg) (r:List (Str×bc))=>(match x with
    |(f,g)=>if(g==NameKind.free)=true then(do let a<-cellOf env f;pure (aCp ((f,a)::r)))else pure (aCp r):Sem (ForInStep<|List<|Str×bc)))>>=λs=>pure s)=_
 rw[e];rfl
theorem zF:∀(names:List (Str×fg)) (B:List (Str×bc)) {x:Str} {c:bc},(∀y∈names,y.2=.free->∃c,env.cells.lookup y.1=some c)->(∀x c,B.lookup x=some c->env.cells.lookup x=some c)->
  (KL env names B).lookup x=some c->env.cells.lookup x=some c
 |[],B,x,c,_,b,h=>b x c h
 |(n,k)::r,B,x,c,f,b,h=>by
  refine zF r _ (λy o=>f y (aAe _ o)) (λd g a=>?_) h;by_cases e:k=.free
  .rw[kd e]at a;obtain⟨c0,l⟩:=f (n,k) aAU e;by_cases m:d=n
   .subst m;rw[aBO]at a;rw[l]at a;rw[l];exact a
   .rw[aBi,beq_eq_false_iff_ne.mpr m]at a;exact b d g a
  .rw[kz e]at a;exact b d g a
theorem uO:∀(names:List (Str×fg)) (B:List (Str×bc)) {x:Str},((x,NameKind.free)∈names\/∃c,B.lookup x=some c)->∃c,(KL env names B).lookup x=some c
 |[],B,x,h=>by
  rcases h with h|h
  .cases h
  .exact h
 |(n,k)::r,B,x,h=>by
  refine uO r _ ?_;rcases h with h|⟨c,h⟩
  .rcases aAd.mp h with e|h
   .cases e;right;rw[kd rfl,aBO];exact⟨_,rfl⟩
   .exact .inl h
  .right;by_cases a:k=.free
   .rw[kd a,aBi];cases(x==n)with
    |true=>exact⟨_,rfl⟩
    |false=>exact⟨c,h⟩
   .rw[kz a];exact⟨c,h⟩
theorem jC {env:Env}:∀{names:List (Str×fg)} {x:Str},
  ((names.map λ(n,k)=>if(k==NameKind.free&&env.scope.kind==.function&&env.kindOf n==some .cell)then(n,aCb)else(n,k)).lookup x=some .cell\/
   (names.map λ(n,k)=>if(k==NameKind.free&&env.scope.kind==.function&&env.kindOf n==some .cell)then(n,aCb)else(n,k)).lookup x=some .free)->(x,NameKind.free)∈names\/names.lookup x=some .cell
 |[],_,h=>by rcases h with h|h<;>cases h
 |(n,k)::r,x,h=>by
  have c:=@jC env r x;rw[aAz]at h;dsimp only at h;by_cases b:x=n
  .subst b;by_cases a:(k==NameKind.free&&env.scope.kind==.function&&env.kindOf x==some .cell)=true
   .have d:k=.free:=by rw[aAH,aAH]at a;simpa using a.1.1
    subst d;exact .inl aAU
   .rw[kz a,aBO]at h;rcases h with h|h
    .right;rw[aBO];exact h
    .have:k=.free:=aAn h;subst this;exact .inl aAU
  .have e:(r.map λ(n,k)=>if(k==NameKind.free&&env.scope.kind==.function&&env.kindOf n==some .cell)then(n,aCb)else(n,k)).lookup x=some .cell\/
     (r.map λ(n,k)=>if(k==NameKind.free&&env.scope.kind==.function&&env.kindOf n==some .cell)then(n,aCb)else(n,k)).lookup x=some .free:=by
    by_cases a:(k==NameKind.free&&env.scope.kind==.function&&env.kindOf n==some .cell)=true
    .rw[kd a,aBi,beq_eq_false_iff_ne.mpr b]at h;exact h
    .rw[kz a,aBi,beq_eq_false_iff_ne.mpr b]at h;exact h
   rcases c e with h|h
   .exact .inl (aAe _ h)
   .right;rw[aBi,beq_eq_false_iff_ne.mpr b];exact h
theorem pS:∀(names:List (Str×fg)) (h:df) (B:List (Str×bc)) {x:Str} {c:bc},(eZ h.objs.size names B).lookup x=some c->B.lookup x=some c\/((pushCells h names).IsCell c none/\h.objs.size<=c)
 |[],h,B,x,c,e=>.inl e
 |(n,k)::r,h,B,x,c,e=>by
  unfold eZ at e;unfold pushCells;split at e
  .rename_i b;rw[kd b];rcases pS r (h.push {cls:=.type "cell",data:=.cell none}) ((n,h.objs.size)::B) (x:=x) (c:=c) (by rw[aBt];exact e)with a|⟨a,d⟩
   .rw[aBi]at a;cases f:(x==n)with
    |true=>rw[f]at a;have g:h.objs.size=c:=aAn a;subst g;exact .inr ⟨⟨_,aEG _ _ _ _ (aAq _ rfl),rfl⟩,aAh _⟩
    |false=>rw[f]at a;exact .inl a
   .exact .inr ⟨a,by rw[aBt]at d;exact aCF d⟩
  .rename_i b;rw[kz b];exact pS r h B e
theorem kL:∀(names:List (Str×fg)) (n:Nat) (B:List (Str×bc)) {x:Str} {c:bc},(eZ n names B).lookup x=some c->B.lookup x=some c\/n<=c
 |[],n,B,x,c,e=>.inl e
 |(m,k)::r,n,B,x,c,e=>by
  unfold eZ at e;split at e
  .rcases kL r (n+1) _ e with a|a
   .rw[aBi]at a;cases b:(x==m)with
    |true=>rw[b]at a;exact .inr (aEq (aAn a))
    |false=>rw[b]at a;exact .inl a
   .exact .inr (aCF a)
  .exact kL r n B e
theorem nM:∀(names:List (Str×fg)) (n:Nat) (B:List (Str×bc)) {x:Str} {c:bc},(x,aCb)∈names->(eZ n names B).lookup x=some c->n<=c
 |[],n,B,x,c,a,e=>nomatch a
 |(m,k)::r,n,B,x,c,a,e=>by
  unfold eZ at e;rcases aAd.mp a with a|a
  .cases a;rw[kd (show(aCb==aCb)=true from rfl)]at e;rcases kL r (n+1) _ e with b|b
   .rw[aBO]at b;exact aEq (aAn b)
   .exact aCF b
  .split at e
   .exact aCF (nM r (n+1) _ a e)
   .exact nM r n B a e
theorem qG:∀(names:List (Str×fg)) (n:Nat) (B:List (Str×bc)) {x:Str},(x,aCb)∉names->(eZ n names B).lookup x=B.lookup x
 |[],n,B,x,_=>rfl
 |(m,k)::r,n,B,x,a=>by
  unfold eZ;split
  .rename_i b;rw[qG r (n+1) _ λz=>a (aAe _ z),aBi];cases c:(x==m)with
   |true=>
    have d:x=m:=by simpa using c
    have e:k=.cell:=by simpa using b
    exact absurd (by rw[d,e];exact aAU) a
   |false=>rfl
  .exact qG r n B λz=>a (aAe _ z)
theorem kM:∀(names:List (Str×fg)) (n:Nat) (B:List (Str×bc)),(∀x c,B.lookup x=some c->c<n)->(∀x y c,B.lookup x=some c->B.lookup y=some c->x=y)->
  ∀x y c,(eZ n names B).lookup x=some c->(eZ n names B).lookup y=some c->x=y
 |[],n,B,_,h=>h
 |(m,k)::r,n,B,g,h=>by
  unfold eZ;split
  .refine kM r (n+1) _ (λx c e=>?_) λx y c b a=>?_
   .rw[aBi]at e;cases d:(x==m)with
    |true=>rw[d]at e;rw[<-aAn e];exact aDj _
    |false=>rw[d]at e;exact aBo (g x c e)
   .rw[aBi]at b a;cases d:(x==m)with
    |true=>
     rw[d]at b;cases f:(y==m)with
     |true=>rw[show x=m by simpa using d,show y=m by simpa using f]
     |false=>rw[f]at a;rw[<-aAn b]at a;exact absurd (g y _ a) (aBc _)
    |false=>
     rw[d]at b;cases f:(y==m)with
     |true=>rw[f]at a;rw[<-aAn a]at b;exact absurd (g x _ b) (aBc _)
     |false=>rw[f]at a;exact h x y c b a
  .exact kM r n B g h
abbrev dQ (X:Cx)(a:kb)(C:bc):List (Str×bc):=eZ (C+1) a.names (KL X.env a.names [])
def IJ {E:B4}{Q:Env->bb->Prop}(f:Q (newEnv a s.heap.objs.size g (eZ (s.heap.objs.size+1) a.names h) q none .none (some env) builtinsNs) {s with heap:=pushCells (s.heap.push {cls:=.type "dict",data:=.dict #[]}) a.names}):
  ai M A (newFunctionEnv a g h [] q none .none (some env)) Q E s:=by
 simp only[newFunctionEnv,Option.isSome_some,if_true];refine aAa (wpAny_alloc ?_);refine aAa (wpAny_layCells _ (λe b c=>by cases d:b==aCb<;>simp[d]) _ _ _ _ ?_);rw[show({s with heap:=s.heap.push {cls:=.type "dict",data:=.dict #[]}}:bb).heap.objs.size=s.heap.objs.size+1 from aBt ..];exact aAa (aAb<|aAb f)
def HX {R:Result->bb->Prop}(I:Nat->bb->Prop)(turn:∀n s,I n s->ai (be prog w) A (fT it) (λr l=>match r with
   |none=>R (.ok .next) l
   |some v=>ai (be prog w) A (letOwnedTupleGo a it v) (λ_ f=>ai (be prog w) A (ik a env v) (λ_ t=>
    ai (be prog w) A (forIn g true λc r=>if r=true then do let ok<-isTrue c env (ek c env);pure (aCp ok)else pure (aCp r)) (λok o=>
     if ok=true then ai (be prog w) A (ek k env) (λx u=>ai (be prog w) A (call (.builtin "list.append") [B,x]) (λ_ y=>∃m,m<n/\I m y) (λ_ _=>False) u) (λ_ _=>False) o
     else∃m,m<n/\I m o) (λ_ _=>False) t) (λ_ _=>False) f) (λ_ _=>False) l) (λ_ _=>False) s) (n:Nat) (h:I n s):gh (be prog w) A (.compLoop (.ListComp k [⟨a,iter,g,0⟩] e p) 0 it B env) R s:=by
 refine codeAny_loop rfl I (λn s C=>?_) n h;show ai _ A ((compTurn (.ListComp k [⟨a,iter,g,0⟩] e p) 0 it B env).onRaise (λx=>do noteFrame x env;theTreesLotGoes x)) _ _ s;refine wpAny_noted ?_;rw[compTurn_list];refine aAa (aEB<|aAa<|aCu (turn n s C) (λr l d=>?_) λ_ _ b=>b.elim);cases r with
 |none=>exact aAb d
 |some v=>
  refine aAa (aCu d (λ_ f q=>?_) λ_ _ b=>b.elim);refine aAa (aCu q (λ_ t E=>aAa (aCu E (λok o z=>?_) λ_ _ b=>b.elim)) λ_ _ b=>b.elim);cases ok with
  |false=>exact aAb ⟨rfl,z⟩
  |true=>exact aAa (aAa<|aCu z (λx u H=>aAa (aCu H (λ_ y J=>aAb (aAb ⟨rfl,J⟩)) λ_ _ b=>b.elim)) λ_ _ b=>b.elim)
def JS (X:Cx)(pins:N2)(s9:bb)(H9:Hp)(b:List Str)(a:kb)(c:List (Str×bc))(C:bc)(d:List bc):Cx where
 prog:=X.prog
 w:=X.w
 K:=X.K
 mg:=X.mg
 base:=X.base
 A:=X.A
 N:=b
 s9:=s9
 H9:=H9
 env:=compEnvC a c C X.env
 outer:=X.stack
 stack:=X.stack
 ex:=d
 fn:=λx=>a.names.lookup x==some .cell
 calm:=X.calm
 pn:=X.pn++pins
 xe:=λ_ _=>False
structure CompSc (X:Cx)(scope:Scope)(own fr:List Str)(js:List Nat):Prop where
 kind:scope.kind=.function
 apart:∀y∈scope.names,y.2=.free->(y.1,aCb)∉scope.names
 names:∀y∈scope.names,y.2=.local->scope.names.lookup y.1=some .local
 free:∀y∈scope.names,y.2=.free->X.env.kindOf y.1=some .cell\/X.env.kindOf y.1=some .free
 len:js.length=fr.length
 at_:∀(i j:Nat) (x:Str),js[i]?=some j->fr[i]?=some x->X.N[j]?=some x/\(x,NameKind.free)∈scope.names
 nd:js.Nodup
 dis:∀y∈scope.names,y.2=.free->scope.names.lookup y.1=some .free
def seen:Sl->Sl
 |.v d=>.v d
 |_=>.no
def i8 (own:List Str)(a:List Nat)(ρ:Ev):Ev:=aCP own.length Sl.no++a.map λj=>seen (ρ.getD j Sl.no)
def Y6 (own:List Str)(a:List Nat)(σ:St):St:=aCP own.length none++a.map λj=>σ.getD j none
def Inv.ab5 (I:L2.Inv X b σ H s)(S:CompSc X a own f g):∀y∈a.names,y.2=.free->∃c,X.env.cells.lookup y.1=some c:=
 λy d e=>I.ok.has y.1 (S.free y d e)
def gC (h:(i8 own f ρ)[i]?=some sl):sl=.no\/∃d j,sl=.v d/\own.length<=i/\f[i-own.length]?=some j/\ρ[j]?=some (.v d):=by
 unfold i8 at h;by_cases b:i<own.length
 .rw[aAX (by simpa using b),aBz,kd b]at h;cases h;exact .inl rfl
 .have g:own.length<=i:=aEv b;rw[aAB (by simpa using g),aCq,aAG]at h;cases e:f[i-own.length]? with
  |none=>rw[e]at h;cases h
  |some j=>
   rw[e]at h;have a:seen (ρ.getD j Sl.no)=sl:=aAn h;rw[aAo]at a;cases c:ρ[j]? with
   |none=>rw[c]at a;subst a;exact .inl rfl
   |some z=>
    rw[c]at a;cases z with
    |v d=>subst a;exact .inr ⟨d,j,rfl,g,rfl,c⟩
    |_=>subst a;exact .inl rfl
def JO {K:lr}{c H:Hp}{f O:bc->Prop}{σ:St}{ρ:Ev}{own:List Str}{g:List Nat}(E:EnvOk K c f H O σ ρ):EnvOk K c f H O (Y6 own g σ) (i8 own g ρ):=by
 refine⟨by simp[Y6,i8],E.same,E.sub,E.trk,E.trk0,E.tab,λi n h=>?_,λi j x y a b p o=>?_⟩
 .rcases gC h with rfl|⟨d,j,rfl,k,e,b⟩
  .trivial
  .obtain⟨v,l,m⟩:=E.val j d b;refine⟨v,?_,m⟩;unfold Y6;rw[aAB (by simpa using k),aCq,aAG,e];show some (σ.getD j none)=some (some v);rw[aAo,l];rfl
 .rcases gC b with rfl|⟨d,j,rfl,_⟩
  .exact o.elim
  .exact o.elim
def JY (I:L2.Inv X pins σ H s)(S:CompSc X a own fr js)(Y:∀b∈fp,mB X pins H b)(ar:∀b∈fp,b<s.heap.objs.size)(e8:h₁=pushCells (s.heap.push {cls:=.type "dict",data:=.dict #[]}) a.names):
  L2.Inv (JS X pins s H (own++fr) a (dQ X a s.heap.objs.size) s.heap.objs.size fp) [] (Y6 own js σ) H {s with heap:=h₁,toks:=tk}:=by
 have w:=Inv.ab5 I S;have g:∀b o,s.heap.get? b=some o->h₁.get? b=some o:=λb o e=>by rw[e8];exact aEG _ _ _ _ (aAc _ e)
 have zd:h₁.Ns s.heap.objs.size (λ_=>none):=by rw[e8];exact(Heap.Ns.new s.heap<|.type "dict").keeps (aEG _ _)
 have cc:∀x c,(dQ X a s.heap.objs.size).lookup x=some c->(KL X.env a.names []).lookup x=some c\/(h₁.IsCell c none/\s.heap.objs.size+1<=c):=λx c h=>by have:=pS a.names (s.heap.push {cls:=.type "dict",data:=.dict #[]}) (KL X.env a.names []) (x:=x) (c:=c) (by rw[aBt];exact h);rw[aBt,<-e8]at this;exact this
 have J:∀x c,(KL X.env a.names []).lookup x=some c->X.env.cells.lookup x=some c:=λx c h=>zF a.names [] w (λ_ _ z=>(by cases z)) h;have l:∀b o,X.base.get? b=some o->b∉fp:=λb o e B=>by
  rcases(Y b B).2.2.2.1 with z|z
  .exact I.ok.noex b o e z
  .exact absurd (aAu (aAf e)<|aAr I.ok.bsz z) (aBc _)
 have nfs:∀b∈fp,b∉zU X.stack:=λb B z=>by
  rcases aAd.mp (I.ab6 b z)with e|z
  .exact(Y b B).2.1 e
  .exact(Y b B).2.2.1 z
 have A:∀x c,X.env.cells.lookup x=some c->c<s.heap.objs.size+1:=λx c h=>by obtain⟨v,o,Q,_⟩:=I.cell x c h;exact aBo (aAf Q)
 have has:∀x,((relabel a X.env).names.lookup x=some .cell\/(relabel a X.env).names.lookup x=some .free)->∃c,(dQ X a s.heap.objs.size).lookup x=some c:=λx N=>by
  have:((dQ X a s.heap.objs.size).lookup x).isSome=true:=PySem.W.cellsFrom_some _ _ _ (by
   rcases jC N with h|h
   .obtain⟨c,hc⟩:=uO (env:=X.env) a.names [] (x:=x) (.inl h);exact .inr (by rw[hc];rfl)
   .exact .inl h)
  exact aFn.mp this
 refine⟨⟨I.ok.mod,S.kind,I.ok.glob,I.ok.blt,aAh _,kM a.names _ _ (λx c h=>A x c (J x c h)) (λx y c h1 C=>I.ok.inj x y c (J x c h1) (J y c C)),has,λx c hf h=>aCF (nM a.names _ _ (PySem.mem_of_lookup<|eq_of_beq hf) h),I.ok.hd,I.ok.frames,.inl rfl,
  λb B=>⟨aAm (ar b B),λx c h=>(cc x c h).elim (λh=>(Y b B).2.2.2.2.1 x c (J x c h)) λ⟨_,C⟩ z=>absurd (aAu (ar b B)<|aCF C) (by rw[z];exact aBc _)⟩,I.bs,aAr I.ok.bsz I.sz,λb o e=>l b o e,nfs,I.stack,I.ad5⟩,rfl,I.bare,Un.kept g,⟨_,zd,λi x v e1 E L=>?_⟩,λx c h=>?_,I.hok.fresh (aAh _),λx c h=>(cc x c h).elim (λh=>I.freeC x c (J x c h)) λ⟨_,C⟩=>I.hok.fresh (aCF C),λp hp=>?_,I.hok.kept g,?_⟩
 .
  have hlen:(own++fr).length=(Y6 own js σ).length:=by simp[Y6,S.len]
  unfold Y6 at E;by_cases hi:i<own.length
  .rw[aAX (by simpa using hi),aBz,kd hi]at E;cases E
  .have gg:own.length<=i:=aEv hi;rw[aAB (by simpa using gg),aCq,aAG]at E;have T:(own++fr)[i]?=some x:=e1;rw[aAB gg]at T;cases e:js[i-own.length]? with
   |none=>rw[e]at E;cases E
   |some j=>
    rw[e]at E;have q:σ.getD j none=some v:=aAn E;obtain⟨hN,kl⟩:=S.at_ (i-own.length) j x e T;have hσ:σ[j]?=some (some v):=by
     rw[aAo]at q;cases e4:σ[j]? with
     |none=>rw[e4]at q;cases q
     |some z=>rw[e4]at q;exact ll some q
    have O:=S.free (x,.free) kl rfl;have U:xU X.env.scope x:=.inr O;obtain⟨m,hn,hl⟩:=I.loc;obtain⟨u,r,lk⟩:=hl j x v hN hσ U;refine⟨u,r,?_⟩;rcases lk with⟨kg,_⟩|⟨_,c,hc,jc⟩
    .rcases O with O|O<;>(rw[kg]at O;cases O)
    .right;obtain⟨c',yb⟩:=uO (env:=X.env) a.names [] (x:=x) (.inl kl);have:=J x c' yb;rw[hc]at this;cases this;refine⟨?_,c,(qG a.names _ _<|S.apart (x,.free) kl rfl).trans yb,?_⟩
     .rcases L with L|L|L
      .
       have hq:(relabel a X.env).names.lookup x=some .local:=L;exfalso;have:∀f:List (Str×fg),(f.map λ(n,k)=>if(k==NameKind.free&&X.env.scope.kind==.function&&X.env.kindOf n==some .cell)then(n,aCb)else(n,k)).lookup x=some .local->f.lookup x=some .local:=by
        intro f;induction f with
        |nil=>intro h;cases h
        |cons y r ih=>
         obtain⟨n,k⟩:=y;intro h;rw[aAz]at h;dsimp only at h;by_cases N:x=n
         .subst N;by_cases t:(k==NameKind.free&&X.env.scope.kind==.function&&X.env.kindOf x==some .cell)=true
          .rw[kd t,aBO]at h;cases h
          .rw[kz t,aBO]at h;rw[aBO];exact h
         .rw[aBi,beq_eq_false_iff_ne.mpr N];by_cases t:(k==NameKind.free&&X.env.scope.kind==.function&&X.env.kindOf n==some .cell)=true
          .rw[kd t,aBi,beq_eq_false_iff_ne.mpr N]at h;exact ih h
          .rw[kz t,aBi,beq_eq_false_iff_ne.mpr N]at h;exact ih h
       have C:=this a.names hq;rw[S.dis (x,.free) kl rfl]at C;cases C
      .exact .inl L
      .exact .inr L
     .obtain⟨o,Q,hd⟩:=jc;exact⟨o,g c o Q,hd⟩
 .rcases cc x c h with h|⟨h,_⟩
  .obtain⟨v,o,Q,hd⟩:=I.cell x c (J x c h);exact⟨v,o,g c o Q,hd⟩
  .exact⟨_,h⟩
 .have hp':p∈X.pn++pins:=by simpa[JS]using hp
  obtain⟨e,n,ne,nf,d⟩:=I.pin p hp';refine⟨g _ _ e,n,aAm (aAf e),λz=>?_,d⟩;rcases aAd.mp (I.ab6 p.1 z)with e'|z'
  .exact ne e'
  .exact nf z'
 .simp[Y6,JS,S.len]
def u6 (G:D->Ev->R Ev)(ft:Ev->R Bool)(fe:Ev->R D)(ρ:Ev):List D->R (List D)
 |[]=>.ok []
 |d::c=>match G d ρ with
  |.ok a=>(ft a).bind λb=>if b=true then(fe a).bind λr=>(u6 G ft fe ρ c).bind λe=>.ok (r::e)else u6 G ft fe ρ c
  |_=>.bad
def BJ (a ρ:Ev):Prop:=a.length=ρ.length/\∀(i:Nat) (b:Sl),ρ[i]?=some b->b≠.no->a[i]?=some b
def EnvOk.weak {K:lr}{c H:Hp}{d O:bc->Prop}{σ:St}{b ρ:Ev}(E:EnvOk K c d H O σ b)(h:BJ b ρ):EnvOk K c d H O σ ρ where
 len:=E.len.trans h.1
 same:=E.same
 sub:=E.sub
 trk:=E.trk
 trk0:=E.trk0
 tab:=E.tab
 slot:=λi f e=>by
  by_cases n:f=.no
  .subst n;trivial
  .exact E.slot i f (h.2 i _ e n)
 inj:=λi j x y a l m g k=>E.inj i j x y a (h.2 i _ l (by rintro rfl;exact g)) (h.2 j _ m (by rintro rfl;exact k)) g k
def T0 (H:Hp)(a:bc):Hp:=λb=>if b=a then none else H b
def BU (H:Hp)(a:bc):T0 H a a=none:=kd rfl
def W7 (h:b≠a):T0 H a b=H b:=kz h
def HL (h:H a=some o):upd (T0 H a) a o=H:=by
 funext b
 unfold upd T0;by_cases c:b=a
 .subst c;rw[kd rfl,h]
 .rw[kz c,kz c]
def EnvOk.ad9 {K:lr}{c H:Hp}{d O:bc->Prop}{σ:St}{ρ:Ev}{a:bc}{vs:List V}(E:EnvOk K c d H O σ ρ)(h:H a=none)(e:K.lookup a=none):EnvOk K c d (upd H a (.lst vs)) (λb=>O b\/b=a) σ ρ:=E.ab8 h e trivial
def Rep.hidden {K:lr}{H:Hp}{O:bc->Prop}{a:bc}{vs:List V}{v:V}{d:D}(h:H a=some (.lst vs))(r:Rep K H (λb=>O b\/b=a) v d):Rep K (T0 H a) O v d:=by
 refine r.mono (λb Y q=>?_) (λb Y n q=>⟨λz=>n (.inl z),?_⟩) λb φ n q=>⟨λz=>n (.inl z),by rw[W7 λz=>n (.inr z)];exact q⟩
 .rcases q with(q|⟨o,q⟩)|q
  .exact .inl (.inl (by rw[W7 (by rintro rfl;rw[h]at q;cases q)];exact q))
  .exact .inl (.inr ⟨o,by rw[W7 (by rintro rfl;rw[h]at q;cases q)];exact q⟩)
  .exact .inr q
 .have c:b≠a:=λz=>n (.inr z);rcases q with(q|⟨o,q⟩)|q
  .exact .inl (.inl (by rw[W7 c];exact q))
  .exact .inl (.inr ⟨o,by rw[W7 c];exact q⟩)
  .exact .inr q
def W8 (h:H a=none)(s:Same (upd H a (.lst vs)) H'):Same H (T0 H' a):=λb o q=>by
 have c:b≠a:=by rintro rfl;rw[h]at q;cases q
 rw[W7 c];exact s b o (by rw[k7 c];exact q)
section
def XH (X:Cx)(b:List dA)(ft:Ev->R Bool):Prop:=
 ∀(a:N2) (s:bb) (σ:St) (H:Hp) (Q:Bool->Hp->Prop),Inv X a σ H s->tDT X ft σ H Q->
  ai (be X.prog X.w) X.A (forIn b true λc r=>if r=true then do let ok<-isTrue c X.env (ek c X.env);pure (aCp ok)else pure (aCp r)) (TP X a σ Q) X.xe s
def UJ:XH X [] (λ_=>.ok true):=by rintro a s σ H Q I ⟨b,c,O,ρ,E,q⟩;exact wpAny_tests_nil ⟨H,I,q H (Same.refl _)⟩
def SX (h:AZ X c ft):XH X [c] ft:=λa s σ H Q I q=>wpAny_tests_one (h a s σ H Q I q)
def yQ {tg elt iter:dA}{ifs:List dA}{scope:kb}{own fr:List Str}{js:List Nat}{G:D->Ev->R Ev}{ft:Ev->R Bool}{fe:Ev->R D}{pins:N2}{σ:St}{H:Hp}{s:bb}{H9:Hp}{O0 O:bc->Prop}{ρ:Ev}
  {it:bc} {Q:List bc} {tn:Nat->df->Prop} {J:It} {ds rs:List D} {RR:af->bc->Result->bb->Prop} {EE:B4} (hc:X.calm=true) (S:CompSc X scope own fr js)
  (hX:∀l:Cx,(∃s9 Ha C,l=JS X pins s9 Ha (own++fr) scope (dQ X scope C) C Q)->MU l tg G/\XH l ifs ft/\PD l elt fe)
  (hG:∀d y,G d (i8 own js ρ)=.ok y->BJ y (i8 own js ρ))
  (I:Inv X pins σ H s) (T:Turn X.prog X.w X.K tg J Q it tn) (st:tn 0 s.heap) (vh:∀b∈Q,mB X pins H b) (E:EnvOk X.K H9 O0 H O σ ρ) (hJ:YQ X.K J H O ds) (hrs:u6 G ft fe (i8 own js ρ) ds=.ok rs) (hlen:ds.length<=sizeLine)
  (fin:∀B C s' H' m,s'.heap.Ns C m->C≠B->s.heap.objs.size<=C->s.heap.objs.size<=B->Same H H'->Rep X.K H' O (.ref B) (.lst rs)->(∃H1 vs,Same H H1/\H1 B=none/\H'=upd H1 B (.lst vs)/\Reps X.K H1 O vs rs)->H' C=none->(∀h',Heap.SameBut C s'.heap h'->Inv X pins σ H' {s' with heap:=h'})->RR (.ref B) C (.ok .next) s'):
  ai (be X.prog X.w) X.A (newList []) (λB sa=>ai (be X.prog X.w) X.A (newFunctionEnv scope X.env.globals (KL X.env scope.names []) [] X.env.qual none .none (some X.env)) (λcenv se=>gh (be X.prog X.w) X.A (.compStart (.ListComp elt [⟨tg,iter,ifs,0⟩] scope pos) 0 (.ref it) B {cenv with scope:=relabel scope X.env}) (RR B cenv.locals) se) EE sa) EE s:=by
 have hO:=qU I O E.trk;refine aAW ?_;have hfr:H s.heap.objs.size=none:=I.hok.fresh (aAh _);have hkl:X.K.lookup s.heap.objs.size=none:=by
  cases e:X.K.lookup s.heap.objs.size with
  |none=>rfl
  |some o=>exact absurd (aAf<|I.kIn _ o e) (aBc _)
 have I1:Inv X pins σ (upd H s.heap.objs.size<|.lst []) {s with heap:=s.heap.push {cls:=.type "list",dict:=none,data:=.seq ([]:List af).toArray}}:=
  I.laid (t':=s.toks) (λb u e=>aAc _ e) (aAh _) ⟨aBb _,[],0,.nil,aAq _ rfl⟩
 generalize cg:s.heap.objs.size=B at*
 generalize ze:({s with heap:=s.heap.push {cls:=.type "list",dict:=none,data:=.seq ([]:List af).toArray}}:bb)=Y at I1⊢;have sz1:Y.heap.objs.size=B+1:=by rw[<-ze,<-cg];exact aBt _ _
 have keep1:∀b o,s.heap.get? b=some o->Y.heap.get? b=some o:=λb o e=>by rw[<-ze];exact aAc _ e
 have xb:∀b∈Q,b<B:=λb g=>by obtain⟨o,e,_⟩:=T.obj 0 _ st b g;rw[<-cg];exact aAf e
 have hfp1:∀b∈Q,mB X pins (upd H B<|.lst []) b:=λb g=>by obtain⟨f0,f⟩:=vh b g;exact⟨by rw[k7 (aAm<|xb b g)];exact f0,f⟩
 refine IJ ?_;obtain⟨L,e8⟩:∃L,pushCells (Y.heap.push {cls:=.type "dict",data:=.dict #[]}) scope.names=L:=⟨_,rfl⟩;rw[e8];have keep2:∀b o,Y.heap.get? b=some o->L.get? b=some o:=λb o e=>by rw[<-e8];exact aEG _ _ _ _ (aAc _ e)
 have IB:=JY (tk:=Y.toks) I1 S hfp1 (λb g=>by rw[sz1];exact aBo (xb b g)) e8.symm;generalize hC:Y.heap.objs.size=C at*
 obtain⟨hG',hT',hE'⟩:=hX _ ⟨Y,upd H B (.lst []),C,rfl⟩;generalize pg:JS X pins Y (upd H B<|.lst []) (own++fr) scope (dQ X scope C) C Q=l at IB hG' hT' hE';have eP:l.prog=X.prog:=by rw[<-pg];rfl
 have eW:l.w=X.w:=by rw[<-pg];rfl
 have eK:l.K=X.K:=by rw[<-pg];rfl
 have eA:l.A=X.A:=by rw[<-pg];rfl
 have eC:l.calm=true:=by rw[<-pg];exact hc
 have eX:l.xe=λ_ _=>False:=by rw[<-pg];rfl
 have eE:l.env=compEnvC scope (dQ X scope C) C X.env:=by rw[<-pg];rfl
 have eX0:l.ex=Q:=by rw[<-pg];rfl
 have ePn:l.pn=X.pn++pins:=by rw[<-pg];rfl
 have eFs:l.fs=zU X.stack:=by rw[<-pg];rfl
 have eS0:l.s9=Y:=by rw[<-pg];rfl
 have eH0:l.H9=upd H B (.lst []):=by rw[<-pg];rfl
 have eL:l.env.locals=C:=by rw[eE];rfl
 have eCe:l.env.cells=dQ X scope C:=by rw[eE];rfl
 have I2of:=IB;have cell_ne:∀b∈Q,∀x c,l.env.cells.lookup x=some c->c≠b:=λb g x c h=>(I2of.ok.exf b (by rw[eX0];exact g)).2 x c h;have accC:B≠C:=by rw[sz1];exact aAm (aDj _)
 have fpC:∀b∈Q,b≠C:=λb g=>by have h1:=xb b g;rw[sz1];exact aAm (aBo h1)
 have fpB:∀{H':Hp},(∀b∈Q,H' b=none)->∀b∈Q,mB l [] H' b:=λ{H'} hn b g=>by
  obtain⟨f0,f1,f2,f3,f4,f5⟩:=vh b g;refine⟨hn b g,by rw[eL];exact fpC b g,?_,.inl (by rw[eX0];exact g),λx c h=>cell_ne b g x c h,λp hp=>f5 p (by rw[ePn,aBR]at hp;exact hp)⟩;rw[eFs];intro z;rcases aAd.mp (I.ab6 b z)with e|z
  .exact f1 e
  .exact f2 z
 have nB:tn 0 L:=T.keep 0 s.heap L st λb g o e=>keep2 b o (keep1 b o e)
 let Iv:Nat->bb->Prop:=λn s'=>∃i ao N vs rd,n=ds.length-i/\i<=ds.length/\Inv l [] ao (upd N B<|.lst vs) s'/\N B=none/\tn i s'.heap/\(∀b∈Q,N b=none)/\EnvOk X.K H9 O0 N O ao (i8 own js ρ)/\Same H N/\
  Reps X.K N O vs rd/\(∃rest,u6 G ft fe (i8 own js ρ) (ds.drop i)=.ok rest/\rs=rd++rest)/\vs.length<=i
 have loop:gh (be X.prog X.w) X.A (.compLoop (.ListComp elt [⟨tg,iter,ifs,0⟩] scope pos) 0 (.ref it) (.ref B) (compEnvC scope (dQ X scope C) C X.env)) (RR (.ref B) C) {Y with heap:=L}:=by
  refine HX Iv ?_ ds.length ⟨0,_,H,[],[],by simp,aBb _,IB,hfr,nB,λb g=>(vh b g).1,JO E,Same.refl H,.nil,⟨rs,by rw[aEj];exact hrs,rfl⟩,aBb _⟩;rintro n s2 ⟨i,um,N,vs,rd,rfl,hi,I2,yd,km,fx2,E2,zf,r2,⟨rest,k,xc⟩,hvl⟩;have fr2:∀b∈Q,(upd N B<|.lst vs) b=none:=λb g=>by rw[k7 (aAm<|xb b g)];exact fx2 b g
  have sU:=j6 yd (.lst vs);have hit:=hJ (upd N B<|.lst vs) (λb=>O b\/b=B) (λb o q n=>⟨sU b o (zf b o q),λz=>z.elim n λz=>by subst z;rw[hfr]at q;cases q⟩) (λa o q z=>z.elim (hO a o q) λz=>by subst z;rw[hkl]at q;cases q) E.trk
   (λa z=>(E2.ad9 (vs:=vs) yd hkl).trk a z) i
  by_cases ar:i<ds.length
  .obtain⟨go,yl⟩:=hit.1 ds[i] (aAg ar);rw[aCo ar,u6]at k;have qc:=T.item l eP eW eK eC i [] s2 um _ (λ_ _=>False) I2 (fpB fr2) km go;rw[eA]at qc;refine E9 qc λr s3 z9=>?_;obtain⟨u,hr,h3⟩:=z9;subst hr;refine E9 h3 λ_ s4 z9=>?_;obtain⟨x,H4,I4,ru,y4,st4,fr4⟩:=z9;obtain⟨sm4,rep4⟩:=yl x H4 y4;cases e1:G ds[i] (i8 own js ρ)with
   |ex z=>rw[e1]at k;cases k
   |bad=>rw[e1]at k;cases k
   |ok y=>
    rw[e1]at k;dsimp only at k;have EB:EnvOk X.K H9 O0 H4 (λb=>O b\/b=B) um (i8 own js ρ):=(E2.ad9 yd hkl).grow sm4;have I4':=I4.pinned (fpB fr4) (T.obj _ _ st4);have again:∀{s7:bb} {qo:St} {t:Hp} {vs7:List V} {rd7:List D} {rest7:List D},Inv l ([]++oR Q s4.heap) qo t s7->t B=some (.lst vs7)->EnvOk X.K H9 O0 (T0 t B) O qo (i8 own js ρ)->Same H (T0 t B)->Reps X.K (T0 t B) O vs7 rd7->
      u6 G ft fe (i8 own js ρ) (ds.drop<|i+1)=.ok rest7->rs=rd7++rest7->vs7.length<=i+1->∃m,m<ds.length-i/\Iv m s7:=λ{s7 qo t vs7 rd7 rest7} I7 h7 E7 sm7 r7 hr7 hrs7 hv7=>by
     refine⟨ds.length-(i+1),by omega,i+1,qo,T0 t B,vs7,rd7,rfl,ar,?_,BU _ _,T.keep _ _ _ st4 λb g o e=>(I7.pin (b,o)<|aAI _<|aAI _<|bN g e).1,λb g=>?_,E7,sm7,r7,⟨rest7,hr7,hrs7⟩,hv7⟩
     .rw[HL h7];exact I7.ab1
     .rw[W7 (aAm<|xb b g)];obtain⟨o,e,d⟩:=T.obj _ _ st4 b g;exact(I7.pin (b,o)<|aAI _<|aAI _<|bN g e).2.1
    have hasg:=hG' _ s4 um H4 x u (λU H5=>Same H4 H5/\EnvOk X.K H9 O0 H5 (λb=>O b\/b=B) U y) I4' ru ⟨H9,O0,_,_,ds[i],y,by rw[eK];exact EB,by rw[eK];exact rep4,e1,λU H5 s5 E5=>⟨s5,by rw[eK]at E5;exact E5⟩⟩;rw[eP,eW,eA,eE,eX]at hasg;refine E9 hasg λ_ s5 z9=>?_;obtain⟨U,H5,I5,sm5,E5⟩:=z9;have hacc5:H5 B=some (.lst vs):=sm5 B _ (sm4 B _ j3);cases e2:ft y with
    |ex z=>rw[e2]at k;cases k
    |bad=>rw[e2]at k;cases k
    |ok b=>
     rw[e2,R.aa0]at k;have htst:=hT' _ s5 U H5 (λc H6=>c=b/\Same H5 H6) I5 ⟨H9,O0,_,y,by rw[eK];exact E5,by rw[e2];exactλH6 s6=>⟨rfl,s6⟩⟩;rw[eP,eW,eA,eE,eX]at htst;refine E9 htst λok s6 z9=>?_;obtain⟨H6,I6,g,sm6⟩:=z9;subst g;have sm46:Same (upd N B<|.lst vs) H6:=sm4.trans (sm5.trans sm6);have hacc6:H6 B=some (.lst vs):=sm6 B _ hacc5;have smx6:Same N (T0 H6 B):=W8 yd sm46;have W1:BJ y (i8 own js ρ):=hG _ _ e1;have Eb:∀{t:Hp},Same H5 t->EnvOk X.K H9 O0 (T0 t B) O U (i8 own js ρ):=λ{t} s7=>by
      have E7:=(E5.grow s7).weak W1;have h7:t B=some (.lst vs):=s7 B _ hacc5;refine⟨E7.len,E2.same.trans (W8 yd<|sm4.trans<|sm5.trans s7),E2.sub,λa z=>?_,E2.trk0,E2.tab.same (W8 yd<|sm4.trans<|sm5.trans s7),λj sl e=>?_,E7.inj⟩
      .obtain⟨o,q,mt⟩:=E2.trk a z;exact⟨o,W8 yd (sm4.trans<|sm5.trans s7) a o q,mt⟩
      .rcases gC e with rfl|⟨d,_,rfl,_⟩
       .trivial
       .obtain⟨v,h1,h2⟩:=E7.val j d e;exact⟨v,h1,Rep.hidden h7 h2⟩
     cases ok with
     |false=>rw[kz aAQ]at k⊢;exact again I6 hacc6 (Eb sm6) (zf.trans smx6) (r2.same smx6) k xc (Nat.le_succ_of_le hvl)
     |true=>
      rw[kd rfl]at k⊢;cases e3:fe y with
      |ex z=>rw[e3]at k;cases k
      |bad=>rw[e3]at k;cases k
      |ok dv=>
       rw[e3,R.aa0]at k;cases e4:u6 G ft fe (i8 own js ρ) (ds.drop<|i+1)with
       |ex z=>rw[e4]at k;cases k
       |bad=>rw[e4]at k;cases k
       |ok rest'=>
        rw[e4,R.aa0]at k;have tf:dv::rest'=rest:=R.ok.inj k;have helt:=hE' _ s6 U H6 (λv t=>Same H6 t/\Rep X.K t (λb=>O b\/b=B) v dv) I6 ⟨H9,O0,_,y,by rw[eK];exact E5.grow sm6,by rw[e3,RC];exactλv t s7 r7=>⟨s7,by rw[eK]at r7;exact r7⟩⟩;rw[eP,eW,eA,eE,eX]at helt;refine E9 helt λuv s7 z9=>?_;obtain⟨v,t,I7,ruv,sm7,r7⟩:=z9;have hacc7:t B=some (.lst vs):=sm7 B _ hacc6;have happ:=rW (X:=l) _ s7 U t (.ref B) [v] (.ref B) [uv] (λ_ H8=>H8=upd t B (.lst (vs++[v]))) I7 rfl (.cons ruv .nil) ⟨B,vs,v,rfl,rfl,hacc7,by omega,rfl⟩;rw[eP,eW,eA,eX]at happ;refine E9 happ λ_ s8 z9=>?_;obtain⟨_,H8,I8,_,h8⟩:=z9;subst h8;have hh:T0 (upd t B<|.lst (vs++[v])) B=T0 t B:=by
         funext b
         unfold T0 upd;by_cases g:b=B
         .rw[kd g,kd g]
         .rw[kz g,kz g,kz g]
        have smx7:Same N (T0 t B):=W8 yd (sm46.trans sm7);refine again (vs7:=vs++[v]) (rd7:=rd++[dv]) (rest7:=rest') I8 j3 (by rw[hh];exact Eb (sm6.trans sm7)) (by rw[hh];exact zf.trans smx7) ?_ e4 (by rw[xc,<-tf,List.append_assoc];rfl) (by rw[aAD];exact Nat.succ_le_succ hvl);rw[hh];exact(r2.same smx7).snoc (Rep.hidden hacc7 r7)
  .have gg:i=ds.length:=by omega
   subst gg;have hstop:=hit.2 (by simp);have qc:=T.done l eP eW eK eC ds.length [] s2 um _ (λ_ _=>False) I2 (fpB fr2) km hstop;rw[eA]at qc;refine E9 qc λr s3 z9=>?_;obtain⟨hr,I3⟩:=z9;subst hr;rw[aDO,u6]at k;have tf:([]:List D)=rest:=R.ok.inj k;rw[<-tf,aBR]at xc;obtain⟨m,hm,_⟩:=id I3.loc;rw[eL]at hm;have hfin:Same H (upd N B<|.lst vs):=zf.trans sU;refine fin B C s3 (upd N B<|.lst vs) m hm (aCk accC) (by omega) (aAh _) hfin ?_ ⟨N,vs,zf,yd,rfl,by rw[xc];exact r2⟩ (by rw[<-eL];exact I3.free) (λh' ke=>?_)
   .rw[xc];exact .lst (K8.of j3) (E2.fresh yd) (r2.same sU)
   .have hU:Un (zU X.stack) Q (upd H B<|.lst []) (upd N B<|.lst vs) Y.heap s3.heap:=by have:=I3.base;rw[eFs,eX0,eH0,eS0]at this;exact this
    have hCn:∀b o,Y.heap.get? b=some o->b≠C:=λb o e=>by have:=aAf e;rw[hC]at this;exact aAm this
    have hU':Un (zU X.stack) Q (upd H B<|.lst []) (upd N B<|.lst vs) Y.heap h':=⟨λb o e n g hx=>(ke.2 b (hCn b o e)).trans (hU.keep b o e n g hx),λb o e n g hx=>by
      obtain⟨sl,q⟩:=hU.slot b o e n g hx;exact⟨sl,(ke.2 b (hCn b o e)).trans q⟩,hU.free,λb o e hx=>by
      obtain⟨o',q⟩:=hU.there b o e hx;exact⟨o',(ke.2 b (hCn b o e)).trans q⟩,hU.tups,hU.frzs,hU.tbls⟩
    have hCf:upd N B (.lst vs) C=none:=by rw[<-eL];exact I3.free
    have zg:fX X.prog X.w (upd N B<|.lst vs) h':=λb u e=>by
     have g:b≠C:=by rintro rfl;rw[hCf]at e;cases e
     have:=I3.hok b u e;rw[eP,eW]at this;refine this.ab7 (λc v hc q=>(ke.2 c ?_).trans q) (λ_ q=>q) λ_ _ _ q=>q;rcases hc with z|z
     .rw[z];exact g
     .rintro rfl;rw[hCf]at z;cases z
    have hos:s3.os=Y.os:=by have:=I3.os;rw[eS0]at this;exact this
    exact I1.ag0 (s':={s3 with heap:=h'}) (ch:=Q) hos hU' zg I3.bare λb g=>by obtain⟨f0,f1,f2,f3,f4,f5⟩:=vh b g;exact⟨f3,f1,f4,f5⟩
 exact codeAny_compStart_list loop (T.self _ 0 _ _ _ nB loop)
def M2 (own U:List Str)(f:List Nat)(hc:X.calm=true)(S:CompSc X b own U f)(hi:WO X Y iter fi)(hX:∀(a:N2) (n:List bc) (k:Cx),(∃s9 Ha C,k=JS X a s9 Ha (own++U) b (dQ X b C) C n)->MU k Y G/\XH k o ft/\PD k p fe)(hG:∀ρ d h,G d (i8 own f ρ)=.ok h->BJ h (i8 own f ρ))(hs:∀x,fo iter X.env x=pure x:=by intro _;rfl):
  PD X (.ListComp p [⟨Y,iter,o,0⟩] b pos) (λρ=>(fi ρ).bind λds=>if ds.length<=sizeLine then(u6 G ft fe (i8 own f ρ) ds).bind λc=>.ok (.lst c)else .bad):=by
 refine uI λa s σ H Q I H9 O0 O ρ E q=>?_;dsimp only at q;rw[eval_ListComp];refine wpAny_comprehension_free (use:=none) rfl hs (fU<|Inv.ab5 I S) S.kind S.names ?_;refine E9 (hi a s σ H (λJ t=>∃ds c,Same H t/\YQ X.K J t O ds/\ds.length<=sizeLine/\u6 G ft fe (i8 own f ρ) ds=.ok c/\∀v g,Same H g->Rep X.K g O v (.lst c)->Q v g) I ⟨H9,O0,O,ρ,E,qU I O E.trk,?_⟩) λv s1 h1=>E9 h1 λitv s2 h2=>?_
 .cases u:fi ρ with
  |ex x=>rw[u]at q;exact q
  |bad=>rw[u]at q;exact q
  |ok ds=>
   rw[u,R.aa0]at q;intro J t s1 y;split at q
   .rename_i z;cases l:u6 G ft fe (i8 own f ρ) ds with
    |ex x=>rw[l]at q;exact(q H<|Same.refl _).elim
    |bad=>rw[l]at q;exact q.elim
    |ok c=>rw[l]at q;exact⟨ds,c,s1,y,z,l,q⟩
   .exact q.elim
 .obtain⟨it,n,tn,J,H2,e,I2,T,km,f2,ds,c,sm,y,z,L,q⟩:=h2;subst e;refine yQ (RR:=λB C=>compPost (be X.prog X.w) X.A X.xe none (EP X a σ Q) B C) hc S (hX a n) (hG ρ) I2 T km f2 (E.grow sm) y L z ?_;intro B C s' g m hn _ _ _ N r _ _ hI;exact⟨m,hn,λh' ke=>⟨.ref B,g,hI h' ke,rfl,q _ g (sm.trans N) r⟩⟩
end
def _root_.L2.ObjOk.live (x:ObjOk P w H h a o):h.get? a≠none:=by
 intro z;have b:∀{u:Obj},h.get? a=some u->False:=λq=>by rw[z]at q;cases q
 cases o with
 |lst Y=>obtain⟨_,_,_,_,e⟩:=x;exact b e
 |tup Y=>obtain⟨_,_,_,o,e,_⟩:=x;exact b e
 |dK U=>obtain⟨_,_,_,_,o,_,_,e,_⟩:=x;exact b e
 |dT U=>obtain⟨_,_,_,_,o,_,_,e,_⟩:=x;exact b e
 |set S n=>obtain⟨o,_,_,_,e,_⟩:=x;exact b e
 |ins C c fs=>obtain⟨_,_,_,e,_⟩:=x;exact b e
 |own y=>obtain⟨_,e⟩:=x;exact b e
 |xd fs=>obtain⟨_,⟨_,_,_,e,_⟩,_⟩:=x;exact b e
 |rng lo d=>obtain⟨_,_,_,e⟩:=x;exact b e
 |frz g u=>obtain⟨e,_⟩:=x;exact b e
 |tbl k=>obtain⟨_,e,_⟩:=x;exact b e
 |met f y=>exact b (show h.get? a=some _ from x)
 |ext φ=>obtain⟨_,⟨_,e⟩,_⟩:=x;exact b e
section
end
section
variable{P:cp} {w:cy} {K:lr} {mg:cH} {base:df}
end
section
variable{X:Cx} {E:XK} {st:d9} {rest:List d9} {F:Ev->R Out} {G Ga Gb:Ev->Option af} {pos:Pos}
end
section
variable{K:lr} {h:df} {C:bc} {bmB:List af} {newId:String}
end
section
variable{X:Cx} {E:XK} {pos ba np:Pos} {x:Str} {C:bc} {bmB:List af} {B newId initId:String}
end
def yj (a:Ev->R Bool)(b:Ev->R D):Ev->R Out:=λρ=>(a ρ).bind λt=>if t=true then(b ρ).bind λd=>.ok (.rt d)else .ok (.nx ρ)
def ny (i j:Nat)(F:Ev->R Out):Ev->R Out:=λρ=>match ρ[i]? with
 |some (.o a)=>F6 (λd ρ=>.ok (ρ.set j<|.v d)) F a ρ
 |_=>.bad
def LD (i j:Nat){x y:Str}{e c:dA}{u:Ev->R Bool}{z:Ev->R D}{px py p1 p2 L:Pos}(hp:PassesOwn (be X.prog X.w) X.A X.env X.xe)(hc:X.calm=true)(hN:X.N.Nodup)(hT:AZ X e u)(hr:PD X c z)(jt:i≠j:=by decide)(hi:X.N[i]?=some y:=by rfl)(hv:xU X.env.scope y:=by first|exact aCy rfl|exact aBP (aCy rfl)|exact aBP (aBP rfl))(hd:(y==lM)=false:=by decide)(fm:(y==ma)=false:=by decide)(hj:X.N[j]?=some x:=by rfl)(hx:Loc X.env.scope x:=by first|exact aCy rfl|exact aBP rfl)(hf:X.fn x=true\/X.env.scope.names.lookup x=some .local:=by first|exact .inl rfl|exact .inr rfl|assumption)(hs:∀x,fo (.Name y py) X.env x=pure x:=by intro _;rfl):
  mG X (.For (.Name x px) (.Name y py) [.If e [.Return (some c) p1] [] p2] [] L) (ny i j (yj u z)):=λh l=>yC (MA hp hc (EY<|L8 hi hv hd fm) (FP hN hj hx hf) (jB<|WW hT (jB<|vV hr) GV) hs) λD σ H O ρ E fk q=>by
 unfold ny at q;cases Q:ρ[i]? with
 |none=>rw[Q]at q;exact aAi q
 |some sl=>
  rw[Q]at q;cases sl with
  |o f=>
   obtain⟨a,B,h1,h2,h3,h4,h5⟩:=E.own i f Q;refine⟨.ref a,h1,a,rfl,⟨B,K8.of h4⟩,λk m T n=>m=f.length-k/\k<=f.length/\Same H n/\∃C,EnvOk X.K h l n O T C/\RS X h l n O (F6 (λd ρ=>.ok (ρ.set j<|.v d)) (yj u z) (f.drop k) C) D,⟨f.length,by simp,aBb _,Same.refl _,ρ,E,by rw[aEj];exact q⟩,?_⟩;rintro k m T n ⟨rfl,hk,U,C,E',b⟩;have Y:K8 X.K n a B:=K8.of (U _ _ h4);have rs:=h5.same U;by_cases ar:k<f.length
   .obtain⟨v,g1,g2⟩:=rs.get (aAg ar);refine .inr ⟨⟨B,v,Y,g1⟩,λum I=>Same H I/\∃J,EnvOk X.K h l I O um J/\RS X h l I O (F6 (λd ρ=>.ok (ρ.set j<|.v d)) (yj u z) (f.drop<|k+1) J) D,λum I p=>⟨f.length-(k+1),by omega,rfl,ar,p⟩,λx2 I y2=>?_⟩;obtain⟨rfl,y3⟩:=y2;have:=y3 B Y;rw[g1]at this;cases this;rw[aCo ar,F6]at b;dsimp only at b;have s:=E'.set j g2;refine⟨h,l,O,_,s,?_⟩;unfold yj at b;cases e1:u (C.set j<|.v f[k])with
    |ex x=>rw[e1]at b;exactλH3 g=>b H3 (s.same.trans g)
    |bad=>rw[e1]at b;exact(show False from b).elim
    |ok t=>
     rw[e1,R.aa0]at b;intro H3 g;cases t with
     |true=>
      rw[kd rfl]at b⊢;refine⟨h,l,O,_,s.grow g,?_⟩;cases e2:z (C.set j<|.v f[k])with
      |ex x=>rw[e2]at b;exactλH4 s4=>b H4 (s.same.trans<|g.trans s4)
      |bad=>rw[e2]at b;exact(show False from b).elim
      |ok d=>rw[e2]at b;exactλv H4 s4 r=>b v H4 (s.same.trans<|g.trans s4) (r.sub E.sub)
     |false=>rw[kz aAQ]at b⊢;exact⟨U.trans g,_,s.grow g,RS.grow b (Kp.of g)⟩
   .have e:k=f.length:=by omega
    subst e;rw[aDO,F6]at b;exact .inl ⟨⟨B,Y,by rw[rs.length];exact aAh _⟩,b T n O E' fk (Kp.refl _ _)⟩
  |_=>exact aAi q
end
end DL
namespace TS
open PySem PyProof.Rows HT
def tL (f:Bool)(x y:af):keyLt' (tupK f) x y=(do
 let Y<-aCL x;let a<-aCL y
 for ((p,q),i)in(Y.toList.zip a.toList).zipIdx do
  if !(<-eqBool p q)then return<-oneLt' (f&&i==0) p q
 return decide (Y.size<a.size)):=rfl
def MH:af->Sem (Option af):=sortPriv%PySem.Builtin.firstOfTuple?
def PK:Array af->Sem (Option af):=sortPriv%PySem.Builtin.oneTypeOnly
def JC (v:af):MH v=(do
 if(<-typeOf v) !=.type "tuple"then return none
 return (<-aCL v)[0]?):=rfl
def OF (vs:Array af):PK vs=(do
 let a<-vs.mapM typeOf
 match a[0]? with
 |some t=>return if a.all (· ==t)then some t else none
 |none=>return none):=rfl
def BX (a:Array af):keyKind' a=(do
 let firsts<-a.mapM MH
 if firsts.all (·.isSome)then
  rule "list.sort.keys-are-tuples"
  return tupK ((<-PK (firsts.filterMap id)).any (· !=.type "tuple"))
 if(firsts[0]?.bind id).isSome then return general'
 return if(<-PK a).isSome then oneType' else general'):=rfl
section
def QT {Q:xC}(f:Bool)(h:Q (decide (a<b)) s):ai (be prog w) A (oneLt' f (.int a t) (.int b u)) Q E s:=by
 cases f with
 |true=>exact oneLt_int h
 |false=>rw[oneLt'_eq];simp only[aAt,if_false];exact aAa (zS A s a t b u prog w _ _<|aBH h)
def lt_ints (f:Bool){Q:xC}(hl:IsTup s.heap l items)(hb:IsTup s.heap b r)(hi:IntsAre items.toList ns)(hj:IntsAre r.toList N)(h:Q (HT.lexLt ns N) s):ai (be prog w) A (keyLt' (tupK f) (.ref l) (.ref b)) Q E s:=by
 obtain⟨o,ho,hc,n,hd⟩:=hl;obtain⟨o2,ju,ji,n2,O⟩:=hb;have z1:items.size=ns.length:=by rw[<-hi.length];simp
 have z2:r.size=N.length:=by rw[<-hj.length];simp
 rw[tL];refine aAa (aEp ho hd<|aAa<|aEp ju O ?_);refine aAa (aCf _ (λrest b p=>b.1=none/\p=s/\∃(k:Nat) (I J:List af) (v B:List Int),rest=(I.zip J).zipIdx k/\IntsAre I v/\IntsAre J B/\v.length+r.size=B.length+items.size/\Q (HT.lexLt v B) s)
  (λb p=>p=s/\(∀c,b.1=some c->Q c s)/\(b.1=none->Q (decide (items.size<r.size)) s)) ?turn ?fin _ _ ⟨rfl,rfl,0,items.toList,r.toList,ns,N,rfl,hi,hj,by lia,h⟩|>λz=>aCu z ?post λ_ _ e=>e)
 case post=>
  rintro⟨b1,b2⟩ p ⟨rfl,q1,q2⟩;cases b1 with
  |none=>exact aAb (q2 rfl)
  |some c=>exact aAb (q1 c rfl)
 case fin=>
  rintro⟨b1,b2⟩ p ⟨iu,rfl,k,I,J,v,B,m,T,L,d,g⟩;refine⟨rfl,λc e=>(by rw[iu]at e;cases e),λ_=>?_⟩;cases T with
  |nil=>
   cases L with
   |nil=>rw[Q0]at g;simp only[aBB]at d;rw[decide_eq_false (by lia)];exact g
   |cons c u hw=>rw[F7]at g;simp only[aBB,aAv]at d;rw[decide_eq_true (by lia)];exact g
  |cons a t hv=>
   cases L with
   |nil=>rw[A3]at g;simp only[aBB,aAv]at d;rw[decide_eq_false (by lia)];exact g
   |cons c u hw=>rw[aBN,aEw]at m;cases m
 case turn=>
  rintro⟨⟨y,x⟩,i⟩ rest b p ⟨iu,rfl,k,I,J,v,B,m,T,L,d,g⟩;cases T with
  |nil=>rw[aFp,aEH]at m;cases m
  |cons a t C=>
   cases L with
   |nil=>rw[aFb,aEH]at m;cases m
   |cons c u H=>
    rw[aBN,aEw]at m;injection m with U ah;injection U with U Y;injection U with hy hx;subst hy hx Y;rw[lexLt_cons]at g;simp only[aAv]at d;obtain⟨e,he,qa⟩:=oN A p a t c u;refine aAa (he prog w _ _ ?_);cases e with
    |true=>rw[kd (qa.mp rfl)]at g;exact aAb ⟨rfl,rfl,_,_,_,_,_,ah,C,H,by lia,g⟩
    |false=>rw[kz (λq=>absurd (qa.mpr q) aAQ)]at g;exact aAa (QT _ (aAb ⟨rfl,λc e=>(by cases e;exact g),λe=>(by cases e)⟩))
end
section
theorem FI {α β:Type}{M:Model}{f:α->Sem β}(g:α->β):∀(Y:List α) {Q:List β->bb->Prop},(∀x∈Y,∀{Q:β->bb->Prop},Q (g x) s->ai M A (f x) Q E s)->Q (Y.map g) s->ai M A (Y.mapM f) Q E s
 |[],Q,_,q=>by rw[List.mapM_nil];exact aAb q
 |x::Y,Q,h,q=>by rw[List.mapM_cons];exact aAa (h x (.head _) (aAa (FI g Y (λy a=>h y (.tail _ a)) (aAb q))))
def GX {α β:Type}{M:Model}{f:α->Sem β}(g:α->β)(Y:List α){Q:Array β->bb->Prop}(h:∀x∈Y,∀{Q:β->bb->Prop},Q (g x) s->ai M A (f x) Q E s)(q:Q (Y.map g).toArray s):ai M A (Y.toArray.mapM f) Q E s:=by rw[List.mapM_toArray];show ai M A (List.toArray<$>Y.mapM f) Q E s;rw[map_eq_pure_bind];exact aAa (FI g Y h<|aAb q)
def kind_tuples {vs:List af}{f:Bool}{T:String}{Q:SortKind->bb->Prop}(b:af->af)(h:∀x∈vs,∃a items,x=.ref a/\IsTup s.heap a items/\items[0]?=some (b x)/\s.TypeIs (b x) T)(g:vs≠[])(k:f=(aCv T !=aCv "tuple"))
  (q:Q (tupK f) s):ai (be prog w) A (keyKind' vs.toArray) Q E s:=by
 rw[BX];refine aAa (GX (λx=>some (b x)) vs (λx c {Q} d=>?_) ?_)
 .obtain⟨a,items,rfl,⟨o,e,l,n,m⟩,p,_⟩:=h x c;rw[JC];refine aAa (aDU (T:= "tuple") ⟨o,e,l⟩ ?_);rw[kz (by simp)];refine aAa (aEp e m ?_);rw[p];exact aAb d
 .have r:((vs.map λx=>some (b x)).toArray.all λx=>x.isSome)=true:=by simp
  have t:(vs.map λx=>some (b x)).toArray.filterMap id=(vs.map b).toArray:=by
   rw[List.filterMap_toArray,aDq];congr 1;induction vs with
   |nil=>rfl
   |cons v vs C=>simp
  simp only[r,if_true,t];refine aAa (aDD ?_);refine aAa ?_;rw[OF];refine aAa (GX (λ_=>aCv T) (vs.map b) (λx c {Q} d=>?_) ?_)
  .obtain⟨y,u,rfl⟩:=aAl.mp c;obtain⟨_,_,_,_,_,z⟩:=h y u;exact aDU z d
  .cases vs with
   |nil=>exact absurd rfl g
   |cons v vs=>
    simp only[aAz,aBJ];have B:((aCv T::aCA ((λ_=>aCv T)∘b) vs).toArray.all λx=>x==aCv T)=true:=by simp
    simp only[aBY,aDd,B,if_true];refine aAb (aAb ?_);rw[k]at q;exact q
end
theorem lex_irrefl:∀a:List Int,HT.lexLt a a=false
 |[]=>rfl
 |x::Y=>by rw[lexLt_cons,kd rfl];exact lex_irrefl Y
theorem lex_total:∀a b:List Int,HT.lexLt a b=false->HT.lexLt b a=false->a=b
 |[],[],_,_=>rfl
 |[],_::_,h,_=>by rw[F7]at h;cases h
 |_::_,[],_,h=>by rw[F7]at h;cases h
 |x::Y,y::f,c,d=>by
  rw[lexLt_cons]at c d;by_cases e:x=y
  .subst e;rw[kd rfl]at c d;rw[lex_total Y f c d]
  .rw[kz e]at c;rw[kz (aCk e)]at d;have:=of_decide_eq_false c;have:=of_decide_eq_false d;omega
theorem lex_trans:∀a b c:List Int,HT.lexLt a b=true->HT.lexLt b c=true->HT.lexLt a c=true
 |[],[],_,h,_=>by rw[Q0]at h;cases h
 |[],_::_,[],_,h=>by rw[A3]at h;cases h
 |[],_::_,_::_,_,_=>rfl
 |_::_,[],_,h,_=>by rw[A3]at h;cases h
 |_::_,_::_,[],_,h=>by rw[A3]at h;cases h
 |x::Y,y::k,z::l,f,d=>by
  rw[lexLt_cons]at f d⊢;by_cases e:x=y
  .subst e;rw[kd rfl]at f;by_cases g:x=z
   .subst g;rw[kd rfl]at d⊢;exact lex_trans Y k l f d
   .rw[kz g]at d⊢;exact d
  .rw[kz e]at f;have m:=of_decide_eq_true f;by_cases g:y=z
   .subst g;rw[kz e];exact f
   .rw[kz g]at d;have n:=of_decide_eq_true d;rw[kz (by omega)];exact decide_eq_true (by omega)
theorem fL:∀a b c:List Int,HT.lexLt a c=true->HT.lexLt a b=true\/HT.lexLt b c=true
 |[],[],_,h=>.inr h
 |[],_::_,_,_=>.inl rfl
 |_::_,_,[],h=>by rw[A3]at h;cases h
 |_::_,[],_::_,_=>.inr rfl
 |x::Y,y::f,z::g,h=>by
  rw[lexLt_cons]at h;rw[lexLt_cons,lexLt_cons];by_cases e:x=y
  .subst e;rw[kd rfl];by_cases d:x=z
   .subst d;rw[kd rfl]at h⊢;exact fL Y f g h
   .rw[kz d]at h⊢;exact .inr h
  .rw[kz e];by_cases l:x<y
   .exact .inl (decide_eq_true l)
   .refine .inr ?_;by_cases d:x=z
    .subst d;rw[kz (aCk e)];exact decide_eq_true (by omega)
    .rw[kz d]at h;have:=of_decide_eq_true h;rw[kz (by omega)];exact decide_eq_true (by omega)
open Classical in
def kV (vs:List af) (key:af->List Int):KeyKind where
 α:=List Int
 blt:=HT.lexLt
 irrefl:=lex_irrefl
 trans:=lex_trans
 negTrans:=fL
 total:=lex_total
 keyOf:=λv=>if v∈vs then some (key v)else none
 dflt:=[]
open Classical in
def XD (h:v∈vs):(kV vs key).keyOf v=some (key v):=kd h
open Classical in
def XV (e:(kV vs key).keyOf v=some l):v∈vs/\key v=l:=by
 have a:(if v∈vs then some (key v)else none)=some l:=e;split at a
 .rename_i h;cases a;exact⟨h,rfl⟩
 .cases a
def oC (vs:List af):(pairsOf vs).toList=vs.map λv=>(v,v):=by
 unfold pairsOf;rw[List.zip_toArray];show vs.zip vs=_;induction vs with
 |nil=>rfl
 |cons v vs a=>rw[aBN,aAz,a]
section
def HR {a:bc}{vs:List af}{n:Nat}{f:Bool}{key:af->List Int}{P:Fin->bb->Prop}(I:s.heap.get? a=some (seqObj "list" vs.toArray n))
  (J:∀c,kq a s c->∀x∈vs,∀y∈vs,∀(prog:cp) (w:cy) (E:B4) {Q:xC},Q (HT.lexLt (key x) (key y)) c->ai (be prog w) A (keyLt' (tupK f) x y) Q E c)
  (L:2<=vs.length->∀c,kq a s c->∀{Q:SortKind->bb->Prop},Q (tupK f) c->ai (be prog w) A (keyKind' vs.toArray) Q E c) (g:vs.length<64)
  (h:∀m:List af,m.Perm vs->m.Pairwise (λx y=>HT.lexLt (key y) (key x)=false)->P (.done (.ret .none)) {s with heap:=sortedHeap s.heap a vs m.toArray}):
  ai (be prog w) A (Builtin.«list.sort» ⟨[.ref a],[]⟩) P E s:=by
 refine yD (κ:=kV vs key) (f:=f) I (λp e=>?_) (λc o prog w E x y k l Q N O q=>?_) (λT c o {Q} q=>L T c o q) g λb d U=>?_
 .rw[oC]at e;obtain⟨v,r,rfl⟩:=aAl.mp e;exact⟨key v,XD r⟩
 .obtain⟨Y,t⟩:=XV N;obtain⟨m2,u⟩:=XV O;subst t u;exact J c o x Y y m2 prog w E q
 .have B:(arrOf b).toList.Perm (vs.map λv=>(v,v)):=by rw[<-oC];exact aEQ.mp d
  have same:∀p∈(arrOf b).toList,p.1=p.2/\p.2∈vs:=λp e=>by obtain⟨v,r,rfl⟩:=aAl.mp (B.mem_iff.mp e);exact⟨rfl,r⟩
  have ea:(arrOf b).map (·.2)=((arrOf b).toList.map (·.2)).toArray:=by apply Array.ext';simp
  rw[ea];refine h _ ?_ ?_
  .have:=B.map (·.2);rw[aBJ,show((λx:af×af=>x.2)∘λv=>(v,v))=id from rfl,List.map_id]at this;exact this
  .rw[aCm];intro i j hi hj jt;have gg:i<(arrOf b).size:=by simpa using hi
   have C:j<(arrOf b).size:=by simpa using hj
   have z:(arrOf b).size=(pairsOf vs).size:=d.size_eq;have q:=U i j (aDy jt) (by rw[<-z];exact C);have kk:∀k (H:k<(arrOf b).size),KK (kV vs key) (arrOf b) k=key (arrOf b)[k].2:=λk H=>by unfold KK;rw[getElem?_pos _ k H];obtain⟨t,u⟩:=same (arrOf b)[k] (by simp);show((kV vs key).keyOf (arrOf b)[k].1).getD _=_;rw[t,XD u];rfl
   rw[kk i gg,kk j C]at q;rw[aEx,aEx,aGe,aGe];exact q
def sorted_keys {x:af}{vs:List af}{f:Bool}{key:af->List Int}{Q:B4}{C:bb->Prop}(v:∀{r:List af->bb->Prop},(∀s',C s'->r vs s')->ai (be prog w) A.in1 (collect x) r E s)
  (z:∀s',C s'->∀a,(∀b o,s'.heap.get? b=some o->a.heap.get? b=some o)->∀x∈vs,∀y∈vs,∀(prog:cp) (w:cy) (t:cv) (E:B4) (O:t.units<=A.units+5) {Q:xC},Q (HT.lexLt (key x) (key y)) a->ai (be prog w) t (keyLt' (tupK f) x y) Q E a)
  (B:2<=vs.length->∀s',C s'->∀a,(∀b o,s'.heap.get? b=some o->a.heap.get? b=some o)->∀(A:cv) {Q:SortKind->bb->Prop},Q (tupK f) a->ai (be prog w) A (keyKind' vs.toArray) Q E a) (k:vs.length<64)
  (h:∀(s':bb) (d:List af) (h':df) (l:bc),C s'->d.Perm vs->d.Pairwise (λx y=>HT.lexLt (key y) (key x)=false)->(∀b o,s'.heap.get? b=some o->h'.get? b=some o)->s'.heap.objs.size<=l->(∃n,h'.get? l=some (seqObj "list" d.toArray n))->Q (.ref l) {s' with heap:=h'}):
  ai (be prog w) A (call (.builtin "sorted") [x]) Q E s:=by
 refine Calls.call_function_entry kind_sorted plain_sorted entry_sorted (args_sorted1 _) ?_;unfold Builtin.«sorted»;refine aAa (m:=checkCount "sorted" 1 1 _) (aAb ?_);refine aAa (v λs' p=>?_);refine aAa (wpAny_newList ?_);have c:(s'.heap.push<|seqObj "list" vs.toArray 0).get? s'.heap.objs.size=some (seqObj "list" vs.toArray 0):=aAq _ rfl;have u:∀a,kq s'.heap.objs.size {s' with heap:=s'.heap.push (seqObj "list" vs.toArray 0)} a->∀b o,s'.heap.get? b=some o->a.heap.get? b=some o:=λa g b o e=>g b o (aAm<|aAf e) (aAc _ e);refine aAa (aAK (aBn slot_list_sort ⟨_,c,rfl⟩ entry_list_sort (HR (key:=key) (f:=f) c (λa g x H y I prog w E {Q} q=>z s' p a (u a g) x H y I prog w _ E (by simp) q) (λJ a g {Q} q=>B J s' p a (u a g) _ q) k λd L N=>⟨_,rfl,?_⟩)<|args_list_sort _));refine aAb ⟨_,rfl,h s' d _ _ p L N (λb o e=>?_) (aAh _) (sortedHeap_at c)⟩;rw[sortedHeap_old (aAm<|aAf e) (by rw[aBt];exact aBo (aAf e))];exact aAc _ e
end
end TS
namespace DL
open PySem PySem.Spec L2
open PyProof.Rows hiding St
variable [Tabs]
omit [Tabs]in
def AC {ns:List Int}(h:PySem.W.WData.layableAll [PySem.W.WData.list (ns.map PySem.W.WData.int)]=true):∀x∈ns,aBa x<=1048576:=λx a=>by
 have b:=(PySem.W.layW_cons h).1;have c:=PySem.W.layableW_item b (.int x) (aAl.mpr ⟨x,a,rfl⟩);have d:=PySem.W.lay0_int c;have e:PyData.layable0 (.int x)=true:=by simpa[PyData.layableAll0]using d
 exact PyData.bits_of_layable e
def w9 (P:cp)(w:cy)(K:lr)(mg:cH)(base:df)(k:Nat)(x:Str)(n:Nat)(m:List D->R D):Prop:=
 ∃g a b,FnOk P w K mg base sZ k g a b (jz K n m)/\Binds K a b []/\PySem.W.keepIn K (.ref g)=true/\mg x=some (.ref g)
def DO (f:Ev->R (List D))(n:Nat):Prop:=∀ρ a,f ρ=.ok a->a.length=n
def V7:DO R0 0:=λρ a h=>by cases h;rfl
def A0 (h:DO g n):DO (o6 f g) (n+1):=λρ k e=>by
 unfold o6 at e;cases b:f ρ with
 |ok d=>
  rw[b,R.aa0]at e;cases a:g ρ with
  |ok c=>rw[a]at e;cases e;rw[aAv,h ρ c a]
  |ex x=>rw[a]at e;cases e
  |bad=>rw[a]at e;cases e
 |ex x=>rw[b]at e;cases e
 |bad=>rw[b]at e;cases e
section
def wQ (c:w9 X.prog X.w X.K X.mg X.base k x n m)(d:Room k X.A)(h:HN X (e::es) f)(l:DO f n)(o:Gl X x:=by rfl)(q:(x==lM)=false:=by decide)(r:a9 (e::es) X.env=(false,ek e X.env)::a9 es X.env:=by rfl)(s:(d3 a (a9 es X.env)).any (·.1)=false:=by rfl):
  PD X (.Call (.Name x p) (e::es) [] a) (λρ=>(f ρ).bind m):=by
 obtain⟨g,u,v,F,b,t,em⟩:=c;exact UA F d em t b h l o q r s
end
def XZ {P:cp}{w:cy}{K:lr}{mg:cH}{base:df}{x qual:Str}{st:d9}{f:bc}{fd:eQ}{N ps:List Str}{k:Nat}{m:List D->R D}{F:Ev->R Out}(b:Fun K x qual st f fd)(S:FnScope N ps (c6 st))(c:Binds K fd ps [])(e:mg x=some (.ref f))
  (g:∀(L:af) (A:cv) (a:List Env) (s:bb) (H:Hp) (E:XK),Room k (A.deeper (envOfC qual (c6 st) s.heap.objs.size f L))->aW (RN P w K mg base N qual (c6 st) f L A a s H E) (p6 st) F)
  (h:∀ds d,ds.length=ps.length->m ds=.ok d->K3 (F (j4 N ds))=.ok d):w9 P w K mg base (k+1) x ps.length m:=
 ⟨f,fd,ps,fnD b S g h,c,b.kp,e⟩
def n8:∀d a,(R.ok ((i8 [x] b ρ).set 0 (Sl.v d)):R Ev)=.ok a->BJ a (i8 [x] b ρ):=λd a h=>by
 cases h;refine⟨by simp,λi e h c=>?_⟩;cases i with
 |zero=>exact absurd (by simpa[i8]using h.symm) c
 |succ i=>rw[aCV (by lia)];exact h
def DG (sc:kb)(N:List Str)(a:kb)(c:List Str)(b:List Nat):Bool:=
 decide (a.kind=.function)&&a.names.all (λy=>decide (y.2=.free->(y.1,aCb)∉a.names))&&a.names.all (λy=>decide (y.2=.local->a.names.lookup y.1=some .local))&&
 a.names.all (λy=>decide (y.2=.free->sc.names.lookup y.1=some .cell\/sc.names.lookup y.1=some .free))&&decide (b.length=c.length)&&(b.zip c).all (λp=>decide (N[p.1]?=some p.2/\(p.2,NameKind.free)∈a.names))&&decide b.Nodup&&
 a.names.all (λy=>decide (y.2=.free->a.names.lookup y.1=some .free))
def F3 (b:X.env.scope=sc:=by rfl)(c:X.N=N:=by rfl)(h:DG sc N a d e=true:=by decide+kernel):CompSc X a own d e:=by simp only[DG,aAH,aBp,decide_eq_true_eq]at h;obtain⟨⟨⟨⟨⟨⟨⟨f,g⟩,k⟩,l⟩,m⟩,n⟩,o⟩,p⟩:=h;subst b c;refine⟨f,g,k,l,m,λi j x q r=>?_,o,p⟩;refine n (j,x) (aAk (i:=i) ?_);rw[aBE];exact⟨q,r⟩
def TQ (h:DG X.env.scope X.N a b c=true:=by first|kernel_rfl|with_unfolding_all rfl):CompSc X a own b c:=F3 rfl rfl h
end DL
namespace DL.Att2
open PySem PySem.W PySem.Calls PyProof.Rows
def attach_bits {l:OpenLaw}{n:Nat}{q:cp}{b:List Str}{v:(Str->Option af)->df->Prop}{y:cy->df->Prop}{d:DefRec}
  (C:l.most=some n) (p:d.params.defaults=[])
  (call:∀(w:cy) (s c:bb) (mg t:cH) (fa:bc) (o:Obj) (u cd g:af) (a:bc) (vs:List af) (ns:List Int),
   Ground q b [] v w s mg t c.heap->y w c.heap->
   c.heap.get? fa=some o->o.data=.func (docDef d.name d.params d.body d.scope u cd g)->c.heap.CodeRec cd d.name->mg d.name=some (.ref fa)->
   c.heap.get? a=some {cls:=.type "list",data:=.seq vs.toArray}->IntsAre vs ns->ns.length<=n->(∀x∈ns,aBa x<=1048576)->c.gens=#[]->
   gh (be l.prog w) callerA (.call (.ref fa) ⟨[.ref a],[]⟩) (λr s'=>r=.ok (.ret (.bool true))/\OldK c.heap s'.heap/\s'.os=c.os/\AllBare s'.gens) c):
  WalkO q b v y l.row.toRowW d [] (λf vs=>PySem.call f vs):=by
 intro w s c mg t G Y fa o u cd g E kV H I J z L N A B as O e Q T U;obtain rfl:E=.none:=Dflts.none z p;obtain rfl:kV=.none:=Dflts.noKw z;obtain⟨a,vs,ns,rfl,rfl,k,h,m⟩:=Att.script_of C O T;have hb:=DL.AC (ns:=ns) (by first|exact e|exact e.1|(simpa using e));refine enter_call (aDT (call w s c mg t fa o u cd g a vs ns G Y H (fd_plain I) J L k h m hb N) λr s' hq=>?_);obtain⟨rfl,h2,h3,h4⟩:=hq;exact⟨.inl ⟨.bool true,.bool true,[],rfl,λ_=>rfl,.bool true,Att.post_true l _,λ_=>⟨aFh,λ_ hm=>(nomatch hm)⟩⟩,h2,h3,h4⟩
end DL.Att2
namespace DL
open PySem PySem.Spec L2
open PyProof.Rows hiding St
variable [Tabs]
end DL
namespace DL
open PySem L2
abbrev bits (a:Int):Nat:=aBa a
def f9 (h:l5 a b):U6 (.int a) (.int b)=.ok (.int (a*b)):=kd h
def V5 (h:uC b):N6 (.int a) (.int b)=.ok (.int (a.fdiv b)):=kd h
def nN (h:b≠0):X3 (.int a) (.int b)=.ok (.int (a.fmod b)):=kd h
def AI (h:0<=b/\b<=1000000/\a.natAbs<2^64):JQ (.int a) (.int b)=.ok (.int (a^b.toNat)):=kd h
def l5.of (c:bits a<=m)(d:bits b<=n)(e:m<=60000000:=by decide)(f:n<=60000000:=by decide):l5 a b:=⟨aAr c e,aAr d f⟩
def bits_add (c:bits a<=n)(d:bits b<=n):bits (a+b)<=n+1:=by have:=PyProof.Rows.bits_add c d;rw[Nat.max_self]at this;exact this
def bits_sub (c:bits a<=n)(d:bits b<=n):bits (a-b)<=n+1:=by have:=PyProof.Rows.bits_sub c d;rw[Nat.max_self]at this;exact this
def bits_mul (c:bits a<=m)(d:bits b<=n):bits (a*b)<=m+n:=PyProof.Rows.bits_mul c d
def bits_neg (b:bits a<=m):bits (-a)<=m:=PyProof.Rows.bits_neg b
def GZ (h:a.natAbs<2^n):bits a<=n:=PyProof.Rows.intBits_le h
def GD (h:bits a<=n):a.natAbs<2^n:=PyProof.Rows.lt_pow_of_bits h (aAh n)
@[simp]def X4 (d:D)(ρ:Ev):T1 0 (Sl.v d::ρ)=.ok d:=rfl
@[simp]def cA (i:Nat)(x:Sl)(ρ:Ev):T1 (i+1) (x::ρ)=T1 i ρ:=rfl
@[simp]def pW (d:D)(ρ:Ev):rO 0 (Sl.v d::ρ)=.ok d:=rfl
@[simp]def EF (d:List D)(ρ:Ev):rO 0 (Sl.o d::ρ)=.ok (.lst d):=rfl
@[simp]def fY (i:Nat)(x:Sl)(ρ:Ev):rO (i+1) (x::ρ)=rO i ρ:=rfl
@[simp]def oZ (d:D)(ρ:Ev):WF d ρ=.ok d:=rfl
@[simp]def A4 (ρ:Ev)(F:Ev->R Out):B7 (.ok (.nx ρ)) F=F ρ:=rfl
@[simp]def uj (d:D)(F:Ev->R Out):B7 (.ok (.rt d)) F=.ok (.rt d):=rfl
@[simp]def a0s (d:D):K3 (.ok (.rt d))=.ok d:=rfl
@[simp]def a0o (ρ:Ev):K3 (.ok (.nx ρ))=.ok .non:=rfl
@[simp]def aS (f:Ev->R D)(g:Ev->R (List D))(ρ:Ev):o6 f g ρ=(f ρ).bind λd=>(g ρ).bind λds=>.ok (d::ds):=rfl
@[simp]def eV (ρ:Ev):R0 ρ=.ok []:=rfl
@[simp]def a3n (a b:D):bK [a,b]=.ok (.tup [a,b]):=rfl
@[simp]def a3f (a b c:D):bK [a,b,c]=.ok (.tup [a,b,c]):=rfl
@[simp]def a2t (a b c d:D):bK [a,b,c,d]=.ok (.tup [a,b,c,d]):=rfl
@[simp]def a3b:uR []=.ok (.lst []):=rfl
@[simp]def a2x (a b c:D):uR [a,b,c]=.ok (.lst [a,b,c]):=rfl
@[simp]def a3p (x y z:D):U8 (.tup [x,y,z]) (.int 0)=.ok x:=rfl
@[simp]def a2q (x y z:D):U8 (.tup [x,y,z]) (.int 1)=.ok y:=rfl
@[simp]def a3h (x y z:D):U8 (.tup [x,y,z]) (.int 2)=.ok z:=rfl
@[simp]def a3r (x y z t:D):U8 (.tup [x,y,z,t]) (.int 0)=.ok x:=rfl
@[simp]def a3k (x y z t:D):U8 (.tup [x,y,z,t]) (.int 1)=.ok y:=rfl
@[simp]def a2s (x y z t:D):U8 (.tup [x,y,z,t]) (.int 2)=.ok z:=rfl
@[simp]def a3e (x y z t:D):U8 (.tup [x,y,z,t]) (.int 3)=.ok t:=rfl
@[simp]def a2r (x y:D):U8 (.tup [x,y]) (.int 0)=.ok x:=rfl
@[simp]def a3c (x y:D):U8 (.tup [x,y]) (.int 1)=.ok y:=rfl
def N3 (h:qO Y i=some d):U8 (.lst Y) (.int i)=.ok d:=by simp only[U8,h]
def MY {Y:List D}{i:Int}{d:D}(h:qO Y i=some d):U8 (.tup Y) (.int i)=.ok d:=by simp only[U8,h]
@[simp]def a0k (a b:Int):jY (.int a) (.int b)=.ok (.int (a+b)):=rfl
@[simp]def vJ (a b:Int):NP (.int a) (.int b)=.ok (.int (a-b)):=rfl
@[simp]def a0x (a b:Int):ltR (.int a) (.int b)=.ok (.bl (decide (a<b))):=rfl
@[simp]def DK (a b:Int):uq (.int a) (.int b)=.ok (.bl (decide (a<=b))):=rfl
@[simp]def vT (a b:Int):WS (.int a) (.int b)=.ok (.bl (decide (b<a))):=rfl
@[simp]def a2f (a:Int):a0a (.int a)=.ok (.int (-a)):=rfl
@[simp]def FK (b:Bool):qN (.bl b)=.ok b:=rfl
@[simp]def a3t (b:Int):toI (.int b)=.ok (some b):=rfl
@[simp]def nW (Y:List D):HI [.lst Y]=.ok (.int Y.length):=rfl
@[simp]def a1p (Y:List D):HI [.tup Y]=.ok (.int Y.length):=rfl
@[simp]def QP (a:Int):sj [.int a]=.ok (.int (if a<0 then-a else a)):=rfl
@[simp]def wJ (f g:Ev->R Bool)(ρ:Ev):VH f g ρ=(f ρ).bind λb=>if b=true then g ρ else .ok false:=rfl
@[simp]def a1g (f g:Ev->R Bool)(ρ:Ev):orB f g ρ=(f ρ).bind λb=>if b=true then .ok true else g ρ:=rfl
@[simp]def a0l (f:Ev->R Bool)(ρ:Ev):yq f ρ=(f ρ).bind λb=>.ok (!b):=rfl
@[simp]def a1o (a b:Int):KJ (.int a) (.int b)=.ok (.bl (a==b)):=by simp only[KJ,C4,u7];rfl
@[simp]def LC (a b:Int):IE (.int a) (.int b)=.ok (.bl (!(a==b))):=by simp only[IE,C4,u7];rfl
@[simp]def YH (a b c d e f:Int):KJ (.tup [.int a,.int b,.int c]) (.tup [.int d,.int e,.int f])=.ok (.bl (a==d&&(b==e&&c==f))):=by simp[KJ,C4,C5,u7,Y0]
@[simp]def jQ (a b c d e f:Int):IE (.tup [.int a,.int b,.int c]) (.tup [.int d,.int e,.int f])=.ok (.bl (!(a==d&&(b==e&&c==f)))):=by simp[IE,C4,C5,u7,Y0]
def Z4 {α:Type}{Y:List α}{k:Int}(h0:0<=k):qO Y k=Y[k.toNat]?:=by
 unfold qO JE;rw[kd h0];by_cases h:k<Y.length
 .rw[kd h];rfl
 .rw[kz h,aBS.mpr (by omega)];rfl
def M1 (n:Nat)(Y:List D):Prop:=∀x∈Y,∃i,x=.int i/\bits i<=n
def VO {n:Nat}{ns:List Int}(h:∀x∈ns,bits x<=n):M1 n (ns.map D.int):=λx a=>by obtain⟨i,b,rfl⟩:=aAl.mp a;exact⟨i,rfl,h i b⟩
def sF (g:Int->Int)(Y:List D)(k:Int):D:=match Y[k.toNat]? with
 |some d=>d
 |none=>.int (g k)
def JH (h:M1 n Y)(g:Int->Int)(k:Int):∃i,sF g Y k=.int i/\(bits i<=n\/i=g k):=by
 unfold sF;cases e:Y[k.toNat]? with
 |none=>exact⟨_,rfl,.inr rfl⟩
 |some d=>obtain⟨i,rfl,a⟩:=h d (aAk e);exact⟨i,rfl,.inl a⟩
def K7 (b:-((2:Int)^n)<a)(c:a<(2:Int)^n):bits a<=n:=GZ (by
 have e:((2^n:Nat):Int)=(2:Int)^n:=by simp
 omega)
def bits_fmod {a b:Int}{n:Nat}(h0:b≠0)(c:bits b<=n):bits (a.fmod b)<=n:=PyProof.Rows.bits_fmod_by h0 c
def bits_fdiv (c:bits a<=n):bits (a.fdiv b)<=n:=PyProof.Rows.bits_fdiv c
def v7 (h:bits a<=m)(b:m<=n:=by decide):bits a<=n:=aAr h b
@[simp]def a3z:cM [.int 3]=.ok [.int 0,.int 1,.int 2]:=rfl
@[simp]def KE (Y:List D):M6 (.lst Y)=.ok Y:=rfl
@[simp]def tU (Y:List D):EZ (.tup Y)=.ok Y:=rfl
@[simp]def aj (G:D->Ev->R Ev)(ft:Ev->R Bool)(fe:Ev->R D)(ρ:Ev):u6 G ft fe ρ []=.ok []:=rfl
@[simp]def jw (i:Nat)(ft:Ev->R Bool)(fe:Ev->R D)(ρ:Ev)(d:D)(ds:List D):u6 (λd ρ=>.ok (ρ.set i (Sl.v d))) ft fe ρ (d::ds)=(ft (ρ.set i (Sl.v d))).bind λb=>if b=true then(fe (ρ.set i (Sl.v d))).bind λr=>(u6 (λd ρ=>.ok (ρ.set i (Sl.v d))) ft fe ρ ds).bind λa=>.ok (r::a)else u6 (λd ρ=>.ok (ρ.set i (Sl.v d))) ft fe ρ ds:=rfl
@[simp]def a0r (d:D):seen (.v d)=.v d:=rfl
def WI (x:D)(r:List D):U8 (.tup (x::r)) (.int 0)=.ok x:=MY (by rw[Z4 (by decide)];rfl)
def WT (x y:D)(r:List D):U8 (.tup (x::y::r)) (.int 1)=.ok y:=MY (by rw[Z4 (by decide)];rfl)
def WR (x y z:D)(r:List D):U8 (.tup (x::y::z::r)) (.int 2)=.ok z:=MY (by rw[Z4 (by decide)];rfl)
theorem gE (Iv:Nat->Ev->Prop)(d:∀n ρ,Iv (n+1) ρ->c ρ=.ok false\/(c ρ=.ok true/\∃ρ2,F ρ=.ok (.nx ρ2)/\Iv n ρ2))(a:∀ρ,¬Iv 0 ρ):∀n ρ,Iv n ρ->∃m b,S4 c F n ρ=.ok (.nx b)/\Iv m b/\c b=.ok false
 |0,ρ,h=>absurd h (a ρ)
 |n+1,ρ,h=>by
  rcases d n ρ h with e|⟨e,ρ2,f,g⟩
  .exact⟨n+1,ρ,by rw[S4,e];rfl,h,e⟩
  .obtain⟨m,b,k,l,o⟩:=gE Iv d a n ρ2 g;exact⟨m,b,by rw[S4,e];simp only[R.aa0,if_true,f];exact k,l,o⟩
def IR {Iv:Nat->Ev->Prop}(f:∀n ρ,Iv (n+1) ρ->c ρ=.ok false\/(c ρ=.ok true/\∃ρ2,F ρ=.ok (.nx ρ2)/\Iv n ρ2))(h0:Iv n ρ)(g:∀n a,Iv n a->c a=.ok false->K3 (k a)=.ok d)(b:∀ρ,¬Iv 0 ρ:=by(intro ρ;rintro⟨x,y,_,z,_⟩;omega)):
  K3 (B7 (S4 c F n ρ) k)=.ok d:=by
 obtain⟨m,a,e,h,l⟩:=gE Iv f b n ρ h0;rw[e];exact g m a h l
end DL
namespace DL
open PySem PySem.Spec L2
open PyProof.Rows hiding St
section
variable [Tabs]
section
variable{K:lr}
def EnvOk.ae5 (E:EnvOk K d e H O σ ρ)(i:Nat)(h:H a=none)(c:K.lookup a=none)(r:Reps K H O vs Y):
  EnvOk K d e (upd H a (.lst vs)) (λb=>O b\/b=a) (σ.set i (some (.ref a))) (ρ.set i (.o Y)):=
 E.ae2 i h c trivial λf=>⟨a,vs,rfl,.inr rfl,f,j3,r.ab8 h c⟩
def EnvOk.disown (E:EnvOk K d f H O σ ρ)(e:ρ[i]?=some (.o Y)):∃c,EnvOk K d f H c σ (ρ.set i (.v (.lst Y)))/\(∀b,c b->O b):=by obtain⟨a,l,g,m,n,h,k⟩:=E.own i Y e;exact⟨λb=>O b/\b≠a,E.af1 e trivial g (λz=>z) ⟨.ref a,rfl,.lst (K8.of h) (λz=>z.2 rfl) (k.sub λ_ z=>z.1)⟩,λb z=>z.1⟩
def EnvOk.write (E:EnvOk K k l H O σ ρ)(e:ρ[i]?=some (.o Y))(b:σ[i]?=some (some (V.ref a)))(r:Reps K H O c d):
  EnvOk K k l (upd H a (.lst c)) O σ (ρ.set i (.o d))/\Kp H O (upd H a (.lst c)) O:=by
 obtain⟨f,q,m,g,n,h,s⟩:=E.own i Y e;have p:f=a:=by rw[m]at b;cases b;rfl
 subst p;exact E.ae0 e trivial b h trivial trivial λ_ _ _=>⟨f,c,rfl,g,n,j3,r.upd h trivial g⟩
end
section
def tF (X:Cx)(f:Ev->R (List D)):TE:=λσ H Q=>∃g h O ρ,EnvOk X.K g h H O σ ρ/\match f ρ with
 |.ok k=>∀c b a,Same H b->b a=none->Reps X.K b O c k->Q (.ref a) (upd b a<|.lst c)
 |.ex e=>∀d,Same H d->XW X e d
 |.bad=>False
def PF (X:Cx)(e:dA)(f:Ev->R (List D)):Prop:=PE X e (tF X f)
def OZ (I:Inv X b σ H s)(h:H a=some o):X.K.lookup a=none:=by
 cases e:X.K.lookup a with
 |none=>rfl
 |some c=>have:=(I.bs a c<|I.ok.mod.kin a c e).2;rw[h]at this;cases this
def PF.pd (h:PF X e f):PD X e (λρ=>(f ρ).bind λds=>.ok (.lst ds)):=RO h λσ H Q g k O ρ E q=>⟨g,k,O,ρ,E,by
 dsimp only at q;cases b:f ρ with
 |ok ds=>rw[b]at q;intro l m a d c r;exact q _ _ (d.trans<|j6 c _) (.lst (K8.of j3) ((E.grow d).fresh c) (r.same<|j6 c _))
 |ex x=>rw[b]at q;exact q
 |bad=>rw[b]at q;exact q⟩
def jS (h:HN X es f):PF X (.List es d) (λρ=>(f ρ).bind λds=>if ds.length<=sizeLine then .ok ds else .bad):=
 RO (PQ h) λσ H Q e g O ρ E q=>⟨e,g,O,ρ,E,by
  dsimp only at q;cases a:f ρ with
  |ok ds=>
   rw[a,R.aa0]at q;intro k l m c;by_cases b:ds.length<=sizeLine
   .rw[kd b]at q;exact⟨by rw[c.length];exact b,λp n=>q k l p m n c⟩
   .rw[kz b]at q;exact aAi q
  |ex x=>rw[a]at q;exact q
  |bad=>rw[a]at q;exact q⟩
def bY (i:Nat)(L:PF X e f)(Q:X.N.Nodup)(T:X.N[i]?=some x:=by rfl)(U:Loc X.env.scope x:=by first|exact aCy rfl|exact aBP rfl)(Y:fh e (some (.Name x g)) p.line X.env=pure false:=by rfl)(hf:X.fn x=true\/X.env.scope.names.lookup x=some .local:=by first|exact .inl rfl|exact .inr rfl|assumption):
  mG X (.Assign [.Name x g] e p) (λρ=>(f ρ).bind λds=>.ok (.nx (ρ.set i (.o ds)))):=by
 rintro w A h s σ H D I ⟨O,ρ,E,fk,q⟩;dsimp only at q;refine aFl (E9 (L h s σ H (λv B=>∃d c a ds,v=.ref a/\B=upd c a (.lst d)/\Same H c/\c a=none/\Reps X.K c O d ds/\RS X w A H O (.ok (.nx (ρ.set i<|.o ds))) D) I ⟨w,A,O,ρ,E,?_⟩) λv C z9=>?_) Y
 .cases k:f ρ with
  |ok ds=>rw[k,R.aa0]at q;exactλd c a C l r=>⟨d,c,a,ds,rfl,rfl,C,l,r,q⟩
  |ex x=>rw[k]at q;exactλH' s=>q H' (E.same.trans s)
  |bad=>rw[k]at q;exact q
 .obtain⟨y,B,t,r2,d,c,a,ds,k,e2,m,l,r,q'⟩:=z9;subst k e2;refine Q6 t Q T U r2 (λs3 I3=>⟨_,_,I3,?_⟩) hf;have hk:=OZ t (j3 (H:=c) (a:=a) (o:=.lst d));have J:=(E.grow m).ae5 i l hk r;refine q' _ _ _ J (qU t _ J.trk) ?_;exactλb o u n=>⟨by rw[k7 (t4 (m b o u) l)];exact m b o u,λz=>z.elim n (t4 (m b o u) l)⟩
def VJ (i:Nat)(ρ:Ev):Ev:=match ρ[i]? with
 |some (.o Y)=>ρ.set i (.v (.lst Y))
 |_=>ρ
def GA (i:Nat){st:d9}(h:mG X st F):mG X st (λρ=>F (VJ i ρ)):=by
 intro g k f s σ H D I ⟨O,ρ,E,l,q⟩;dsimp only at q;unfold VJ at q;cases e:ρ[i]? with
 |none=>rw[e]at q;exact h g k f s σ H D I ⟨O,ρ,E,l,q⟩
 |some p=>
  rw[e]at q;cases p with
  |x C=>exact h g k f s σ H D I ⟨O,ρ,E,l,q⟩
  |c m φ=>exact h g k f s σ H D I ⟨O,ρ,E,l,q⟩
  |d U=>exact h g k f s σ H D I ⟨O,ρ,E,l,q⟩
  |no=>exact h g k f s σ H D I ⟨O,ρ,E,l,q⟩
  |v d=>exact h g k f s σ H D I ⟨O,ρ,E,l,q⟩
  |o Y=>obtain⟨r,t,sub⟩:=E.disown e;exact h g k f s σ H D I ⟨r,_,t,λa o u z=>l a o u (sub a z),RS.grow q λb o w n=>⟨w,λz=>n (sub b z)⟩⟩
def qQ (i:Nat)(ρ:Ev)(d:D):R Out:=match ρ[i]? with
 |some (.o Y)=>if Y.length<sizeLine then .ok (.nx (ρ.set i<|.o (Y++[d])))else .bad
 |_=>.bad
def P1 (i:Nat)(A:PD X e f)(B:X.N[i]?=some x:=by rfl)(I:xU X.env.scope x:=by first|exact aCy rfl|exact aBP (aCy rfl)|exact aBP (aBP rfl))(J:(x==lM)=false:=by decide)(L:(x==ma)=false:=by decide)(Q:ia (.Name x p) "append" X.env (ek (.Name x p) X.env)=ek (.Name x p) X.env:=by rfl)(T:((d3 g (a9 [e] X.env)).all (λx=>!x.1)&&(backToKw g (keywordEach [] X.env)).all (λx=>x.1.isSome)
   &&decide ([e].length+([]:List Keyword).length+(if([]:List Keyword).isEmpty then 0 else 1)<30))=true:=by rfl) (dg:(b.endLine==g.line)=true:=by rfl) (s:a9 [e] X.env=(false,ek e X.env)::a9 [] X.env:=by rfl) (kn:(d3 g (a9 [] X.env)).any (·.1)=false:=by rfl) (xf:fh (.Call (.Attribute (.Name x p) "append" b) [e] [] g) none n.line X.env=pure false:=by rfl):
  mG X (.Expr (.Call (.Attribute (.Name x p) "append" b) [e] [] g) n) (λρ=>(f ρ).bind (qQ i ρ)):=λH9 O0=>
 yC (mT (XE PySem.F.plainAttrs_list PySem.F.slot_list_append PySem.F.type_list_append rW (L8 B I J L) (i7 A p5 s) Q T dg s kn) xf) λD σ H O ρ E fk q=>by
 cases k:f ρ with
 |ok d=>
  rw[k,R.aa0]at q;unfold qQ at q;cases h:ρ[i]? with
  |none=>rw[h]at q;exact aAi q
  |some t=>
   rw[h]at q;cases t with
   |x C=>exact aAi q
   |c m φ=>exact aAi q
   |d U=>exact aAi q
   |no=>exact aAi q
   |v d=>exact aAi q
   |o Y=>
    dsimp only at q;split at q
    .rename_i hz;obtain⟨a,u,w,h2,h3,y,z⟩:=E.own i Y h;refine⟨_,w,.inl ⟨rfl,u,K8.of y⟩,H9,O0,O,ρ,E,?_⟩;show KB X H O ((f ρ).bind λd=>(R.ok []).bind λds=>.ok (d::ds)) _;rw[k];intro us H1 l r;cases r with
     |cons r rn=>cases rn;have E1:=E.grow l;refine⟨a,u,_,rfl,rfl,l _ _ y,by rw[z.length];exact hz,?_⟩;obtain⟨E2,k2⟩:=E1.write h w ((z.same l).snoc r);exact q σ _ O E2 fk ((Kp.of l).trans k2)
    .exact aAi q
 |ex x=>
  rw[k]at q;cases h:ρ[i]? with
  |none=>exact(q H E.same).elim
  |some t=>exact(q H E.same).elim
 |bad=>rw[k]at q;exact aAi q
def ZX (i:Nat)(ρ:Ev)(d:D):R Out:=match ρ[i]?,d with
 |some (.o Y),.lst a=>if Y.length+a.length<=sizeLine then .ok (.nx (ρ.set i<|.o (Y++a)))else .bad
 |_,_=>.bad
def CU (i:Nat)(ρ:Ev):R (D×Ev):=match ρ[i]? with
 |some (.o Y)=>match Y[Y.length-1]? with
  |some d=>.ok (d,ρ.set i (.o Y.dropLast))
  |none=>.bad
 |_=>.bad
def TL (i:Nat)(s:X.N[i]?=some x:=by rfl)(t:xU X.env.scope x:=by first|exact aCy rfl|exact aBP (aCy rfl)|exact aBP (aBP rfl))(u:(x==lM)=false:=by decide)(w:(x==ma)=false:=by decide)(y:ia (.Name x p) "pop" X.env (ek (.Name x p) X.env)=ek (.Name x p) X.env:=by rfl)(A:(b.endLine==k.line)=true:=by rfl)(B:fh (.Call (.Attribute (.Name x p) "pop" b) [] [] k) none f.line X.env=pure false:=by rfl):
  mG X (.Expr (.Call (.Attribute (.Name x p) "pop" b) [] [] k) f) (λρ=>(CU i ρ).bind λz=>.ok (.nx z.2)):=λH9 O0=>
 yC (mT (OS PySem.F.plainAttrs_list PySem.F.slot_list_pop PySem.F.type_list_pop OC (L8 s t u w) y A) B) λD σ H O ρ E I q=>by
 unfold CU at q;cases e:ρ[i]? with
 |none=>rw[e]at q;exact aAi q
 |some J=>
  rw[e]at q;cases J with
  |x C=>exact aAi q
  |c m φ=>exact aAi q
  |d U=>exact aAi q
  |no=>exact aAi q
  |v d=>exact aAi q
  |o Y=>
   dsimp only at q;cases g:Y[Y.length-1]? with
   |none=>rw[g]at q;exact aAi q
   |some d=>rw[g]at q;obtain⟨a,l,n,h2,h3,r,h⟩:=E.own i Y e;obtain⟨v,L,g2⟩:=h.get g;refine⟨_,n,.inl ⟨rfl,l,K8.of r⟩,a,l,v,rfl,rfl,r,by rw[h.length];exact L,?_⟩;obtain⟨Q,T⟩:=E.write e n h.dropLast;exact q σ _ O Q I T
def DA (j i:Nat)(f:X.N.Nodup)(jt:i≠j:=by decide)(A:X.N[i]?=some x:=by rfl)(B:X.N[j]?=some y:=by rfl)(I:xU X.env.scope x:=by first|exact aCy rfl|exact aBP (aCy rfl)|exact aBP (aBP rfl))(J:(x==lM)=false:=by decide)(L:(x==ma)=false:=by decide)(Q:ia (.Name x p) "pop" X.env (ek (.Name x p) X.env)=ek (.Name x p) X.env:=by rfl)(T:(b.endLine==n.line)=true:=by rfl)(g:Loc X.env.scope y:=by first|exact aCy rfl|exact aBP rfl)(xf:fh (.Call (.Attribute (.Name x p) "pop" b) [] [] n) (some (.Name y py)) h.line X.env=pure false:=by rfl)(hf:X.fn y=true\/X.env.scope.names.lookup y=some .local:=by first|exact .inl rfl|exact .inr rfl|assumption):
  mG X (.Assign [.Name y py] (.Call (.Attribute (.Name x p) "pop" b) [] [] n) h) (λρ=>(CU i ρ).bind λz=>.ok (.nx (z.2.set j (.v z.1)))):=λH9 O0=>
 yC (MC f B g (OS PySem.F.plainAttrs_list PySem.F.slot_list_pop PySem.F.type_list_pop OC (L8 A I J L) Q T) xf hf) λD σ H O ρ E r q=>by
 unfold CU at q;cases e:ρ[i]? with
 |none=>rw[e]at q;exact aAi q
 |some sl=>
  rw[e]at q;cases sl with
  |x C=>exact aAi q
  |c m φ=>exact aAi q
  |d U=>exact aAi q
  |no=>exact aAi q
  |v d=>exact aAi q
  |o Y=>
   dsimp only at q;cases k:Y[Y.length-1]? with
   |none=>rw[k]at q;exact aAi q
   |some d=>rw[k]at q;obtain⟨a,s,t,h2,h3,u,l⟩:=E.own i Y e;obtain⟨v,g1,g2⟩:=l.get k;refine⟨_,t,.inl ⟨rfl,s,K8.of u⟩,a,s,v,rfl,rfl,u,by rw[l.length];exact g1,?_⟩;obtain⟨E2,w⟩:=E.write e t l.dropLast;exact q _ _ O (E2.set j<|w.rep E.trk r g2) r w
def ZB (i:Nat)(ρ:Ev)(k d:D):R Out:=match ρ[i]?,k with
 |some (.o Y),.int k=>match JE Y.length k with
  |some j=>.ok (.nx (ρ.set i<|.o (Y.set j d)))
  |none=>.bad
 |_,_=>.bad
def JJ (i:Nat)(Q:PD X e f)(T:PD X k g)(hN:X.N[i]?=some x:=by rfl)(hv:xU X.env.scope x:=by first|exact aCy rfl|exact aBP (aCy rfl)|exact aBP (aBP rfl))(hd:(x==lM)=false:=by decide)(fm:(x==ma)=false:=by decide)(ha:∀v,ik (.Subscript (.Name x p) k ps) X.env v=(do
   let h<-gn [v] (ek (.Name x p) X.env)
   let t<-gn [v,h] (ek k X.env)
   standAt ps
   gn [v,h,t] (setItem h t v)
   release [v,h,t] []):=by intro _;rfl) (hs:hV [.Subscript (.Name x p) k ps] e u.line X.env=pure false:=by rfl) (hw:h9 [.Subscript (.Name x p) k ps] e X.env=pure none:=by rfl) (l:(eR [.Subscript (.Name x p) k ps] X.env).map (·.2)=[ik (.Subscript (.Name x p) k ps) X.env]:=by rfl):
  mG X (.Assign [.Subscript (.Name x p) k ps] e u) (λρ=>(f ρ).bind λd=>(g ρ).bind λw=>ZB i ρ w d):=λB I=>
 yC (CJ Q (MZ (L8 hN hv hd fm) T RM ha) hs hw l) λD σ H O ρ E fk q=>⟨B,I,O,ρ,E,by
  cases y:f ρ with
  |ok d=>
   rw[y,R.aa0]at q;intro v H1 J r1;have z:=E.grow J;cases n:g ρ with
   |ok w=>
    rw[n,R.aa0]at q;unfold ZB at q;cases r:ρ[i]? with
    |none=>rw[r]at q;exact aAi q
    |some sl=>
     rw[r]at q;cases sl with
     |x C=>exact aAi q
     |c m φ=>exact aAi q
     |d U=>exact aAi q
     |no=>exact aAi q
     |v d=>exact aAi q
     |o Y=>
      obtain⟨a,vs,l,h2,h3,h4,L⟩:=z.own i Y r;refine⟨_,l,B,I,O,ρ,z,?_⟩;rw[n];intro kv H2 b r2;have E2:=z.grow b;cases w with
      |int kk=>
       dsimp only at q;cases A:JE Y.length kk with
       |none=>rw[A]at q;exact aAi q
       |some j=>rw[A]at q;cases r2;refine⟨a,vs,kk,j,rfl,rfl,b _ _ h4,by rw[L.length];exact A,?_⟩;obtain⟨E3,k3⟩:=E2.write r l ((L.same b).set (r1.same b) j);exact q σ _ O E3 fk (((Kp.of J).trans (Kp.of b)).trans k3)
      |_=>exact aAi q
   |ex x=>rw[n]at q;exact(q H E.same).elim
   |bad=>rw[n]at q;exact aAi q
  |ex x=>rw[y]at q;exactλH' s=>q H' (E.same.trans s)
  |bad=>rw[y]at q;exact q⟩
def uD (i:Nat)(own fr:List Str)(U:List Nat)(hN:X.N.Nodup)(hc:X.calm=true)(S:CompSc X f own fr U)(hi:WO X tg iter fi)(hX:∀(g:N2) (fp:List bc) (X':Cx),(∃s9 Ha C,X'=JS X g s9 Ha (own++fr) f (dQ X f C) C fp)->MU X' tg G/\XH X' l ft/\PD X' t fe)(hG:∀ρ d Y,G d (i8 own U ρ)=.ok Y->BJ Y (i8 own U ρ))(hy:X.N[i]?=some y:=by rfl)(hyl:X.env.scope.names.lookup y=some .local:=by rfl)(xf:fh (.ListComp t [⟨tg,iter,l,0⟩] f pos) (some (.Name y py)) spos.line X.env=pure true:=by rfl)(hs:∀x,fo iter X.env x=pure x:=by intro _;rfl):
  mG X (.Assign [.Name y py] (.ListComp t [⟨tg,iter,l,0⟩] f pos) spos) (λρ=>((fi ρ).bind λds=>if ds.length<=sizeLine then(u6 G ft fe (i8 own U ρ) ds).bind λh=>R.ok h else .bad).bind λh=>.ok (.nx (ρ.set i (.o h)))):=by
 rintro H9 O0 g s σ H D I ⟨O,ρ,E,fk,q⟩;dsimp only at q;rw[exec_Assign_Name_used _ _ _ _ xf];refine aAa (aEB<|aAa ?_);show ai _ X.A (do let _<-comprehension (.ListComp t [⟨tg,iter,l,0⟩] f pos) f X.env _ (newList []) false (ek iter X.env) (some<|ik (.Name y py) X.env)) _ _ s;refine aAa (aCu (wpAny_comprehension_free (use:=some (ik (.Name y py) X.env)) (Q:=λ_ u=>SP X g D .next u) rfl hs (fU<|Inv.ab5 I S) S.kind S.names ?_) (λ_ u hq=>aAb (aAb hq)) λ_ _ e=>e);refine E9 (hi g s σ H (λJ H1=>∃ds h,Same H H1/\YQ X.K J H1 O ds/\ds.length<=sizeLine/\u6 G ft fe (i8 own U ρ) ds=.ok h/\RS X H9 O0 H O (.ok (.nx (ρ.set i<|.o h))) D) I ⟨H9,O0,O,ρ,E,qU I O E.trk,?_⟩) λv s1 h1=>E9 h1 λitv s2 h2=>?_
 .cases e1:fi ρ with
  |ex x=>rw[e1]at q;exactλH' s=>q H' (E.same.trans s)
  |bad=>rw[e1]at q;exact q
  |ok ds=>
   rw[e1,R.aa0]at q;intro J H1 s1 hJ;split at q
   .rename_i hl;cases e2:u6 G ft fe (i8 own U ρ) ds with
    |ex x=>rw[e2]at q;exact(q H E.same).elim
    |bad=>rw[e2]at q;exact q.elim
    |ok h=>rw[e2]at q;exact⟨ds,h,s1,hJ,hl,e2,q⟩
   .exact q.elim
 .obtain⟨it,fp,tn,J,H2,e,I2,T,km,f2,ds,h,sm,hJ,hl,hrs,q⟩:=h2;subst e;refine yQ (RR:=λB C=>compPost (be X.prog X.w) X.A X.xe (some<|ik (.Name y py) X.env) (λ_ u=>SP X g D .next u) B C) hc S (hX g fp) (hG ρ) I2 T km f2 (E.grow sm) hJ hrs hl ?_;intro B C u H' m hn hCa k has sm' r nw hC hI;have I3:=hI u.heap (aGB ..);show ai _ X.A (ik (.Name y py) X.env<|.ref B) _ _ u;refine wpAny_assign_Name (sI (i:=i) (v:=.ref B) I3 hN hy (.inl hyl) rfl (λs4 I4 z9=>?_)<|.inr hyl);obtain⟨a,hsb,ha⟩:=z9;have jc:∀x c,X.env.cells.lookup x=some c->c≠C:=λx c hc=>by obtain⟨v,hv⟩:=I2.cell x c hc;exact aAm (aAu hv.lt k)
  have hCL:C≠X.env.locals:=aCC (aAu I2.lt k);have hCa2:C≠a:=by
   rcases ha with ha|ha
   .rw[ha];exact hCL
   .exact aCk (jc y a ha)
  refine⟨m,hn.sameBut hsb hCa2,λh' ke=>?_⟩;obtain⟨H1,vs,zl,L,eH,rr⟩:=nw;subst eH;have E2:=((E.grow sm).grow zl).ae5 i L (OZ I3<|j3 (H:=H1) (a:=B) (o:=.lst vs)) rr;refine⟨_,_,?_,q _ _ _ E2 (qU I3 _ E2.trk) λb o hb n=>⟨by rw[k7 (t4 ((sm.trans zl) b o hb) L)];exact(sm.trans zl) b o hb,λz=>z.elim n (t4 ((sm.trans zl) b o hb) L)⟩⟩;exact I4.turned (t':=s4.toks) (it:=C) (λb o hb e=>(ke.2 b hb).trans e) hC hCL (.inr (aAr I2.sz k)) jc λp hp=>aAm (aAu (aAf (I2.pin p hp).1) k)
def dS (i:Nat)(own t:List Str)(f:List Nat)(hN:X.N.Nodup)(hc:X.calm=true)(S:CompSc X c own t f)(u:WO X w iter T)(hX:∀(g:N2) (fp:List bc) (r:Cx),(∃s9 Ha C,r=JS X g s9 Ha (own++t) c (dQ X c C) C fp)->MU r w G/\XH r h ft/\PD r l fe)(hG:∀ρ d m,G d (i8 own f ρ)=.ok m->BJ m (i8 own f ρ))(hy:X.N[i]?=some y:=by rfl)(A:X.env.scope.names.lookup y=some .local:=by rfl)(xf:fh (.ListComp l [⟨w,iter,h,0⟩] c B) (some (.Name y py)) p.line X.env=pure true:=by rfl)(hs:∀x,fo iter X.env x=pure x:=by intro _;rfl):
  mG X (.Assign [.Name y py] (.ListComp l [⟨w,iter,h,0⟩] c B) p) (λρ=>((T ρ).bind λds=>if ds.length<=sizeLine then(u6 G ft fe (i8 own f ρ) ds).bind λs=>.ok (D.lst s)else .bad).bind λd=>.ok (.nx (ρ.set i (.v d)))):=λU O0=>yC (uD i own t f hN hc S u hX hG hy A xf hs U O0) λD σ H O ρ E fk q=>⟨O,ρ,E,fk,by
 dsimp only at q⊢;cases I:T ρ with
 |ex x=>rw[I]at q;exact q
 |bad=>rw[I]at q;exact q
 |ok ds=>
  rw[I,R.aa0]at q;rw[R.aa0];by_cases hl:ds.length<=sizeLine
  .rw[kd hl]at q⊢;cases J:u6 G ft fe (i8 own f ρ) ds with
   |ex x=>rw[J]at q;exact q
   |bad=>rw[J]at q;exact q
   |ok s=>
    rw[J]at q;intro ao H' O' L f' Q;by_cases u:i<ρ.length
    .obtain⟨O2,E2,sub⟩:=L.disown (i:=i) (Y:=s) (by rw[aBL u]);rw[List.set_set]at E2;exact q ao H' O2 E2 (λa o k z=>f' a o k (sub a z)) λb o hb n=>⟨(Q b o hb n).1,λz=>(Q b o hb n).2 (sub b z)⟩
    .have e:∀x,ρ.set i x=ρ:=λx=>List.set_eq_of_length_le (by lia);have q:RS X U O0 H O (.ok (.nx (ρ.set i<|.v (.lst s)))) D:=q;rw[e]at L q;exact q ao H' O' L f' Q
  .rw[kz hl]at q;exact aAi q⟩
def kH {st:d9}:mG X st (λ_=>.bad):=λa b=>yC NK λD σ H O ρ E c q=>q
end
end
section
theorem bI {α β:Type}[BEq α][LawfulBEq α]:∀{l:List (α×β)} {a:α} {b:β},(l.map (·.1)).Nodup->(a,b)∈l->l.lookup a=some b
 |(x,y)::l,a,b,h,d=>by
  rw[aAz,aAF]at h;rw[aBi];rcases aAd.mp d with e|c
  .cases e;simp
  .have:(a==x)=false:=by rw[beq_eq_false_iff_ne];rintro rfl;exact h.1 (aAl.mpr ⟨(a,b),c,rfl⟩)
   rw[this];exact bI h.2 c
theorem mem_lookup {α β:Type}[BEq α][LawfulBEq α]:∀{l:List (α×β)} {a:α} {b:β},l.lookup a=some b->(a,b)∈l
 |(x,y)::l,a,b,h=>by
  rw[aBi]at h;split at h
  .rename_i q;cases h;rw[eq_of_beq q];exact .head _
  .exact .tail _ (mem_lookup h)
def wU (o:Obj):Prop:=∃v,o.data=.cell v
def eF (H:Hp)(cs:N2):Hp:=λb=>match cs.lookup b with
 |some o=>some (.frz o (.own b))
 |none=>H b
def R3 (H:Hp)(cs:N2):Hp:=λb=>match cs.lookup b with
 |some _=>none
 |none=>H b
section
variable{K:lr}
def fJ (e:cs.lookup b=some o):eF H cs b=some (.frz o (.own b)):=by unfold eF;rw[e]
def Q5 (e:cs.lookup b=none):eF H cs b=H b:=by unfold eF;rw[e]
def bJ (e:cs.lookup b=some o):R3 H cs b=none:=by unfold R3;rw[e]
def M7 (e:cs.lookup b=none):R3 H cs b=H b:=by unfold R3;rw[e]
def D7 (a:∀b o,cs.lookup b=some o->H b=none)(e:H b=some u):eF H cs b=some u:=by
 cases q:cs.lookup b with
 |none=>rw[Q5 q];exact e
 |some o=>rw[a b o q]at e;cases e
def eU (a:∀b o,cs.lookup b=some o->H b=none):Same H (eF H cs):=λb u e=>D7 a e
def x8 (a:∀b o,cs.lookup b=some o->H b=some (.frz o (.own b)))(e:H b=some u)(ne:∀o,cs.lookup b=some o->u≠.frz o (.own b)):R3 H cs b=some u:=by
 cases q:cs.lookup b with
 |none=>rw[M7 q];exact e
 |some o=>rw[a b o q]at e;cases e;exact absurd rfl (ne o q)
def LG (x:fX P w H h)(a:∀b o,cs.lookup b=some o->h.get? b=some o/\H b=none):fX P w (eF H cs) h:=λb u e=>by
 have d:∀b o,cs.lookup b=some o->H b=none:=λb o q=>(a b o q).2;cases q:cs.lookup b with
 |some o=>rw[fJ q]at e;cases e;exact⟨(a b o q).1,⟨o,(a b o q).1⟩⟩
 |none=>rw[Q5 q]at e;exact(x b u e).ab7 (λ_ _ _ z=>z) (λc z=>D7 d z) λc u _ z=>D7 d z
def MF (x:fX P w H h)(d:∀b o,cs.lookup b=some o->H b=some (.frz o (.own b))/\wU o):fX P w (R3 H cs) h:=λb u e=>by
 have g:∀b o,cs.lookup b=some o->H b=some (.frz o (.own b)):=λb o q=>(d b o q).1;cases q:cs.lookup b with
 |some o=>rw[bJ q]at e;cases e
 |none=>rw[M7 q]at e;refine(x b u e).ab7 (λ_ _ _ z=>z) (λc z=>x8 g z λo _ a=>by cases a) λc u f z=>x8 g z λo q a=>?_;subst a;obtain⟨m,l⟩:=f;obtain⟨v,k⟩:=(d c o q).2;rw[l]at k;cases k
def jq (U:Un fs [] (eF H cs) f h h')(k:fX P w f h')(g:∀b o,cs.lookup b=some o->h.get? b=some o/\H b=none/\wU o):Un fs [] H (R3 f cs) h h'/\fX P w (R3 f cs) h'/\∀b o,cs.lookup b=some o->f b=some (.frz o (.own b)):=by
 have l:∀b o,cs.lookup b=some o->H b=none:=λb o q=>(g b o q).2.1;have a:∀b o,cs.lookup b=some o->f b=some (.frz o (.own b)):=λb o q=>U.frzs b o _ (fJ q);refine⟨⟨λb o e n m c=>?_,λb o e n m c=>?_,λb o e n c=>?_,λb o e c=>U.there b o e c,λb Y e=>?_,λb o u e=>?_,λb p e=>?_⟩,MF k λb o q=>⟨a b o q,(g b o q).2.2⟩,a⟩
 .cases q:cs.lookup b with
  |none=>exact U.keep b o e (by rw[Q5 q];exact n) m c
  |some d=>have:=(g b d q).1;rw[e]at this;cases this;exact(k b _<|a b o q).1
 .cases q:cs.lookup b with
  |none=>exact U.slot b o e (by rw[Q5 q];exact n) m c
  |some d=>have:=(g b d q).1;rw[e]at this;cases this;exact⟨o.slots,(k b _<|a b o q).1⟩
 .cases q:cs.lookup b with
  |none=>rw[M7 q];exact U.free b o e (by rw[Q5 q];exact n) c
  |some d=>exact bJ q
 .exact x8 a (U.tups b Y<|D7 l e) λo _ z=>by cases z
 .refine x8 a (U.frzs b o u<|D7 l e) λd q z=>?_;rw[l b d q]at e;cases e
 .exact x8 a (U.tbls b p<|D7 l e) λo _ z=>by cases z
def YT (U:Un fs [] (R3 H cs) d h h')(k:fX P w d h')(g:∀b o,cs.lookup b=some o->h.get? b=some o/\H b=some (.frz o (.own b))/\b∉fs):Un fs [] H (eF d cs) h h'/\fX P w (eF d cs) h'/\Same d (eF d cs):=by
 have l:∀b o,cs.lookup b=some o->H b=some (.frz o (.own b)):=λb o q=>(g b o q).2.1;have f:∀b o,cs.lookup b=some o->d b=none:=λb o q=>U.free b o (g b o q).1 (bJ q) (by simp);have p:∀b o,cs.lookup b=some o->h'.get? b=some o:=λb o q=>U.keep b o (g b o q).1 (bJ q) (g b o q).2.2 (by simp);have a:∀b,H b=none->cs.lookup b=none:=λb n=>by
  cases q:cs.lookup b with
  |none=>rfl
  |some o=>rw[l b o q]at n;cases n
 refine⟨⟨λb o e n m c=>U.keep b o e (by rw[M7 (a b n)];exact n) m c,λb o e n m c=>U.slot b o e (by rw[M7 (a b n)];exact n) m c,λb o e n c=>?_,λb o e c=>U.there b o e c,λb Y e=>?_,λb o u e=>?_,λb r e=>?_⟩,
  LG k λb o q=>⟨p b o q,f b o q⟩,eU f⟩
 .rw[Q5 (a b n)];exact U.free b o e (by rw[M7 (a b n)];exact n) c
 .exact D7 f (U.tups b Y (x8 l e λo _ z=>by cases z))
 .cases q:cs.lookup b with
  |none=>exact D7 f (U.frzs b o u (by rw[M7 q];exact e))
  |some s=>rw[l b s q]at e;cases e;exact fJ q
 .exact D7 f (U.tbls b r (x8 l e λo _ z=>by cases z))
def GQ (c:∀b o,cs.lookup b=some o->H b=some (.frz o (.own b)))(q:V1 K H a Y):V1 K (R3 H cs) a Y:=by
 rcases q with(q|⟨o,q⟩)|q
 .exact .inl (.inl (x8 c q λo _ z=>by cases z))
 .exact .inl (.inr ⟨o,x8 c q λo _ z=>by cases z⟩)
 .exact .inr q
def GO (c:∀b o,cs.lookup b=some o->H b=some (.frz o (.own b)))(q:K8 K H a Y):K8 K (R3 H cs) a Y:=by
 rcases q with(q|⟨o,q⟩)|q
 .exact .inl (.inl (x8 c q λo _ z=>by cases z))
 .exact .inl (.inr ⟨o,x8 c q λo _ z=>by cases z⟩)
 .exact .inr q
def HE {cs:N2}{φ:df->Prop}(a:∀b o,cs.lookup b=some o->H b=some (.frz o (.own b)))(q:H b=some (.ext φ)):R3 H cs b=some (.ext φ):=by
 unfold R3;cases e:cs.lookup b with
 |none=>simpa[e]using q
 |some o=>have:=a b o e;rw[q]at this;cases this
def Rep.hid (a:∀b o,cs.lookup b=some o->H b=some (.frz o (.own b)))(r:Rep K H O v d):Rep K (R3 H cs) O v d:=r.mono (λ_ _ q=>GQ a q) (λ_ _ n q=>⟨n,GO a q⟩) λb φ n q=>⟨n,HE a q⟩
def Reps.hid (a:∀b o,cs.lookup b=some o->H b=some (.frz o (.own b)))(r:Reps K H O v d):Reps K (R3 H cs) O v d:=r.mono (λ_ _ q=>GQ a q) (λ_ _ n q=>⟨n,GO a q⟩) λb φ n q=>⟨n,HE a q⟩
end
variable [Tabs]
section
variable(P:cp) (w:cy) (K:lr) (mg:cH) (base:df) (k:Nat)
def KN (n:Nat)(m:List D->R D)(H:Hp)(O:bc->Prop)(a:bc):Prop:=
 (∃h l p q,H a=some (.frz ⟨h,l,.func p,q⟩ (.own a)))/\
 ∀(A:cv) (b:List Env) (s:bb) (f:List af) (g:List V) (c:List D) (d:D) (Q:VK) (E:XK),Room k A->Env0 P w K mg base A b s H->l7 g f->Reps K H O g c->c.length=n->(∀a,O a->∃o,H a=some o/\Mt o)->Tb H->aQ K O->m c=.ok d->
  (∀v e,Same H e->Rep K e O v d->Q v e)->gh (be P w) A (.call (.ref a) ⟨f,[]⟩) (CR sZ b P w H s Q E) s
end
open Classical in
def callC (Φ:(List D->R D)->Hp->(bc->Prop)->bc->Prop) (i:Nat) (f:Ev->R (List D)):Ev->R D:=λρ=>match ρ[i]? with
 |some (.c m φ)=>if φ=Φ m then(f ρ).bind m else .bad
 |_=>.bad
section
def OM (i:Nat)(ha:HN X (e::es) f)(hl:DO f n)(hr:Room k X.A)(hN:X.N[i]?=some x:=by rfl)(hv:xU X.env.scope x:=by first|exact aCy rfl|exact aBP (aCy rfl)|exact aBP (aBP rfl))(hd:(x==lM)=false:=by decide)(fm:(x==ma)=false:=by decide)(he:a9 (e::es) X.env=(false,ek e X.env)::a9 es X.env:=by rfl)(bh:(d3 h (a9 es X.env)).any (·.1)=false:=by rfl):
  PD X (.Call (.Name x p) (e::es) [] h) (callC (KN X.prog X.w X.K X.mg X.base k n) i f):=by
 refine uI λb s σ H Q I H9 O0 O ρ E q=>?_;unfold callC at q;cases B:ρ[i]? with
 |none=>rw[B]at q;exact q.elim
 |some o=>
  rw[B]at q;cases o with
  |c m φ=>
   dsimp only at q;split at q
   .rename_i C;subst C;obtain⟨a,h1,U⟩:=E.slot i _ B;obtain⟨⟨Y,od,fd,o,hf⟩,_⟩:=U H O (Kp.refl _ _);refine aAR (E9 (L8 hN hv hd fm b s σ H (λv H'=>v=.ref a/\H'=H) I ⟨_,h1,rfl,rfl⟩) λu s1 z9=>?_);obtain⟨v,H1,I1,r1,ev,eH⟩:=z9;subst ev eH;obtain rfl:u=aDz a:=r1;refine PySem.W.callWith_F ⟨Y,od,fd,o,(I1.hok a _ hf).1⟩ (E9 (ha h b s1 σ H1 _ I1 ⟨H9,O0,O,ρ,E,KB.seq q⟩) λus s2 ⟨vs,H2,t,rv,J,e2,L,rr,g⟩=>⟨⟨Y,od,fd,o,(t.hok a _<|L _ _ hf).1⟩,?_⟩) he bh;cases y:m J with
    |ex z=>rw[y]at g;exact(g H2<|Same.refl _).elim
    |bad=>rw[y]at g;exact g.elim
    |ok d=>
     rw[y]at g;have T:=E.grow L;refine wpAny_call (aDT ((U H2 O<|Kp.of L).2 X.A X.stack s2 us vs J d Q (λ_ _ _=>False) hr t.af7 rv rr (hl ρ J e2) T.trk T.tab (qU t O T.trk) y g) λr s' l=>?_);cases r with
     |error e=>exact l.elim
     |ok fl=>
      cases fl with
      |ret u=>exact t.after l
      |next=>exact aAi l
      |brk=>exact aAi l
      |cont=>exact aAi l
   .exact q.elim
  |_=>exact q.elim
end
def spF (K:lr)(Φ:(List D->R D)->Hp->(bc->Prop)->bc->Prop)(M:D->(List D->R D)->(List D->R D)->R D):Sp:=λm H Q _=>∃O v1 f g h k l d,m=[v1,.ref g,.ref k]/\Rep K H O v1 f/\(∀b c,Kp H O b c->Φ h b c g)/\(∀b c,Kp H O b c->Φ l b c k)/\
 (∀a,O a->∃o,H a=some o/\Mt o)/\Tb H/\aQ K O/\M f h l=.ok d/\∀v e,Same H e->Rep K e O v d->Q v e
def kZ (N:List Str)(Φ:(List D->R D)->Hp->(bc->Prop)->bc->Prop)(d:D)(a b:List D->R D):Ev:=.v d::.c a (Φ a)::.c b (Φ b)::aCP (N.length-3) Sl.no
def CI {K:lr}{H:Hp}{O:bc->Prop}{N:List Str}{v1:V}{e:D}{a1 a2:bc}{f g:List D->R D}{Φ:(List D->R D)->Hp->(bc->Prop)->bc->Prop}(r:Rep K H O v1 e)(k:∀c d,Kp H O c d->Φ f c d a1)(l:∀c d,Kp H O c d->Φ g c d a2)
  (t:∀a,O a->∃o,H a=some o/\Mt o) (tb:Tb H):EnvOk K H O H O (start N [v1,.ref a1,.ref a2]) (kZ N Φ e f g)where
 len:=by simp[L2.start,kZ]
 same:=Same.refl H
 sub:=λ_ h=>h
 trk:=t
 trk0:=λa h=>let⟨o,q,_⟩:=t a h;⟨o,q⟩
 tab:=tb
 slot:=λi m h=>by
  match i with
  |0=>cases h;exact⟨v1,rfl,r⟩
  |1=>cases h;exact⟨a1,rfl,k⟩
  |2=>cases h;exact⟨a2,rfl,l⟩
  |i+3=>
   have b:(aCP (N.length-3) Sl.no)[i]?=some m:=h;rw[aBz]at b;split at b
   .cases b;trivial
   .cases b
 inj:=λi j x y a h _ o=>by
  match i with
  |0=>cases h;exact o.elim
  |1=>cases h;exact o.elim
  |2=>cases h;exact o.elim
  |i+3=>
   have b:(aCP (N.length-3) Sl.no)[i]?=some x:=h;rw[aBz]at b;split at b
   .cases b;exact o.elim
   .cases b
section
variable{K:lr}
def fnF {x qual:Str}{st:d9}{f:bc}{fd:eQ}{N ps:List Str}{k:Nat}{M:D->(List D->R D)->(List D->R D)->R D}{Φ:(List D->R D)->Hp->(bc->Prop)->bc->Prop}{F:Ev->R Out}(n:Fun K x qual st f fd)(S:FnScope N ps (c6 st))(p:ps.length=3)
  (t:∀(L:af) (A:cv) (a:List Env) (s:bb) (H:Hp) (E:XK),Room k (A.deeper (envOfC qual (c6 st) s.heap.objs.size f L))->aW (RN P w K mg base N qual (c6 st) f L A a s H E) (p6 st) F)
  (u:∀c g l d,M c g l=.ok d->K3 (F (kZ N Φ c g l))=.ok d):FnOk P w K mg base sZ (k+1) f fd ps (spF K Φ M):=by
 refine n.ok S (λv H Q E z=>by obtain⟨O,v1,c,y,g,B,l,d,e,_⟩:=z;rw[e,p];rfl) (λL A a s H v Q E C z=>?_);obtain⟨O,v1,c,y,g,B,l,d,I,r,J,T,U,Y,fk,e,q⟩:=z;subst I;refine⟨_,t L A a s H E C H O,O,_,CI r J T U Y,fk,?_⟩;have h:=u c g l d e;cases m:F (kZ N Φ c g l)with
 |ok o=>
  rw[m]at h;cases o with
  |rt d'=>have b:R.ok d'=R.ok d:=h;injection b with b;subst b;exact q
  |nx ρ=>have b:R.ok D.non=R.ok d:=h;injection b with b;subst b;exactλao H' O' E' _ _=>q .non H' E'.same .non
  |bk ρ=>cases h
  |ct ρ=>cases h
 |ex x=>rw[m]at h;cases h
 |bad=>rw[m]at h;cases h
end
structure NScope (ps ls fn:List Str)(sc:Scope):Prop where
 kind:sc.kind=.function
 co:sc.isCoroutine=false
 gen:sc.isGenerator=false
 nd:(ps++(ls++fn)).Nodup
 par:∀x∈ps,sc.names.lookup x=some .local
 fre:∀x∈fn,sc.names.lookup x=some .free
 all:∀x,sc.names.lookup x=some .free->x∈fn
 nocell:∀y∈sc.names,y.2≠.cell
abbrev zw (P:cp)(w:cy)(K:lr)(mg:cH)(base:df)(N:List Str)(env:Env)(A:cv)(outer:List Env)(s:bb)(H:Hp):Cx where
 prog:=P
 w:=w
 K:=K
 mg:=mg
 base:=base
 A:=A.deeper env
 N:=N
 s9:=s
 H9:=H
 env:=env
 outer:=outer
 stack:=env::outer
 ex:=[]
 calm:=true
 fn:=λ_=>false
 pn:=[]
 xe:=λ_ _=>False
def L6 {α:Type}(vs:List α)(n:Nat)(no:α)(ws:List α):List α:=vs++(aCP n no++ws)
def iE {α:Type}{vs ws:List α}{n i:Nat}{no a:α}(h:(L6 vs n no ws)[i]?=some a):vs[i]?=some a\/a=no\/(vs.length+n<=i/\ws[i-(vs.length+n)]?=some a):=by
 unfold L6 at h;by_cases c:i<vs.length
 .rw[aAX c]at h;exact .inl h
 .rw[aAB (by lia)]at h;by_cases b:i-vs.length<n
  .rw[aAX (by simpa using b),aBz,kd b]at h;exact .inr (.inl (aAn h).symm)
  .rw[aAB (by simpa using b),aCq]at h;exact .inr (.inr ⟨by lia,by rw[show i-(vs.length+n)=i-vs.length-n by lia];exact h⟩)
def RD {α:Type}{vs ws:List α}{n i:Nat}{no a:α}(h:vs[i]?=some a):(L6 vs n no ws)[i]?=some a:=by unfold L6;rw[aAX (aAy.mp h).1];exact h
def QX {α:Type}{vs ws:List α}{n i:Nat}{no a:α}(h:ws[i]?=some a):(L6 vs n no ws)[vs.length+n+i]?=some a:=by unfold L6;rw[aAB (by lia),aAB (by simp;lia),aCq,show vs.length+n+i-vs.length-n=i by lia];exact h
section
variable{K:lr}
def ED {A:cv}{g:List Env}{s:bb}{H:Hp}{N:List af}{vs wv:List V}{h₁:df}{tk:Nat}(S:NScope ps l fn d)(T:A.handled=none)(k:Env0 P w K mg base A g s H)(C:vs.length=ps.length)(r:l7 vs N)(O:wv.length=fn.length)
  (Q:∀(i:Nat) (x:Str) (v:V),fn[i]?=some x->wv[i]?=some v->∃c u,clos.lookup x=some c/\RelV v u/\s.heap.IsCell c (some u)) (B:∀x c,clos.lookup x=some c->(∃v,s.heap.IsCell c v)/\H c=none)
  (U:∀x y c,clos.lookup x=some c->clos.lookup y=some c->x=y) (Y:h₁.Ns s.heap.objs.size (λx=>(ps.zip N).reverse.lookup x)) (E:∀b o,s.heap.get? b=some o->h₁.get? b=some o):
  Inv (zw P w K mg base (ps++(l++fn)) (PySem.W.envX qual d s.heap.objs.size fa cd clos) A g s H) [] (L6 (vs.map some) l.length none (wv.map some)) H {s with heap:=h₁,toks:=tk}:=by
 have m:∀b:bc,b∉(zw P w K mg base (ps++(l++fn)) (PySem.W.envX qual d s.heap.objs.size fa cd clos) A g s H).ex:=λb z=>absurd (show b∈([]:List bc)from z) (by simp);have J:ps.Nodup:=(aCW.mp S.nd).1;refine⟨⟨k.mod,S.kind,rfl,rfl,aAh _,U,λy n=>?_,λy c hf _=>(by cases hf),λ_=>T,aFZ k.frames,.inr ⟨rfl,rfl⟩,λb z=>absurd z (m b),k.bs,k.bsz,λb _ _=>m b,λb z=>absurd z (m b),k.funs,k.frf⟩,
  rfl,k.bare,Un.kept E,⟨_,Y,λi y v h1 f h3=>?_⟩,λy c h=>?_,k.hok.fresh (aAh _),λy c h=>(B y c h).2,λp hp=>absurd (show p∈([]:N2)from hp) (by simp),k.hok.kept E,?_⟩
 .have n:d.names.lookup y=some .cell\/d.names.lookup y=some .free:=n;rcases n with n|n
  .exact absurd rfl (S.nocell _<|PySem.mem_of_lookup n)
  .have hm:=S.all y n;obtain⟨i,I,e⟩:=aBj hm;have hw:i<wv.length:=by rw[O];exact I
   obtain⟨c,u,q,_⟩:=Q i y wv[i] (by rw[aAg I,e]) (aAg hw);exact⟨c,q⟩
 .have t:(ps++(l++fn))[i]?=some y:=h1;rcases iE f with f|f|⟨h4,f⟩
  .rw[aAG]at f;cases e:vs[i]? with
   |none=>rw[e]at f;cases f
   |some a=>
    rw[e]at f;have L:a=v:=aAn (aAn f);subst L;obtain⟨u,hu,rv⟩:=r.get e;have I:i<ps.length:=by rw[<-C];exact(aAy.mp e).1
    rw[aAX I]at t;refine⟨u,rv,.inl ⟨S.par y (aAk t),?_⟩⟩;refine bI ?_ ?_
    .rw[aFC];refine(List.reverse_perm _).nodup_iff.mpr ?_;rw[List.map_fst_zip (by rw[<-C,r.length];exact aAh _)];exact J
    .rw[aCx];exact aAk (i:=i) (by rw[aBE];exact⟨t,hu⟩)
  .cases f
  .rw[aAj]at h4 f;rw[aAG]at f;cases e:wv[i-(vs.length+l.length)]? with
   |none=>rw[e]at f;cases f
   |some a=>rw[e]at f;have L:a=v:=aAn (aAn f);subst L;rw[aAB (by lia),aAB (by lia),<-C,show i-vs.length-l.length=i-(vs.length+l.length)by lia]at t;obtain⟨c,u,q1,q2,q3⟩:=Q _ y a t e;exact⟨u,q2,.inr ⟨.inr (S.fre y<|aAk t),c,q1,q3.keeps E⟩⟩
 .obtain⟨⟨v,z⟩,_⟩:=B y c h;exact⟨v,z.keeps E⟩
 .unfold L6;simp[C,O]
def CG {H:Hp}{O:bc->Prop}{vs wv:List V}{ds wd:List D}{n:Nat}(r:Reps K H O vs ds)(g:Reps K H O wv wd)(t:∀a,O a->∃o,H a=some o/\Mt o)(tb:Tb H):
  EnvOk K H O H O (L6 (vs.map some) n none (wv.map some)) (L6 (ds.map Sl.v) n .no (wd.map Sl.v))where
 len:=by unfold L6;simp[r.length,g.length]
 same:=Same.refl H
 sub:=λ_ h=>h
 trk:=t
 trk0:=λa h=>let⟨o,q,_⟩:=t a h;⟨o,q⟩
 tab:=tb
 slot:=λi k h=>by
  rcases iE h with h|h|⟨l,h⟩
  .rw[aAG]at h;cases e:ds[i]? with
   |none=>rw[e]at h;cases h
   |some d=>rw[e]at h;have b:Sl.v d=k:=aAn h;subst b;obtain⟨v,c,f⟩:=r.get e;exact⟨v,RD (by rw[aAG,c];rfl),f⟩
  .subst h;trivial
  .rw[aAG,aAj]at h;rw[aAj]at l;cases e:wd[i-(ds.length+n)]? with
   |none=>rw[e]at h;cases h
   |some d=>rw[e]at h;have b:Sl.v d=k:=aAn h;subst b;obtain⟨v,c,f⟩:=g.get e;refine⟨v,?_,f⟩;have:=QX (vs:=vs.map some) (n:=n) (no:=(none:Option V)) (ws:=wv.map some) (i:=i-(ds.length+n)) (a:=some v) (by rw[aAG,c];rfl);rw[aAj,r.length,show ds.length+n+(i-(ds.length+n))=i by lia]at this;exact this
 inj:=λi j x y a h _ o=>by
  rcases iE h with h|h|⟨_,h⟩
  .obtain⟨d,_,rfl⟩:=aAl.mp (aAk h);exact o.elim
  .subst h;exact o.elim
  .obtain⟨d,_,rfl⟩:=aAl.mp (aAk h);exact o.elim
def gz {name:Str}{l:Arguments}{body:List d9}{doc pm ctv:af}{N:bc}{oc:Obj}{k:Nat}{m:List D->R D}{F:Ev->R Out}{H:Hp}{O:bc->Prop}{cs:N2}{wv:List V}{wd:List D}(S:NScope ps ls fn g)
  (hb:∀(A:cv) (f:List Env) (s:bb) (H:Hp),Room k (A.deeper (PySem.W.envX qual g s.heap.objs.size fa (.ref N) clos))->aW (zw P w K mg base (ps++(ls++fn)) (PySem.W.envX qual g s.heap.objs.size fa (.ref N) clos) A f s H) body F)
  (hm:∀ds d,ds.length=ps.length->m ds=.ok d->K3 (F (L6 (ds.map Sl.v) ls.length .no (wd.map Sl.v)))=.ok d)
  (xg:∀(s:bb) (U:List af),U.length=ps.length->BindsTo s (PySem.W.fnX name qual l body g clos .none .none doc pm none (.ref N) ctv) ⟨U,[]⟩ (ps.zip U))
  (hfa:H fa=some (.frz (PySem.W.fnMade name qual l body g clos doc pm N ctv) (.own fa))) (hc:H N=some (.frz oc (.own N))) (de:∃vs t,oc.data=.fields vs/\vs[1]?=some (.str qual t))
  (wu:∀b o,cs.lookup b=some o->H b=some (.frz o (.own b))/\wU o) (ye:∀(i:Nat) (x:Str) (v:V),fn[i]?=some x->wv[i]?=some v->∃c u o,clos.lookup x=some c/\cs.lookup c=some o/\o.data=.cell (some u)/\RelV v u)
  (hcc:∀x c,clos.lookup x=some c->∃o,cs.lookup c=some o) (me:∀x y c,clos.lookup x=some c->clos.lookup y=some c->x=y) (qt:wv.length=fn.length) (hr:Reps K H O wv wd) (hO:∀a,O a->∃o,H a=some o/\Mt o):
  ∀B Y,Kp H O B Y->KN P w K mg base (k+1) ps.length m B Y fa:=by
 intro B Y kp;have fz:∀b o u,H b=some (.frz o u)->B b=some (.frz o u):=λb o u e=>(kp b _ e λz=>by obtain⟨o',q,mt⟩:=hO b z;rw[e]at q;cases q;exact mt).1;have T:∀b o,cs.lookup b=some o->B b=some (.frz o (.own b)):=λb o q=>fz _ _ _ (wu b o q).1;refine⟨⟨_,_,_,_,fz _ _ _ hfa⟩,λA f s U vs ds d Q E qd C rv rr hl ht tb fk em q=>?_⟩;have KX:K.In s.heap:=C.mod.kin.keeps λb o e=>(C.bs b o e).1;have lim:s.heap.NoLimit:=C.mod.nolimit.keeps λb o e=>(C.bs b o e).1;have gfa:=(C.hok fa _<|fz _ _ _ hfa).1;have goc:=(C.hok N _<|fz _ _ _ hc).1;obtain⟨ovs,ot,od1,od2⟩:=de;have hidn:∀b,B b=none->R3 B cs b=none:=λb n=>by
  cases z:cs.lookup b with
  |none=>rw[M7 z];exact n
  |some o=>exact bJ z
 have e1:Env0 P w K mg base A f s (R3 B cs):=⟨C.frames,C.mod,λb o e=>⟨(C.bs b o e).1,hidn b (C.bs b o e).2⟩,C.bsz,C.funs,λb hb=>hidn b (C.frf b hb),MF C.hok λb o z=>⟨T b o z,(wu b o z).2⟩,C.bare⟩;have zr:∀b o,cs.lookup b=some o->s.heap.get? b=some o:=λb o z=>(C.hok b _<|T b o z).1;have cfs:∀b o,cs.lookup b=some o->b∉zU f:=λb o z hb=>by have:=C.frf b hb;rw[T b o z]at this;cases this
 have hul:U.length=ps.length:=by rw[<-rv.length,rr.length];exact hl
 have hvl:vs.length=ps.length:=by rw[rr.length];exact hl
 have rwv:Reps K (R3 B cs) Y wv wd:=(kp.ac0 hO fk hr).hid T;have tb1:Tb (R3 B cs):=λp hp=>x8 T (tb p hp) λo _ z=>by cases z
 have ht1:∀a,Y a->∃o,R3 B cs a=some o/\Mt o:=λa z=>by obtain⟨o,q1,q2⟩:=ht a z;exact⟨o,x8 T q1 λo' _ z'=>by subst z';exact q2,q2⟩
 let Q':VK:=λv H3=>(∀b o,cs.lookup b=some o->H3 b=none)->Q v (eF H3 cs)
 have qq:∀v L,Same (R3 B cs) L->Rep K L Y v d->Q' v L:=λv L sm r hn=>by
  refine q v _ (λb u e=>?_) (r.same<|eU hn);cases z:cs.lookup b with
  |none=>exact D7 hn (sm b u (by rw[M7 z];exact e))
  |some o=>rw[T b o z]at e;cases e;exact fJ z
 have fin:∀{u:af} {s':bb},CE f P w (R3 B cs) s Q' u s'->CE f P w B s Q u s':=λ{u s'} ⟨v,H3,os,bare,un,hok,r,qv⟩=>by obtain⟨U2,k2,zf⟩:=YT un hok λb o z=>⟨zr b o z,T b o z,cfs b o z⟩;exact⟨v,_,os,bare,U2,k2,r,qv λb o z=>un.free b o (zr b o z) (bJ z) (by simp)⟩
 refine codeAny_call_def (fd:=PySem.W.fnX name qual l body g clos .none .none doc pm none (.ref N) ctv) (body:=body) (binds:=ps.zip U) qd.depth gfa rfl lim ⟨N,oc,ovs,ot,rfl,goc,od1,od2⟩ rfl (xg s U hul) S.nocell (λy hy=>S.par y.1 (aDX hy).1) (λh₁ zd hk=>?_) S.co S.gen S.kind;show ai (be P w) (A.deeper<|PySem.W.envX qual g s.heap.objs.size fa (.ref N) clos) (execs body<|PySem.W.envX qual g s.heap.objs.size fa (.ref N) clos) _ _ _;have I:=ED (qual:=qual) (fa:=fa) (cd:=.ref N) (clos:=clos) (tk:=s.toks+(ps.zip U).length) S qd.hd e1 hvl rv qt (λi x v h1 h2=>by
   obtain⟨c,u,o,q1,q2,q3,q4⟩:=ye i x v h1 h2;exact⟨c,u,q1,q4,o,zr c o q2,q3⟩) (λx c h=>by
   obtain⟨o,z⟩:=hcc x c h;obtain⟨v,z2⟩:=(wu c o z).2;exact⟨⟨v,o,zr c o z,z2⟩,bJ z⟩) me zd hk
 have hx:=hb A f s (R3 B cs) (qd.deeper _) (R3 B cs) Y [] _ _ _ {nx:=λ_ L=>Q' .non L,rt:=Q'} I ⟨Y,_,CG (rr.hid T) rwv ht1 tb1,fk,?_⟩
 .refine aCu hx (λfl s' hs=>?_) λe s' hs=>hs.elim;have fin2:∀{ao:St} {L:Hp} {v:V} {u:af},Inv (zw P w K mg base (ps++(ls++fn)) (PySem.W.envX qual g s.heap.objs.size fa (.ref N) clos) A f s<|R3 B cs) [] ao L s'->RelV v u->Q' v L->CE f P w B s Q u s':=
   λ{ao L v u} J rv q=>fin ⟨v,L,J.os,J.bare,J.base,J.hok,rv,q⟩
  cases fl with
  |ret u=>obtain⟨v,ao,L,J,rv,q⟩:=hs;exact fin2 J rv q
  |next=>obtain⟨ao,L,J,q⟩:=hs;exact fin2 (v:=V.non) (u:=Value.none) J rfl q
  |brk=>obtain⟨_,_,_,q⟩:=hs;exact aAi q
  |cont=>obtain⟨_,_,_,q⟩:=hs;exact aAi q
 .have h:=hm ds d hl em;cases e1:F (L6 (ds.map Sl.v) ls.length .no (wd.map Sl.v))with
  |ok o=>
   rw[e1]at h;cases o with
   |rt d'=>have h':R.ok d'=R.ok d:=h;injection h' with h';subst h';exact qq
   |nx ρ=>have h':R.ok D.non=R.ok d:=h;injection h' with h';subst h';exactλao L O' E' _ _=>qq .non L E'.same .non
   |bk ρ=>cases h
   |ct ρ=>cases h
  |ex x=>rw[e1]at h;cases h
  |bad=>rw[e1]at h;cases h
end
end
section
variable [Tabs]
def jG (mg:cH)(base:df):Prop:=∃b a,mg "__builtins__"=some (.ref b)/\b≠builtinsNs/\base.get? b=some a/\a.cls=.type "module"/\a.dict=some builtinsNs/\a.data=.plain
def tJ:∀(l:List af),TriplesOk l->gi d l=some x->gi d (l++[et a,et b,c])=some x:=λl h e=>by
 fun_induction TriplesOk l with
 |case1=>simp[gi]at e
 |case2 k t m u y rest g=>
  simp only[aBm,gi]at e⊢;split at e
  .rename_i f;rw[kd f];exact e
  .rename_i f;rw[kz f];exact g h e
 |case3 l n o=>exact h.elim
def OI (ne:¬(a=d.line/\b=d.col)):∀(l:List af),TriplesOk l->gi d l=none->gi d (l++[et a,et b,c])=none:=λl h e=>by
 fun_induction TriplesOk l with
 |case1=>simp only[aEc,et,gi];rw[kz];simp only[aAH,beq_iff_eq];exact ne
 |case2 k t m u y rest f=>
  simp only[aBm,gi]at e⊢;split at e
  .cases e
  .rename_i g;rw[kz g];exact f h e
 |case3 l n o=>exact h.elim
def gQ (H:Hp)(fa:bc)(name qual:Str)(a:Arguments)(body:List d9)(b:kb)(clos:List (Str×bc)):Prop:=
 ∃c f d h e,H fa=some (.frz (PySem.W.fnMade name qual a body b clos d h c e) (.own fa))/\H c=some (.frz f (.own c))/\∃g t,f.data=.fields g/\g[1]?=some (.str qual t)
def gQ.same (h:gQ H fa name qual a body b clos)(s:Same H H'):gQ H' fa name qual a body b clos:=
 let⟨e,f,c,g,d,k,l,m⟩:=h;⟨e,f,c,g,d,s _ _ k,s _ _ l,m⟩
section
def zZ {Q:Flow->bb->Prop}(I:Inv X pins σ H s)(hB:jG X.mg X.base)(ko:X.env.code=.ref c)(hK:PySem.W.codeHdIn X.K c y=true)(hT:H y=some (.tbl tb))(hq:qualnameIn X.env name name=qual)(hm:(g,qual)∈tb)(hu:∀p∈tb,p.1.line=g.line->p.1.col=g.col->p.2=qual)(ye:closureFor f X.env=pure clos)(hd0:d.defaults=[])(hk0:d.kw_defaults=[])(ha:annTrees d none X.env=[])(hN:X.N.Nodup)(hi:X.N[i]?=some name)(hx:Loc X.env.scope name)(hf:X.fn name=true\/X.env.scope.names.lookup name=some .local)(h:∀fa H' s',Inv X pins (σ.set i (some (.ref fa))) H' s'->Same H H'->gQ H' fa name qual d body f clos->Q .next s'):ai (be X.prog X.w) X.A (exec (.FunctionDef name d body [] none [] f none name g) X.env) Q X.xe s:=by
 refine PySem.W.nestDef_K hd0 hk0 ha ?_;rw[hq];have hg:s.heap.Ns cq X.mg:=I.mod.glob.keeps I.bk;have C:PySem.W.CodeHd s.heap c y:=PySem.W.codeHd_of_K I.kIn hK;obtain⟨ps,hP,x,O⟩:=I.hok y _ hT;have hgP:cq≠y:=λq=>by obtain⟨o,es,ep,e,hd,_⟩:=hg;rw[q,hP]at e;cases e;cases hd
 have T:s.heap.BuiltinsAt X.mg y:=by
  obtain⟨bm,ob,b1,b2,b3,b4,b5,b6⟩:=hB;have B:=I.bk _ _ b3;refine⟨bm,ob,b1,b2,λq=>?_,λq=>?_,B,b4,b5,b6⟩
  .obtain⟨o,es,ep,e,hd,_⟩:=hg;rw[<-q,B]at e;cases e;rw[hd]at b6;cases b6
  .rw[q,hP]at B;cases B;cases b4
 have U:∀b,H b=none->b≠y:=λb n z=>by rw[z,hT]at n;cases n
 have neL:X.env.locals≠y:=U _ I.free;rcases O _ hm with hnf|⟨k,oc,vs,t,hf',yb,fm⟩
 .refine PySem.W.makeFunction_K (mg:=X.mg) ye I.ok.glob hg ko C hP x hnf hgP T λk l m h' tk hx' E ar hrec htb=>?_;obtain⟨c2,oc,vs,t,e2,de,hd,hv⟩:=hrec;cases e2;have old:∀b u,H b=some u->b<s.heap.objs.size:=λb u e=>I.hok.lt e;have hcN:H k=none:=I.hok.fresh E;have J:H h'.objs.size=none:=I.hok.fresh (aAr E<|aDy ar);have ncf:k≠h'.objs.size:=aAm ar;have L:Same H (upd (upd H k<|.frz oc (.own k)) h'.objs.size<|.frz (PySem.W.fnMade name qual d body f clos m ((X.mg "__name__").getD .none) k l) (.own h'.objs.size)):=λb u e=>by rw[k7 (t4 e J),k7 (t4 e hcN)];exact e
  have qe:∀b o,b≠y->s.heap.get? b=some o->(h'.push<|PySem.W.fnMade name qual d body f clos m ((X.mg "__name__").getD .none) k l).get? b=some o:=λb o T e=>aAc _ (hx' b o T e);have lts:∀b o,s.heap.get? b=some o->b≠k/\b≠h'.objs.size:=λb o e=>⟨aAm (aAu (aAf e) E),aAm (aAu (aAf e)<|aAr E<|aDy ar)⟩;have I1:=I.step (H':=upd (upd H k<|.frz oc (.own k)) h'.objs.size (.frz (PySem.W.fnMade name qual d body f clos m ((X.mg "__name__").getD .none) k l) (.own h'.objs.size)))
   (h':=h'.push (PySem.W.fnMade name qual d body f clos m ((X.mg "__name__").getD .none) k l)) (g':=s.gens) (t':=tk) (d':=s.drawn) (ch:=[]) (λ_ z=>nomatch z) (λb o _ _ _ e n=>qe b o (U b n) e) (λb o _ _ _ e n=>⟨o.slots,qe b o (U b n) e⟩)
   (λb o _ e n=>by rw[k7 (lts b o e).2,k7 (lts b o e).1];exact n) (λb o _ e=>by
    by_cases T:b=y
    .subst T;exact⟨_,aAc _ htb⟩
    .exact⟨o,qe b o T e⟩) (λb Y e=>L _ _ e) (λb o u e=>L _ _ e) (λb tb e=>L _ _ e) (λm' hm'=>by
    obtain⟨o,es,ep,e,r⟩:=hm';exact⟨o,es,ep,qe _ o neL e,r⟩) (λb u e=>by
    by_cases yf:b=h'.objs.size
    .subst yf;rw[j3]at e;cases e;exact⟨aAq _ rfl,_,aAq _ rfl⟩
    .rw[k7 yf]at e;by_cases hbc:b=k
     .subst hbc;rw[j3]at e;cases e;exact⟨aAc _ de,_,aAc _ de⟩
     .rw[k7 hbc]at e;by_cases hbP:b=y
      .subst hbP;rw[hT]at e;cases e;refine⟨_,aAc _ htb,?_,λp hp=>?_⟩
       .rw[aGp];exact TriplesOk_snoc _ _ _ _ x
       .rw[aGp];show gi p.1 (ps.toList++[et g.line,et g.col,.ref k])=none\/_;by_cases hpp:(g.line:Int)=p.1.line/\(g.col:Int)=p.1.col
        .rcases O p hp with h0|⟨c3,oc3,vs3,t3,h0,h1,h2⟩
         .have e1:g.line=p.1.line:=by exact_mod_cast hpp.1
          have e2:g.col=p.1.col:=by exact_mod_cast hpp.2
          refine .inr ⟨k,oc,vs,t,?_,by rw[k7 ncf,j3],hd,?_⟩
          .rw[e1,e2];exact codeAmong_snoc _ x h0
          .rw[hu p hp e1.symm e2.symm];exact hv
         .exact .inr ⟨c3,oc3,vs3,t3,tJ _ x h0,L _ _ h1,h2⟩
        .rcases O p hp with h0|⟨c3,oc3,vs3,t3,h0,h1,h2⟩
         .exact .inl (OI hpp _ x h0)
         .exact .inr ⟨c3,oc3,vs3,t3,tJ _ x h0,L _ _ h1,h2⟩
      .refine(I.hok b u e).ab7 (λb2 v hc q=>qe b2 v (λz=>?_) q) (λb2 z=>L _ _ z) λb2 u _ z=>L _ _ z;rcases hc with hc|hc
       .exact hbP (hc▸z)
       .rw[z,hT]at hc;cases hc) I.bare
  refine Q6 I1 hN hi hx (show RelV (.ref h'.objs.size) _ from rfl) (λs' I'=>h _ _ s' I' L ⟨k,oc,m,_,l,j3,by rw[k7 ncf,j3],vs,t,hd,hv⟩) hf
 .refine PySem.W.makeFunction_hit (mg:=X.mg) ye I.ok.glob hg ko C hP x hf' T λl m h' tk hk hsz=>?_;have J:H h'.objs.size=none:=I.hok.fresh hsz;have I1:=I.laid (a:=h'.objs.size) (o:=.frz (PySem.W.fnMade name qual d body f clos m ((X.mg "__name__").getD .none) k l) (.own h'.objs.size)) (h':=h'.push (PySem.W.fnMade name qual d body f clos m ((X.mg "__name__").getD .none) k l)) (t':=tk)
   (λb u e=>aAc _ (hk b u e)) hsz ⟨aAq _ rfl,_,aAq _ rfl⟩
  refine Q6 I1 hN hi hx (show RelV (.ref h'.objs.size) _ from rfl) (λs' I'=>h _ _ s' I' (j6 J _) ⟨k,oc,m,_,l,j3,j6 J _ _ _ yb,vs,t,fm⟩) hf
end
structure Nst where
 name:Str
 qual:Str
 params:Arguments
 body:List Stmt
 scope:Scope
 pos:Pos
 ps:List Str
 ls:List Str
 fn:List Str
 js:List Nat
 F:Ev->R Out
 mm:List D->List D->R D
 i:Nat
abbrev Nst.stmt (n:Nst):d9:=.FunctionDef n.name n.params n.body [] none [] n.scope none n.name n.pos
structure NstOk (X:Cx)(k:Nat)(n:Nst):Prop where
 sc:NScope n.ps n.ls n.fn n.scope
 one:n.ps.length=1
 body:∀(fa:Addr) (cd:Value) (clos:List (Str×Addr)) (A:Around) (outer:List Env) (s:Shared) (H:Hp),Room k (A.deeper (PySem.W.envX n.qual n.scope s.heap.objs.size fa cd clos))->aW (zw X.prog X.w X.K X.mg X.base (n.ps++(n.ls++n.fn)) (PySem.W.envX n.qual n.scope s.heap.objs.size fa cd clos) A outer s H) n.body n.F
 mm:∀wd ds d,wd.length=n.fn.length->ds.length=n.ps.length->n.mm wd ds=.ok d->K3 (n.F (L6 (ds.map Sl.v) n.ls.length .no (wd.map Sl.v)))=.ok d
 bind:∀(clos:List (Str×Addr)) (doc pm cd ctv:Value) (us:List Value),us.length=n.ps.length->bindArgs (PySem.W.fnX n.name n.qual n.params n.body n.scope clos .none .none doc pm none cd ctv) ⟨us,[]⟩=pure (n.ps.zip us)
 len:n.js.length=n.fn.length
 at_:∀(i j:Nat) (x:Str),n.js[i]?=some j->n.fn[i]?=some x->X.N[j]?=some x/\X.env.scope.names.lookup x=some .cell
 d0:n.params.defaults=[]
 k0:n.params.kw_defaults=[]
 nm:X.N[n.i]?=some n.name
 lc:Loc X.env.scope n.name
 st:X.fn n.name=true\/X.env.scope.names.lookup n.name=some .local
 dbg:(n.name==lM)=false
 cdt:(n.name==ma)=false
structure ClosOk (X:Cx)(n:Nst)(clos:List (Str×Addr)):Prop where
 eq:closureFor n.scope X.env=pure clos
 ann:annTrees n.params none X.env=[]
 qn:qualnameIn X.env n.name n.name=n.qual
 sub:∀x c,clos.lookup x=some c->X.env.cells.lookup x=some c
 has:∀x∈n.fn,∃c,clos.lookup x=some c
def cN:List Nat->Ev->R (List D)
 |[],_=>.ok []
 |j::a,ρ=>(T1 j ρ).bind λd=>(cN a ρ).bind λb=>.ok (d::b)
theorem ML {K:lr}{k H:Hp}{l O:bc->Prop}{σ:St}{ρ:Ev}(E:EnvOk K k l H O σ ρ):∀{b:List Nat} {wd:List D},cN b ρ=.ok wd->∃wv,Reps K H O wv wd/\wv.length=b.length/\∀(i j:Nat) (v:V),b[i]?=some j->wv[i]?=some v->σ[j]?=some (some v)
 |[],wd,h=>by cases h;exact⟨[],.nil,rfl,λi j v e=>by simp at e⟩
 |j::b,wd,h=>by
  unfold cN at h;cases a:T1 j ρ with
  |ok d=>
   rw[a,R.aa0]at h;cases c:cN b ρ with
   |ok t=>
    rw[c,R.aa0]at h;cases h;obtain⟨wv,r,m,at_⟩:=ML E c;have:ρ[j]?=some (.v d):=by
     unfold T1 at a;split at a
     .rename_i q;cases a;exact q
     .cases a
    obtain⟨v,n,o⟩:=E.val j d this;refine⟨v::wv,.cons o r,by simp[m],λi p s f g=>?_⟩;cases i with
    |zero=>simp at f g;subst f g;exact n
    |succ i=>exact at_ i p s (by simpa using f) (by simpa using g)
   |ex z=>rw[c]at h;cases h
   |bad=>rw[c]at h;cases h
  |ex z=>rw[a]at h;cases h
  |bad=>rw[a]at h;cases h
section
def U0 (h:df)(a:List (Str×bc)):List (bc×Obj):=a.filterMap λp=>(h.get? p.2).map λo=>(p.2,o)
def K6 (e:(U0 h a).lookup b=some o):h.get? b=some o/\∃x,(x,b)∈a:=by
 obtain⟨p,c,q⟩:=aBZ.mp (mem_lookup e);cases z:h.get? p.2 with
 |none=>rw[z]at q;cases q
 |some d=>rw[z]at q;have f:(p.2,d)=(b,o):=aAn q;injection f with g k;subst g k;exact⟨z,p.1,c⟩
def lT (d:(x,b)∈a)(e:h.get? b=some o):∃c,(U0 h a).lookup b=some c:=by
 have:(b,o)∈U0 h a:=aBZ.mpr ⟨(x,b),d,by show(h.get? b).map _=_;rw[e];rfl⟩;cases q:(U0 h a).lookup b with
 |some c=>exact⟨c,rfl⟩
 |none=>have:=List.lookup_eq_none_iff.mp q (b,o) this;simp at this
def vq (X:Cx)(n1 n2:Nst)(clos1 clos2:List (Str×bc))(f:Ev->R D)(M:D->(List D->R D)->(List D->R D)->R D):TE:=λσ H Q=>∃c d O ρ b a,EnvOk X.K c d H O σ ρ/\σ[n1.i]?=some (some<|V.ref b)/\σ[n2.i]?=some (some<|V.ref a)/\
 gQ H b n1.name n1.qual n1.params n1.body n1.scope clos1/\gQ H a n2.name n2.qual n2.params n2.body n2.scope clos2/\RC X H O ((f ρ).bind λe=>(cN n1.js ρ).bind λg=>(cN n2.js ρ).bind λh=>M e (n1.mm g) (n2.mm h)) Q
def zK {n:Nst}{clos a:List (Str×bc)}{k:Nat}{h:N2}{σ:St}{H:Hp}{s:bb}{H9:Hp}{O0 O:bc->Prop}{ρ:Ev}{fa:bc}{wd:List D}(ok:NstOk X k n)(l:ClosOk X n clos)(I:Inv X h σ H s)(E:EnvOk X.K H9 O0 H O σ ρ)
  (hA:∀p∈clos,p∈a) (r:∀x b,(x,b)∈a->X.env.cells.lookup x=some b) (t:gQ H fa n.name n.qual n.params n.body n.scope clos) (hw:cN n.js ρ=.ok wd):
  ∀z B,Kp (eF H (U0 s.heap a)) O z B->KN X.prog X.w X.K X.mg X.base (k+1) 1 (n.mm wd) z B fa:=by
 obtain⟨c',oc,U,pm,Y,h1,h2,h3⟩:=t;obtain⟨wv,lh,hl,at_⟩:=ML E hw;have hn:∀b o,(U0 s.heap a).lookup b=some o->H b=none:=λb o q=>by obtain⟨_,x,hm⟩:=K6 q;exact I.freeC x b (r x b hm)
 have Q:=eU hn
 suffices C:∀z B,Kp (eF H<|U0 s.heap a) O z B->KN X.prog X.w X.K X.mg X.base (k+1) n.ps.length (n.mm wd) z B fa by rw[ok.one]at C;exact C
 refine gz (cs:=U0 s.heap a) (wv:=wv) (wd:=wd) (F:=n.F) ok.sc (λA g s H hr=>ok.body fa (.ref c') clos A g s H hr) (λds d lb e=>ok.mm wd ds d (by rw[<-lh.length,hl,ok.len]) lb e) (λs us lb=>.of_eq (ok.bind clos U pm (.ref c') Y us lb)) (Q _ _ h1) (Q _ _ h2) h3
  (λb o q=>⟨fJ q,?_⟩) (λi x v J q2=>?_) (λx c q=>?_) (λx y c J q2=>I.ok.inj x y c (l.sub x c J) (l.sub y c q2)) (by rw[hl,ok.len]) (lh.same Q) (E.grow Q).trk
 .obtain⟨e1,x,hm⟩:=K6 q;obtain⟨v,o',e2,e3⟩:=I.cell x b (r x b hm);rw[e1]at e2;cases e2;exact⟨v,e3⟩
 .have hi:i<n.js.length:=by rw[ok.len];exact(aAy.mp J).1
  have ej:n.js[i]?=some n.js[i]:=aAg hi;obtain⟨hN,hk⟩:=ok.at_ i _ x ej J;have hσ:=at_ i _ v ej q2;obtain⟨m,zd,L⟩:=I.loc;obtain⟨u,ru,N⟩:=L _ x v hN hσ (.inr (.inl hk));rcases N with⟨kg,_⟩|⟨_,c,jc,o,T,hd⟩
  .have f:X.env.scope.names.lookup x=some .local:=kg;rw[hk]at f;cases f
  .obtain⟨c2,q3⟩:=l.has x (aAk J);have q4:=l.sub x c2 q3;rw[jc]at q4;cases q4;obtain⟨o',q5⟩:=lT (hA _<|PySem.mem_of_lookup q3) T;have:=(K6 q5).1;rw[T]at this;cases this;exact⟨c,u,o,q3,q5,hd,ru⟩
 .obtain⟨v,o,T,_⟩:=I.cell x c (l.sub x c q);exact lT (hA _<|PySem.mem_of_lookup q) T
def TW (ua:NstOk X k n1)(uc:NstOk X k n2)(yh:ClosOk X n1 clos1)(ji:ClosOk X n2 clos2)(L:∀x b,(x,b)∈clos1++clos2->X.env.cells.lookup x=some b)(FF:FnOk X.prog X.w X.K X.mg X.base sZ kf g gd N (spF X.K (KN X.prog X.w X.K X.mg X.base (k+1) 1) M))(hr:Room kf X.A)(Y:X.mg x=some (.ref g))(hk:PySem.W.keepIn X.K (.ref g)=true)(t:Binds X.K gd N [])(h3:N.length=3)(he:PD X e f)(ya:∀y,X.fn y=true)(hg:Gl X x:=by rfl)(ib:(x==lM)=false:=by decide)(ze:a9 [e,.Name n1.name p1,.Name n2.name B] X.env=(false,ek e X.env)::a9 [.Name n1.name p1,.Name n2.name B] X.env:=by rfl)(zu:a9 [.Name n1.name p1,.Name n2.name B] X.env=(false,ek (.Name n1.name p1) X.env)::a9 [.Name n2.name B] X.env:=by rfl)(hs3:a9 [.Name n2.name B] X.env=(false,ek (.Name n2.name B) X.env)::a9 [] X.env:=by rfl)(bh:(d3 pos (a9 [.Name n1.name p1,.Name n2.name B] X.env)).any (·.1)=false:=by rfl):
  PE X (.Call (.Name x p) [e,.Name n1.name p1,.Name n2.name B] [] pos) (vq X n1 n2 clos1 clos2 f M):=by
 rintro pins s σ H Q I ⟨H9,O0,O,ρ,yg,fa2,E,h1,h2,md1,md2,q⟩;have vis:∀{y:Str},Loc X.env.scope y->xU X.env.scope y:=λh=>h.elim .inl λz=>.inr (.inl z);have mh:PA X [e,.Name n1.name p1,.Name n2.name B] _:=G2 he (G2 (L8 ua.nm (vis ua.lc) ua.dbg ua.cdt) (G2 (L8 uc.nm (vis uc.lc) uc.dbg uc.cdt) Z7 hs3) zu) ze;refine aAR (wB I hg Y ?_ ib);refine PySem.W.callWith_K (h₀:=X.base) I.ok.mod.kin hk (E9 (mh pos pins s σ H (λvs c=>∃v1 T w1 w2 d,vs=[v1,.ref yg,.ref fa2]/\Same H c/\Rep X.K c O v1 T/\cN n1.js ρ=.ok w1/\cN n2.js ρ=.ok w2/\M T (n1.mm w1) (n2.mm w2)=.ok d/\∀v m,Same c m->Rep X.K m O v d->Q v m) I ⟨H9,O0,O,ρ,E,?_⟩) λus C z9=>?_) ze bh
 .cases e1:f ρ with
  |ex z=>rw[e1]at q;exact q
  |bad=>rw[e1]at q;exact q
  |ok T=>
   rw[e1,R.aa0]at q;cases J:cN n1.js ρ with
   |ex z=>rw[J]at q;exact(q H<|Same.refl _).elim
   |bad=>rw[J]at q;exact q.elim
   |ok w1=>
    rw[J,R.aa0]at q;cases e3:cN n2.js ρ with
    |ex z=>rw[e3]at q;exact(q H<|Same.refl _).elim
    |bad=>rw[e3]at q;exact q.elim
    |ok w2=>
     rw[e3,R.aa0]at q;cases e4:M T (n1.mm w1) (n2.mm w2)with
     |ex z=>rw[e4]at q;exact(q H<|Same.refl _).elim
     |bad=>rw[e4]at q;exact q.elim
     |ok d=>rw[e4]at q;exactλv1 c C r1=>⟨_,h1,_,h2,v1,T,w1,w2,d,rfl,C,r1,rfl,rfl,e4,λv m s2 r2=>q v m (C.trans s2) r2⟩
 .obtain⟨vs,c,a,r,v1,T,w1,w2,d,ev,sm,r1,c1,c2,em,qq⟩:=z9;refine⟨a.kIn,?_⟩;subst ev;have E1:=E.grow sm;generalize wu:U0 C.heap (clos1++clos2)=l;have hn:∀b o,l.lookup b=some o->C.heap.get? b=some o/\c b=none/\wU o:=λb o z=>by rw[<-wu]at z;obtain⟨e1,y,Y⟩:=K6 z;obtain⟨v,o',J,e3⟩:=a.cell y b (L y b Y);rw[e1]at J;cases J;exact⟨e1,a.freeC y b (L y b Y),v,e3⟩
  have hn0:∀b o,l.lookup b=some o->c b=none:=λb o z=>(hn b o z).2.1;have U:Same c (eF c l):=eU hn0;have E2:=E1.grow U;have n:=a.af7;have nofr:∀b o,l.lookup b=some o->b∉zU X.stack:=λb o z t=>by
   rw[<-wu]at z;obtain⟨_,y,hmy⟩:=K6 z;rcases aAd.mp (a.ab6 b t)with e|t
   .exact a.cne y b (L y b hmy) e
   .obtain⟨_,o',ho,_⟩:=a.ok.funs.mem t;exact absurd (aAu (aAf ho)<|a.ok.cab y b (ya y)<|L y b hmy) (aBc _)
  have nob:∀b o,X.base.get? b=some o->l.lookup b=none:=λb o e=>by
   cases z:l.lookup b with
   |none=>rfl
   |some o'=>rw[<-wu]at z;obtain⟨_,y,Y⟩:=K6 z;exact absurd (aAu (aAf e)<|aAr a.ok.bsz<|a.ok.cab y b (ya y)<|L y b Y) (aBc _)
  have J:Env0 X.prog X.w X.K X.mg X.base X.A X.stack C (eF c l):=⟨n.frames,n.mod,λb o e=>⟨(n.bs b o e).1,by rw[Q5 (nob b o e)];exact(n.bs b o e).2⟩,n.bsz,n.funs,λb t=>by
   cases z:l.lookup b with
   |none=>rw[Q5 z];exact n.frf b t
   |some o=>exact absurd t (nofr b o z),LG n.hok λb o z=>⟨(hn b o z).1,(hn b o z).2.1⟩,n.bare⟩
  have cl1:=zK ua yh a E1 (λp hp=>aBK _ hp) L (md1.same sm) c1;have cl2:=zK uc ji a E1 (λp hp=>aAI _ hp) L (md2.same sm) c2;rw[wu]at cl1 cl2;have hl:us.length=N.length:=by rw[<-r.length,h3];rfl
  have hbs:=t C us a.kIn (by rw[aBR];exact hl);rw[aBR]at hbs;refine wpAny_call (aDT (FF.run X.A X.stack C (eF c l) ⟨us,[]⟩ us _ (λv m=>Q v (R3 m l)) (λ_ _ _=>False) hr J hbs r ⟨O,v1,T,yg,_,fa2,_,d,rfl,r1.same U,cl1,cl2,E2.trk,E2.tab,qU a O E1.trk,em,λv m s2 r2=>?_⟩) λrr s' hq=>?_)
  .have hz:∀b o,l.lookup b=some o->m b=some (.frz o (.own b)):=λb o z=>s2 _ _ (fJ z);refine qq v _ (λb u e=>x8 hz (s2 b u<|U b u e) λo z _=>?_) (r2.hid hz);rw[hn0 b o z]at e;cases e
  .cases rr with
   |error e=>exact hq.elim
   |ok fl=>
    cases fl with
    |next=>exact aAi hq
    |brk=>exact aAi hq
    |cont=>exact aAi hq
    |ret u=>obtain⟨v,m,os,bare,un,hok,rv,qv⟩:=hq;obtain⟨U2,k2,_⟩:=jq un hok hn;exact a.after ⟨v,_,os,bare,U2,k2,rv,qv⟩
def IQ (a:NstOk X k n1)(h:NstOk X k n2)(B:ClosOk X n1 clos1)(C:ClosOk X n2 clos2)(hA:∀x b,(x,b)∈clos1++clos2->X.env.cells.lookup x=some b)(hB:jG X.mg X.base)(ko:X.env.code=.ref c)(hK:PySem.W.codeHdIn X.K c Pt=true)(m:(Pt,tb)∈Tabs.tbs)(Q:(n1.pos,n1.qual)∈tb)(kh:(n2.pos,n2.qual)∈tb)(fb:∀p∈tb,p.1.line=n1.pos.line->p.1.col=n1.pos.col->p.2=n1.qual)(T:∀p∈tb,p.1.line=n2.pos.line->p.1.col=n2.pos.col->p.2=n2.qual)(ag:n1.i≠n2.i)(hN:X.N.Nodup)(FF:FnOk X.prog X.w X.K X.mg X.base sZ kf g gd n (spF X.K (KN X.prog X.w X.K X.mg X.base (k+1) 1) M))(hr:Room kf X.A)(hm:X.mg x=some (.ref g))(hk:PySem.W.keepIn X.K (.ref g)=true)(hb:Binds X.K gd n [])(h3:n.length=3)(he:PD X e f)(ya:∀y,X.fn y=true)(hg:Gl X x:=by rfl)(ib:(x==lM)=false:=by decide)(ze:a9 [e,.Name n1.name o,.Name n2.name l] X.env=(false,ek e X.env)::a9 [.Name n1.name o,.Name n2.name l] X.env:=by rfl)(zu:a9 [.Name n1.name o,.Name n2.name l] X.env=(false,ek (.Name n1.name o) X.env)::a9 [.Name n2.name l] X.env:=by rfl)(U:a9 [.Name n2.name l] X.env=(false,ek (.Name n2.name l) X.env)::a9 [] X.env:=by rfl)(bh:(d3 Y (a9 [.Name n1.name o,.Name n2.name l] X.env)).any (·.1)=false:=by rfl):
  aW X [n1.stmt,n2.stmt,.Return (some (.Call (.Name x p) [e,.Name n1.name o,.Name n2.name l] [] Y)) rpos] (λρ=>((f ((ρ.set n1.i .no).set n2.i .no)).bind λd1=>(cN n1.js ((ρ.set n1.i .no).set n2.i .no)).bind λw1=>(cN n2.js ((ρ.set n1.i .no).set n2.i .no)).bind λw2=>M d1 (n1.mm w1) (n2.mm w2)).bind λd=>.ok (.rt d)):=by
 rintro H9 O0 t s σ H D I ⟨O,ρ,E,fk,q⟩;refine aEu (zZ (σ:=σ) I hB ko hK (E.tab _ m) B.qn Q fb B.eq a.d0 a.k0 B.ann hN a.nm a.lc a.st λJ H1 s1 I1 sm1 md1=>?_);have E1:EnvOk X.K H9 O0 H1 O (σ.set n1.i<|some<|.ref J) (ρ.set n1.i .no):=(E.grow sm1).put n1.i (λz=>z) trivial;refine aEu (zZ (σ:=σ.set n1.i (some<|.ref J)) I1 hB ko hK (E1.tab _ m) C.qn kh T C.eq h.d0 h.k0 C.ann hN h.nm h.lc h.st λu H2 s2 I2 zf md2=>?_);have L:EnvOk X.K H9 O0 H2 O ((σ.set n1.i<|some<|.ref J).set n2.i (some<|.ref u)) ((ρ.set n1.i .no).set n2.i .no):=(E1.grow zf).put n2.i (λz=>z) trivial;have l1:n1.i<σ.length:=by rw[I.len];exact(aAy.mp a.nm).1
 have l2:n2.i<σ.length:=by rw[I.len];exact(aAy.mp h.nm).1
 refine jB (vV<|TW a h B C hA FF hr hm hk hb h3 he ya hg ib ze zu U bh) t s2 _ H2 D I2 ⟨H9,O0,O,_,J,u,L,?_,?_,md1.same zf,md2,?_⟩
 .rw[aCV (aCk ag),aBL l1]
 .rw[aBL (by rw[List.length_set];exact l2)]
 .revert q;dsimp only;generalize((f<|(ρ.set n1.i .no).set n2.i .no).bind λd1=>(cN n1.js<|(ρ.set n1.i .no).set n2.i .no).bind λw1=>(cN n2.js<|(ρ.set n1.i .no).set n2.i .no).bind λw2=>M d1 (n1.mm w1) (n2.mm w2))=rr;intro q;cases rr with
  |ok d=>exactλv H' s r=>q v H' (L.same.trans s) (r.sub L.sub)
  |ex z=>exactλH' s=>q H' (L.same.trans s)
  |bad=>exact q
end
def vM (K:lr):Sp:=λc H Q _=>∃(a:bc) (b:List Int),c=[.ref a]/\K8 K H a (b.map V.int)/\b.length<=63/\(∀x∈b,aBa x<=1048576)/\Tb H/\∀d,Q (.bl true) d
def UC {P:cp}{w:cy}{K:lr}{mg:cH}{base:df}{k:Nat}{f:bc}{fd:eQ}{m:List D->R D}(F:FnOk P w K mg base sZ k f fd ["script"] (jz K 1 m))
  (h:∀ns:List Int,ns.length<=63->(∀x∈ns,aBa x<=1048576)->m [.lst (ns.map D.int)]=.ok (.bl true)):FnOk P w K mg base sZ k f fd ["script"] (vM K):=
 F.imp<|by rintro n H Q E ⟨a,ns,e,b,c,d,g,q⟩;exact⟨λ_=>False,_,_,by rw[e];exact .cons (.lst b (λz=>z) (Reps.ints ns)) .nil,rfl,λ_ z=>z.elim,g,λ_ _ _ z=>z,h ns c d,λv l _ r=>by cases r;exact q l⟩
def KG {P:cp}{w:cy}{K:lr}{mg mb:cH}{k:Nat}{fa a:bc}{fd:eQ}{c:bb}{vs:List af}{ns:List Int}
  (KX:K.In c.heap) (zd:c.heap.Ns cq mg) (l:c.heap.Ns builtinsNs mb) (hbb:∀x:Str,x≠ "__name__"->mb x=dm x) (L:c.heap.NoLimit) (hB:jG mg c.heap) (hg:c.gens=#[])
  (N:c.heap.get? a=some {cls:=.type "list",data:=.seq vs.toArray}) (hi:IntsAre vs ns) (hl:ns.length<=63) (xh:∀x∈ns,aBa x<=1048576) (hr:Room k callerA)
  (hT:∀p∈Tabs.tbs,c.heap.get? p.1=some (PySem.W.tabObj #[])/\isCodeTable c.heap p.1) (hTd:(Tabs.tbs.map (·.1)).Nodup) (hKn:PySem.W.noTabs K=true)
  (F:∀base:df,K.In base->base.Ns cq mg->jG mg base->FnOk P w K mg base sZ k fa fd ["script"] (vM K)) (xg:∀(s:bb) (u:af),BindsTo s fd ⟨[u],[]⟩ [("script",u)]):
  gh (be P w) callerA (.call (.ref fa) ⟨[.ref a],[]⟩) (λr s'=>r=.ok (.ret (.bool true))/\OldK c.heap s'.heap/\s'.os=c.os/\AllBare s'.gens) c:=by
 have rv:=L2.V6 hi;have O:=hi.length;have jg:ns.length<=sizeLine:=aAr hl (by decide);have E:∀b g,Tabs.tbs.lookup b=some g->c.heap.get? b=some (PySem.W.tabObj #[])/\isCodeTable c.heap b:=λb g e=>hT (b,g) (mem_lookup e);have nta:Tabs.tbs.lookup a=none:=by
  cases e:Tabs.tbs.lookup a with
  |none=>rfl
  |some g=>have:=(E a g e).1;rw[N]at this;cases this
 have noK:∀b o,K.lookup b=some o->Tabs.tbs.lookup b=none:=λb o e=>by
  cases z:Tabs.tbs.lookup b with
  |none=>rfl
  |some g=>have Q:=KX b o e;rw[(E b g z).1]at Q;cases Q;have t:=aBp.mp hKn (b,_) (PySem.W.mem_of_lookupK e);exact absurd (show false=true from t) aAQ
 let put:Hp->Hp:=λH b=>match Tabs.tbs.lookup b with
  |some g=>some (.tbl g)
  |none=>H b
 have oG:∀(H:Hp) b g,Tabs.tbs.lookup b=some g->put H b=some (.tbl g):=λH b g e=>by show(match Tabs.tbs.lookup b with|some g=>some (HO.tbl g)|none=>H b)=_;rw[e]
 have I:∀(H:Hp) b,Tabs.tbs.lookup b=none->put H b=H b:=λH b e=>by show(match Tabs.tbs.lookup b with|some g=>some (HO.tbl g)|none=>H b)=_;rw[e]
 have A:∀f:Hp,(∀b,f b=none\/∃Y,f b=some (.frz {cls:=.type "list",data:=.seq vs.toArray} (.lst Y)))->K8 K (put f) a (ns.map V.int)->(∀b u,f b=some u->ObjOk P w (put f) c.heap b u)->(∀b,f b≠none->b=a)->(f a≠none->K.lookup a=none)->
   gh (be P w) callerA (.call (.ref fa) ⟨[.ref a],[]⟩) (λr s'=>r=.ok (.ret (.bool true))/\OldK c.heap s'.heap/\s'.os=c.os/\AllBare s'.gens) c:=by
  intro f hO hS T hA hK;have U:fX P w (put f) c.heap:=λb u e=>by
   cases z:Tabs.tbs.lookup b with
   |none=>rw[I _ b z]at e;exact T b u e
   |some g=>rw[oG _ b g z]at e;cases e;exact⟨#[],(E b g z).1,trivial,λp _=>.inl rfl⟩
  have oi:∀{b:bc} {o:Obj},c.heap.get? b=some o->put f b=none->(qW c.heap<|put f).get? b=some o:=λe n=>NV e n;have none_of:∀{b:bc} {o:Obj},c.heap.get? b=some o->o≠PySem.W.tabObj #[]->o≠{cls:=.type "list",data:=.seq vs.toArray}->put f b=none:=λ{b o} e n1 n2=>by
   cases z:Tabs.tbs.lookup b with
   |some g=>have:=(E b g z).1;rw[e]at this;exact absurd (aAn this) n1
   |none=>
    rw[I _ b z];cases q:f b with
    |none=>rfl
    |some u=>have e':b=a:=hA b (by rw[q];simp);subst e';rw[N]at e;exact absurd (aAn e).symm n2
  have y:∀{b:bc} {m:cH},c.heap.Ns b m->(qW c.heap<|put f).Ns b m:=λ{b m} ⟨o,es,ep,e,d,r⟩=>⟨o,es,ep,oi e (none_of e (λz=>by rw[z]at d;cases d) λz=>by rw[z]at d;cases d),d,r⟩;have hKb:K.In (qW c.heap<|put f):=λb o e=>oi (KX b o e) (by
   rw[I _ b (noK b o e)];cases q:f b with
   |none=>rfl
   |some u=>have e':b=a:=hA b (by rw[q];simp);subst e';rw[hK (by rw[q];simp)]at e;cases e)
  have hBb:jG mg (qW c.heap<|put f):=by obtain⟨bm,ob,b1,b2,b3,b4,b5,b6⟩:=hB;exact⟨bm,ob,b1,b2,oi b3 (none_of b3 (λz=>by rw[z]at b6;cases b6) λz=>by rw[z]at b6;cases b6),b4,b5,b6⟩
  have hM:Mod K mg (qW c.heap<|put f):=⟨hKb,y zd,⟨mb,y l,hbb⟩,let⟨mc,B,t⟩:=L;⟨mc,y B,t⟩⟩;have e0:Env0 P w K mg (qW c.heap<|put f) callerA [] c (put f):=⟨rfl,hM,λb o e=>VX e,aEq (IM _ _),trivial,λb l=>absurd (show b∈([]:List bc)from l) (by simp),U,.of_eq hg⟩;have tb0:Tb (put f):=λp hp=>oG _ p.1 p.2 (bI hTd hp);refine aDT ((F _ hKb (y zd) hBb).run callerA [] c (put f) ⟨[.ref a],[]⟩ [.ref a] [.ref a] (λv _=>v=.bl true) (λ_ _ _=>False) hr e0 (xg c<|.ref a) (.cons rfl .nil) ⟨a,ns,rfl,hS,hl,xh,tb0,λ_=>rfl⟩) λr s' h=>?_;cases r with
  |error e=>exact(show False from h).elim
  |ok fl=>
   cases fl with
   |next=>exact aAi h
   |brk=>exact aAi h
   |cont=>exact aAi h
   |ret u=>
    obtain⟨v,H',os,bare,un,zg,r',q⟩:=h;have q':v=.bl true:=q;subst q';obtain rfl:u=aDn true:=r';have C:∀b o,c.heap.get? b=some o->s'.heap.get? b=some o\/(isCodeTable c.heap b/\o=PySem.W.tabObj #[]/\∃J,s'.heap.get? b=some (PySem.W.tabObj J)):=λb o e=>by
     cases z:Tabs.tbs.lookup b with
     |some g=>have:=(E b g z).1;rw[e]at this;obtain⟨J,hps,_⟩:=zg b _ (un.tbls b g<|oG _ b g z);exact .inr ⟨(E b g z).2,aAn this,J,hps⟩
     |none=>
      refine .inl ?_;rcases hO b with n|⟨Y,n⟩
      .exact un.keep b o e (by rw[I _ b z];exact n) (by intro z;exact absurd (show b∈([]:List bc)from z) (by simp)) (by simp)
      .have z1:put f b=some (.frz {cls:=.type "list",data:=.seq vs.toArray} (.lst Y)):=by rw[I _ b z];exact n
       have z2:=un.frzs b _ _ z1;obtain⟨Q,_⟩:=U b _ z1;obtain⟨e2,_⟩:=zg b _ z2;rw[e]at Q;cases Q;exact e2
    refine⟨rfl,⟨λb o e=>?_,λb o e=>?_⟩,os,bare⟩
    .rcases C b o e with h|⟨B,t,J,h3⟩
     .exact .inl h
     .subst t;exact .inr (.inl ⟨B,rfl,#[],J,rfl,by rw[Array.empty_append];exact h3⟩)
    .rcases C b o e with h|⟨B,t,J,h3⟩
     .exact⟨o,h⟩
     .exact⟨_,h3⟩
 cases hk:K.lookup a with
 |some o=>have e:=KX a o hk;rw[N]at e;cases e;refine A (λ_=>none) (λ_=>.inl rfl) (.inr ⟨_,vs.toArray,_,hk,rfl,rfl,rfl,by rw[aAp,O];exact jg,by simpa using rv⟩) (λb u z=>by have z':(none:Option HO)=some u:=z;cases z') (λb z=>absurd rfl z) λz=>absurd rfl z
 |none=>
  obtain⟨f,B,t⟩:∃f:Hp,f a=some (.frz {cls:=.type "list",data:=.seq vs.toArray} (.lst (ns.map V.int)))/\∀b,b≠a->f b=none:=⟨λb=>if b=a then _ else none,kd rfl,λb l=>kz l⟩;refine A f (λb=>?_) (.inl (.inr ⟨{cls:=.type "list",data:=.seq vs.toArray},(I f a nta).trans B⟩)) (λb u z=>?_) (λb z=>?_) λ_=>hk
  .by_cases l:b=a
   .subst l;exact .inr ⟨_,B⟩
   .exact .inl (t b l)
  .by_cases l:b=a
   .subst l;rw[B]at z;cases z;exact⟨N,by rw[aAj];exact jg,vs,_,rv,N⟩
   .rw[t b l]at z;cases z
  .by_cases l:b=a
   .exact l
   .exact absurd (t b l) z
def RW {l:PySem.W.OpenLaw}{k:Nat}{q:cp}{e:List Str}{E:(Str->Option af)->df->Prop}{A:cy->df->Prop}{d:DefRec}{K:Params->lr}{B:List bc}
  (H:l.most=some 63) (t:d.params.defaults=[]) (I:Room k callerA)
  (J:∀(w:cy) (h:df),A w h->(K w.params).In h/\∀P∈B,h.get? P=some (PySem.W.tabObj #[]))
  (v:∀p∈Tabs.tbs,p.1∈B/\∃c,∀w:cy,PySem.W.codeHdIn (K w.params) c p.1=true) (x:(Tabs.tbs.map (·.1)).Nodup) (y:∀w:cy,PySem.W.noTabs (K w.params)=true)
  (F:∀(w:cy) (mg:cH) (fa:bc) (h:df),(K w.params).In h->h.Ns cq mg->mg d.name=some (.ref fa)->
   ∃fd:eQ,(∀(s:bb) (u:af),BindsTo s fd ⟨[u],[]⟩ [("script",u)])/\
    ∀base:df,(K w.params).In base->base.Ns cq mg->jG mg base->FnOk l.prog w (K w.params) mg base sZ k fa fd ["script"] (vM (K w.params))):
  PySem.W.WalkO q e E A l.row.toRowW d [] (λf vs=>PySem.call f vs):=by
 refine Att2.attach_bits H t λw s9 ae mg mb fa o pm cd L a vs ns G Y ho hd fm N n m r O Q=>?_;obtain⟨z,U⟩:=J w _ Y;obtain⟨fd,hb,hF⟩:=F w mg fa _ z G.T.g N;refine KG z G.T.g G.T.b G.T.builtins G.T.nolimit G.T.bmain Q n m r O I (λp hp=>?_) x (y w) hF hb;obtain⟨h1,c,h2⟩:=v p hp;have C:=U p.1 h1;exact⟨C,((PySem.W.codeHd_of_K z<|h2 w).tab C).isCodeTable⟩
section
def nj {Y es:List dA}{p:Pos}{env:Env}:a9 (.List Y p::es) env=(false,ek (.List Y p) env)::a9 es env:=rfl
def jx {Y:List dA}{p:Pos}{t:Option dA}{l:Nat}{env:Env}:fh (Expr.List Y p) t l env=pure false:=rfl
end
end
end DL
namespace DL
open PySem L2
def L0 (G:D->Ev->R Ev)(F:Ev->R Out)(d:D)(ρ:Ev):R Out:=match G d ρ with
 |.ok a=>F a
 |_=>.bad
@[simp]def K0 (i:Nat)(F:Ev->R Out)(d:D)(ρ:Ev):L0 (λd ρ=>.ok (ρ.set i (Sl.v d))) F d ρ=F (ρ.set i (.v d)):=rfl
theorem rZ (Iv:Ev->Prop):∀{ds:List D} {ρ:Ev},(∀d∈ds,∀ρ,Iv ρ->∃ρ2,L0 G F d ρ=.ok (.nx ρ2)/\Iv ρ2)->Iv ρ->∃a,F6 G F ds ρ=.ok (.nx a)/\Iv a
 |[],ρ,_,h=>⟨ρ,rfl,h⟩
 |d::ds,ρ,c,h=>by
  obtain⟨ρ2,e,f⟩:=c d aAU ρ h;obtain⟨a,g,k⟩:=rZ Iv (ds:=ds) (ρ:=ρ2) (λd l=>c d (aAe _ l)) f;unfold L0 at e;cases b:G d ρ with
  |ok m=>rw[b]at e;exact⟨a,by rw[F6,b];dsimp only at e⊢;rw[e];exact g,k⟩
  |ex x=>rw[b]at e;cases e
  |bad=>rw[b]at e;cases e
def OB (Iv:Ev->Prop)(b:∀d∈ds,∀ρ,Iv ρ->∃ρ2,L0 G F d ρ=.ok (.nx ρ2)/\Iv ρ2)(h0:Iv ρ)(c:∀a,Iv a->K3 (f a)=.ok d):
  K3 (B7 (F6 G F ds ρ) f)=.ok d:=by
 obtain⟨a,e,h⟩:=rZ Iv b h0;rw[e];exact c a h
@[simp]def uz (G:D->Ev->R Ev)(F:Ev->R Out)(ρ:Ev):F6 G F [] ρ=.ok (.nx ρ):=rfl
def PU {α:Type}{a b:α}:(R.ok a=R.ok b)=(a=b):=by simp
class Bd (a:Int)(n:outParam Nat):Prop where
 h:bits a<=n
def k9 (h:bits a<=m)(b:m<=n):bits a<=n:=aAr h b
section
end
abbrev vd (v:G.V):D:=.tup [.int v.x,.int v.y,.int v.z]
def Sz (n:Nat)(v:G.V):Prop:=bits v.x<=n/\bits v.y<=n/\bits v.z<=n
def Sz.mono (h:Sz m v)(a:m<=n:=by decide):Sz n v:=⟨k9 h.1 a,k9 h.2.1 a,k9 h.2.2 a⟩
def Sz.sub (h:Sz n u)(h':Sz n v):Sz (n+1) (u-v):=⟨bits_sub h.1 h'.1,bits_sub h.2.1 h'.2.1,bits_sub h.2.2 h'.2.2⟩
def Sz.add (h:Sz n u)(h':Sz n v):Sz (n+1) (u+v):=⟨bits_add h.1 h'.1,bits_add h.2.1 h'.2.1,bits_add h.2.2 h'.2.2⟩
def Sz.cr (h:Sz m u)(h':Sz n v):Sz (m+n+1) (G.cr u v):=⟨bits_sub (bits_mul h.2.1 h'.2.2) (bits_mul h.2.2 h'.2.1),bits_sub (bits_mul h.2.2 h'.1) (bits_mul h.1 h'.2.2),bits_sub (bits_mul h.1 h'.2.1) (bits_mul h.2.1 h'.1)⟩
end DL
namespace M
open PySem L2 DL
abbrev pt (a b c:Int):D:=.tup [.int a,.int b,.int c]
abbrev XY (n:Nat)(a b c:Int):Prop:=bits a<=n/\bits b<=n/\bits c<=n
def RQ (k:List D->List D->R D):List D->R D
 |.lst Y::a=>k Y a
 |_=>.bad
def RU (k:List D->List D->R D):List D->R D
 |.tup Y::a=>k Y a
 |_=>.bad
def AV (k:Int->List D->R D):List D->R D
 |.int a::b=>k a b
 |_=>.bad
def aD {k:Int->List D->R D}{ds:List D}{r:D}(h:AV k ds=.ok r):∃a e,ds=.int a::e/\k a e=.ok r:=by
 unfold AV at h;split at h
 .exact⟨_,_,rfl,h⟩
 .cases h
def qM (q:R D):List D->R D
 |[]=>q
 |_=>.bad
def wX (h:RQ k ds=.ok r):∃Y e,ds=.lst Y::e/\k Y e=.ok r:=by
 unfold RQ at h;split at h
 .exact⟨_,_,rfl,h⟩
 .cases h
def uM (h:RU k ds=.ok r):∃Y e,ds=.tup Y::e/\k Y e=.ok r:=by
 unfold RU at h;split at h
 .exact⟨_,_,rfl,h⟩
 .cases h
def D4 (h:qM q ds=.ok r):ds=[]/\q=.ok r:=by
 unfold qM at h;split at h
 .exact⟨rfl,h⟩
 .cases h
def v1 (k:Int->Int->Int->List D->R D):List D->R D:=RU λY e=>AV (λa=>AV λb=>AV λc=>qM (k a b c e)) Y
def v4 (k:Int->Int->Int->Int->List D->R D):List D->R D:=RU λY e=>AV (λa=>AV λb=>AV λc=>AV λd=>qM (k a b c d e)) Y
def v3 (k:Int->Int->Int->List D->R D):List D->R D:=RU λY e=>AV (λa=>AV λb=>AV λc _=>k a b c e) Y
def WL (h:v3 k ds=.ok r):∃a b c t e,ds=.tup (.int a::.int b::.int c::t)::e/\k a b c e=.ok r:=by obtain⟨Y,e,rfl,h⟩:=uM h;obtain⟨a,x,rfl,h⟩:=aD h;obtain⟨b,y,rfl,h⟩:=aD h;obtain⟨c,z,rfl,h⟩:=aD h;exact⟨a,b,c,z,e,rfl,h⟩
def C6 (h:v1 k ds=.ok r):∃a b c e,ds=.tup [.int a,.int b,.int c]::e/\k a b c e=.ok r:=by obtain⟨Y,e,rfl,h⟩:=uM h;obtain⟨a,x,rfl,h⟩:=aD h;obtain⟨b,y,rfl,h⟩:=aD h;obtain⟨c,z,rfl,h⟩:=aD h;obtain⟨rfl,h⟩:=D4 h;exact⟨a,b,c,e,rfl,h⟩
def LU (h:v4 k ds=.ok r):∃a b c d e,ds=.tup [.int a,.int b,.int c,.int d]::e/\k a b c d e=.ok r:=by obtain⟨Y,e,rfl,h⟩:=uM h;obtain⟨a,x,rfl,h⟩:=aD h;obtain⟨b,y,rfl,h⟩:=aD h;obtain⟨c,z,rfl,h⟩:=aD h;obtain⟨d,w,rfl,h⟩:=aD h;obtain⟨rfl,h⟩:=D4 h;exact⟨a,b,c,d,e,rfl,h⟩
def l6:List D->R D:=v1 λa b c=>v1 λd e f=>qM (.ok (pt (d-a) (e-b)<|f-c))
def v5:List D->R D:=v1 λa b c=>v1 λd e f=>qM (if XY 20000000 a b c/\XY 20000000 d e f then .ok (pt (b*f-c*e) (c*d-a*f)<|a*e-b*d)else .bad)
def j5:List D->R D:=v3 λa b c=>v1 λd e f=>qM (if XY 50000000 a b c/\XY 50000000 d e f then .ok (.int (a*d+b*e+c*f))else .bad)
@[simp]def OQ (P Q:G.V):l6 [vd P,vd Q]=.ok (vd (Q-P)):=rfl
def aM (a:Sz 20000000 u)(b:Sz 20000000 v):v5 [vd u,vd v]=.ok (vd (G.cr u v)):=kd ⟨a,b⟩
def bL (a:Sz 50000000 u)(b:Sz 50000000 v):j5 [vd u,vd v]=.ok (.int (G.c8 u v)):=kd ⟨a,b⟩
def rule (k:Int):Int:=7*k*k+10*k+3
def P64:Int:=10^64
def P34:Int:=10^34
def a2z:Int:=P64*P34
def sgn (x:Int):Int:=if 0<x then 1 else if x<0 then-1 else 0
def aV:List D->R D:=v4 λa b c d=>v1 λx y z=>qM (if XY 50000000 a b c/\XY 50000000 x y z then .ok (.int (sgn<|a*x+b*y+c*z-d))else .bad)
def SE (e:XY 50000000 a b c)(f:XY 50000000 x y z):aV [.tup [.int a,.int b,.int c,.int d],pt x y z]=.ok (.int (sgn (a*x+b*y+c*z-d))):=kd ⟨e,f⟩
def WN (i:Nat)(ρ:Ev):Nat:=match ρ[i]? with
 |some (.v (.int b))=>b.natAbs+2
 |_=>0
def yT (c:bits a<=n)(d:bits b<=n):bits (aGC a b)<=n:=by
 refine GZ ?_;have f:=GD c;have g:=GD d;have e:((aGC a b:Nat):Int).natAbs=aGC a b:=by simp
 rw[e];unfold aGC;rcases Nat.eq_zero_or_pos a.natAbs with z|z
 .rw[z,Nat.gcd_zero_left];exact g
 .exact aCt (Nat.gcd_le_left _ z) f
end M
namespace DL
open PySem PySem.Spec L2
open PyProof.Rows hiding St
theorem V6:∀{ns:List Int} {a:List af},l7 (ns.map V.int) a->IntsAre a ns
 |[],_,.nil=>.nil
 |n::ns,_,.cons r t=>by obtain⟨b,rfl⟩:=r;exact .cons n b (V6 t)
section
def jM:List D->Option (List Int)
 |[]=>some []
 |.int i::r=>(jM r).map (i::·)
 |_=>none
theorem kW:∀{ds:List D} {ns:List Int},jM ds=some ns->ds=ns.map D.int
 |[],ns,h=>by cases h;rfl
 |.int i::r,ns,h=>by simp only[jM,aDo]at h;obtain⟨m,a,rfl⟩:=h;rw[kW a];rfl
 |.non::_,_,h=>by cases h
 |.bl _::_,_,h=>by cases h
 |.str _::_,_,h=>by cases h
 |.tup _::_,_,h=>by cases h
 |.lst _::_,_,h=>by cases h
 |.dct::_,_,h=>by cases h
theorem pZ:∀ns:List Int,jM (ns.map D.int)=some ns
 |[]=>rfl
 |n::ns=>by simp[jM,pZ ns]
theorem kA {K:lr}{H:Hp}{O:bc->Prop}:∀{vs:List V} {ns:List Int},Reps K H O vs (ns.map D.int)->vs=ns.map V.int
 |[],[],_=>rfl
 |v::vs,n::ns,.cons h t=>by cases h;rw[kA t];rfl
variable [Tabs]in
end
theorem lF (Iv:List D->Ev->Prop)(c:∀d ds ρ,Iv (d::ds) ρ->∃ρ2,L0 G F d ρ=.ok (.nx ρ2)/\Iv ds ρ2):∀{ds:List D} {ρ:Ev},Iv ds ρ->∃a,F6 G F ds ρ=.ok (.nx a)/\Iv [] a
 |[],ρ,h=>⟨ρ,rfl,h⟩
 |d::ds,ρ,h=>by
  obtain⟨ρ2,e,f⟩:=c d ds ρ h;obtain⟨a,g,k⟩:=lF Iv c f;unfold L0 at e;cases b:G d ρ with
  |ok l=>rw[b]at e;exact⟨a,by rw[F6,b];dsimp only at e⊢;rw[e];exact g,k⟩
  |ex x=>rw[b]at e;cases e
  |bad=>rw[b]at e;cases e
def eG (Iv:List D->Ev->Prop)(b:∀d ds ρ,Iv (d::ds) ρ->∃ρ2,L0 G F d ρ=.ok (.nx ρ2)/\Iv ds ρ2)(h0:Iv ds ρ)(c:∀a,Iv [] a->K3 (f a)=.ok d):
  K3 (B7 (F6 G F ds ρ) f)=.ok d:=by
 obtain⟨a,e,h⟩:=lF Iv b h0;rw[e];exact c a h
def pF {Post:Ev->Prop}(Iv:Nat->Ev->Prop)(d:∀n ρ,Iv (n+1) ρ->c ρ=.ok false\/(c ρ=.ok true/\∃ρ2,F ρ=.ok (.nx ρ2)/\Iv n ρ2))(b:∀ρ,¬Iv 0 ρ)(h0:Iv n ρ)(f:∀m a,Iv m a->c a=.ok false->Post a):∃ρ2,S4 c F n ρ=.ok (.nx ρ2)/\Post ρ2:=by obtain⟨m,a,e,h,g⟩:=gE Iv d b n ρ h0;exact⟨a,e,f m a h g⟩
end DL
namespace M
open PySem L2 DL
abbrev xA (n:G.V)(d:Int):D:=.tup [.int n.x,.int n.y,.int n.z,.int d]
def F9:List D->R D:=v1 λa b c=>qM (.ok (.int (G.o7 ⟨a,b,c⟩)))
def CS (v:G.V):F9 [vd v]=.ok (.int (G.o7 v)):=rfl
def Sz3 (P Q R:G.V):Prop:=Sz 1000 P/\Sz 1000 Q/\Sz 1000 R
open Classical in
def S6:List D->R D:=v1 λa b c=>v1 λd e f=>v1 λg h i=>qM (
 if Sz3 ⟨a,b,c⟩ ⟨d,e,f⟩ ⟨g,h,i⟩/\G.cr ((⟨d,e,f⟩:G.V)-⟨a,b,c⟩) ((⟨g,h,i⟩:G.V)-⟨a,b,c⟩)≠0 then .ok (xA (G.d5 ⟨a,b,c⟩ ⟨d,e,f⟩ ⟨g,h,i⟩).1 (G.d5 ⟨a,b,c⟩ ⟨d,e,f⟩ ⟨g,h,i⟩).2)else .bad)
def PZ {P Q R:G.V}(h:Sz3 P Q R)(a:G.cr (Q-P) (R-P)≠0):S6 [vd P,vd Q,vd R]=.ok (xA (G.d5 P Q R).1 (G.d5 P Q R).2):=kd ⟨h,a⟩
def uJ (h:Sz n v):bits (G.o7 v:Nat)<=n:=by
 have e:((G.o7 v:Nat):Int)=aGC (aGC v.x v.y:Nat) v.z:=by simp[G.o7,aGC]
 rw[e];exact yT (yT h.1 h.2.1) h.2.2
def cQ {a g:Int}(h:0<g):a.fdiv g=a/g:=Int.fdiv_eq_ediv_of_nonneg a (aAJ h)
end M
namespace DL
open PySem PySem.Spec L2
open PyProof.Rows hiding St
variable [Tabs]
mutual
inductive HV (h:Heap):Value->D->Prop
 |int (i:Int) (t:Tok):HV h (.int i t) (.int i)
 |tup {a:Addr} {items:Array Value} {ds:List D} (p:IsTup h a items) (r:HVs h items.toList ds):HV h (.ref a) (.tup ds)
inductive HVs (h:Heap):List Value->List D->Prop
 |nil:HVs h [] []
 |cons {v:Value} {d:D} {vs:List Value} {ds:List D} (r:HV h v d) (t:HVs h vs ds):HVs h (v::vs) (d::ds)
end
mutual
def nE:D->Bool
 |.int _=>true
 |.tup Y=>fM Y
 |_=>false
def fM:List D->Bool
 |[]=>true
 |x::Y=>nE x&&fM Y
end
theorem gH:∀Y:List D,uQ Y=Y.map n4
 |[]=>rfl
 |x::Y=>by rw[uQ,gH Y];rfl
section
mutual
theorem HV.keeps (k:∀b o,h.get? b=some o->o.cls=.type "tuple"->h'.get? b=some o):∀{v:af} {d:D},HV h v d->HV h' v d
 |_,_,.int i t=>.int i t
 |_,_,.tup p r=>.tup (by obtain⟨o,e,c,n,d⟩:=p;exact⟨o,k _ _ e c,c,n,d⟩) (HVs.keeps k r)
theorem HVs.keeps (k:∀b o,h.get? b=some o->o.cls=.type "tuple"->h'.get? b=some o):∀{v:List af} {d:List D},HVs h v d->HVs h' v d
 |_,_,.nil=>.nil
 |_,_,.cons r t=>.cons (HV.keeps k r) (HVs.keeps k t)
end
mutual
theorem HV.inj:∀{v:af} {d d':D},HV h v d->HV h v d'->d=d'
 |_,_,_,.int i t,.int _ _=>rfl
 |_,_,_,.tup p r,.tup f g=>by obtain⟨o,e,c,n,k⟩:=p;obtain⟨l,a,m,s,b⟩:=f;rw[e]at a;cases a;rw[k]at b;injection b with q _;subst q;rw[HVs.inj r g]
theorem HVs.inj:∀{v:List af} {d d':List D},HVs h v d->HVs h v d'->d=d'
 |_,_,_,.nil,.nil=>rfl
 |_,_,_,.cons r t,.cons a b=>by rw[HV.inj r a,HVs.inj t b]
end
theorem HVs.length:∀{v:List af} {d:List D},HVs h v d->v.length=d.length
 |_,_,.nil=>rfl
 |_,_,.cons _ t=>by simp[HVs.length t]
end
section
variable{prog:cp} {w:cy}
def PH (prog:cp)(w:cy)(h:df)(v:af)(d:D):Prop:=∀(A:cv) (E:B4) (s:bb) (Q:Int->bb->Prop),s.heap=h->A.units+8*C4 d<ee->(∀a,s.toks<=a->Q (n4 d) {s with toks:=a})->ai (be prog w) A (pyHash v) Q E s
mutual
theorem XX:∀{v:af} {d:D},HV h v d->PH prog w h v d
 |_,_,.int i t=>λA E s Q H I q=>by exact(intKind prog w).pyHash (k:=i) (intKind_is _ _ _ _) (q _<|Nat.le_succ _)
 |_,_,.tup (a:=a) (items:=items) (ds:=ds) p r=>λA E s Q H I q=>by
  have fs:=QN r;subst H;obtain⟨o,J,N,n,O⟩:=p;have m:s.TypeIs (.ref a) "tuple":=⟨o,J,N⟩;have T:A.units<ee:=by lia
  rw[C4]at I;unfold pyHash;first|unfold pyHashByItsType|skip
  first|refine aAa (wpAny_cRoomFor_or (.inr T) ?_)|skip
  refine aAa (aBC m PySem.F.slot_tuple_hash.lookup ?_);show ai _ _ (if(some (aGt "tuple.__hash__")==some Value.none)=true then _ else _) Q E s;rw[kz (by rw[aFD];exact aAQ)];refine aAa (aBC m PySem.F.slot_tuple_hash.lookup ?_);show ai _ _ (callSpecialIfBoundUnlessNone? (.ref a) "__hash__" _>>=_) Q E s;refine aAa (aDt m PySem.F.slot_tuple_hash<|aBn PySem.F.slot_tuple_hash m PySem.F.entry_tuple_hash ?_ (PySem.F.args_tuple_hash_1 _));show ai _ _ (aDF (.ref a)>>=_) _ _ s;refine aAa (wpAny_tupleItemsOf J O ?_);refine aAa ?_;rw[<-aCw];refine aCf _
   (λrest (b:Array Int) B=>∃done left f,ds=done++left/\Paired (PH prog w s.heap) rest left/\b.toList=done.map n4/\s.toks<=f/\B={s with toks:=f})
   _ ?_ ?_ _ _ ⟨[],ds,s.toks,rfl,fs,rfl,aAh _,rfl⟩
  .rintro x rest b B ⟨done,left,f,g,C,u,U,rfl⟩;cases C with
   |@cons _ d _ c Y L=>
    refine aAa (Y _ _ _ _ rfl ?_ λy e=>?_)
    .have:C4 d<=C5 ds:=by rw[g];exact wW (j:=done.length) (by simp)
     rw[t6];lia
    first
     |exact aAb ⟨done++[d],c,y,by simp[g],L,by simp[u],by(have:f<=y:=e);lia,rfl⟩
     |exact aAa (aAb (aAb ⟨done++[d],c,y,by simp[g],L,by simp[u],by(have:f<=y:=e;lia),rfl⟩))
  .rintro b B ⟨done,left,f,g,C,u,U,rfl⟩;cases C;rw[aBR]at g;subst g;show ai _ _ (retInt<|aAP b.toList) _ _ _;rw[u];refine wpAny_ret_mkInt ?_;show ai _ _ (if(decide (-(2:Int)^63<=aAP (ds.map n4))&&decide (aAP (ds.map n4)<2^63))=true then _ else _) Q E _;have l:=q (f+1) (by lia);rw[n4,gH]at l;unfold reduceHash at l;by_cases z:(decide (-(2:Int)^63<=aAP (ds.map n4))&&decide (aAP (ds.map n4)<2^63))=true
   .rw[kd z];rw[kd z]at l;exact aAb l
   .rw[kz z];rw[kz z]at l;exact aAa (aDD<|aAb l)
theorem QN:∀{v:List af} {d:List D},HVs h v d->Paired (PH prog w h) v d
 |_,_,.nil=>.nil
 |_,_,.cons r t=>.cons (XX r) (QN t)
end
mutual
theorem sJ:∀{v u:af} {d e:D} {A:cv},HV s.heap v d->HV s.heap u e->A.units+C4 d<ee->SeqAt.EqAt A s v u (u7 d e)
 |_,_,_,_,A,.int i t,.int j g,_=>by simp only[u7];exact aFa _ _ _ _
 |_,_,_,_,A,.int i t,.tup p r,b=>by simp only[u7];exact aGc _ _ p (by lia)
 |_,_,_,_,A,.tup p r,.int j g,b=>by simp only[u7];exact aGd _ _ p (by lia)
 |_,_,_,_,A,.tup (a:=a) (ds:=ds) p r,.tup (a:=h) (ds:=k) f c,b=>by
  by_cases e:a=h
  .subst e;have:=HV.inj (.tup p r) (.tup f c);rw[this,J6];exact aEb _
  .simp only[u7];rw[C4]at b;exact aFc e (lJ (by simpa using p) (by simpa using f) r.length c.length (by lia) (PV r c (by rw[t6];lia))).1
theorem PV:∀{vs c:List af} {ds es:List D} {A:cv},HVs s.heap vs ds->HVs s.heap c es->A.in1.units+C5 ds<ee->mZ A s vs c ds es
 |_,_,_,_,A,.nil,_,_=>λj u w a b=>by simp at a
 |_,_,_,_,A,.cons r t,.nil,_=>λj u w a b=>by simp at b
 |_,_,_,_,A,.cons (d:=d) (ds:=ds) r t,.cons (d:=h) (ds:=k) e f,g=>λj u w a b=>by
  rw[C5]at g;match j,a,b with
  |0,a,b=>simp only[aDd,aGz]at a b;subst a b;exact sJ r e (by lia)
  |j+1,a,b=>simp only[aDf]at a b;exact PV t f (by lia) j u w a b
end
mutual
theorem bA:∀{d e:D},nE d=true->nE e=true->u7 d e=true->d=e
 |.int i,.int j,_,_,h=>by simp[u7]at h;rw[h]
 |.tup Y,.tup c,a,b,h=>by rw[nE]at a b;rw[u7]at h;rw[zT a b h]
 |.int _,.tup _,_,_,h=>by simp[u7]at h
 |.tup _,.int _,_,_,h=>by simp[u7]at h
 |.non,_,h,_,_=>by simp[nE]at h
 |.bl _,_,h,_,_=>by simp[nE]at h
 |.str _,_,h,_,_=>by simp[nE]at h
 |.lst _,_,h,_,_=>by simp[nE]at h
 |_,.non,_,h,_=>by simp[nE]at h
 |_,.bl _,_,h,_=>by simp[nE]at h
 |_,.str _,_,h,_=>by simp[nE]at h
 |_,.lst _,_,h,_=>by simp[nE]at h
theorem zT:∀{d e:List D},fM d=true->fM e=true->Y0 d e=true->d=e
 |[],[],_,_,_=>rfl
 |[],_::_,_,_,h=>by simp[Y0]at h
 |_::_,[],_,_,h=>by simp[Y0]at h
 |x::Y,y::c,a,b,h=>by rw[fM,aAH]at a b;rw[Y0,aAH]at h;rw[bA a.1 b.1 h.1,zT a.2 b.2 h.2]
end
mutual
theorem HV.ok:∀{v:af} {d:D},HV h v d->nE d=true
 |_,_,.int i t=>rfl
 |_,_,.tup p r=>by rw[nE];exact HVs.ok r
theorem HVs.ok:∀{v:List af} {d:List D},HVs h v d->fM d=true
 |_,_,.nil=>rfl
 |_,_,.cons r t=>by rw[fM,HV.ok r,HVs.ok t];rfl
end
mutual
theorem iO:∀{v:af} {d:D} (k:Nat),HV h v d->C4 d<k->∀(M:Model) (A:cv) (E:B4) (s:bb) (Q:xC),s.heap=h->Q true s->ai M A (eqIsQuiet k v) Q E s
 |_,_,k,.int i t,_=>λM A E s Q m q=>by unfold eqIsQuiet;exact aAb q
 |_,_,k,.tup (a:=a) (items:=items) (ds:=ds) p r,c=>λM A E s Q m q=>by
  subst m;obtain⟨o,u,y,n,z⟩:=p;have x:s.TypeIs (.ref a) "tuple":=⟨o,u,y⟩;match k,c with
  |k+1,c=>
   rw[C4]at c;unfold eqIsQuiet;refine aAa (aBC x PySem.F.slot_tuple_eq.lookup ?_);show ai _ _ (isInstance (.ref a) (.type "tuple")>>=_) _ _ s;refine aAa (aDk x isSubtype_tuple_tuple ?_);simp only[aDe,aAt,if_false];refine aAa (aBu u z ?_);refine aAa ?_;show ai _ _ (forIn items _ _) _ _ s;rw[<-aCw];refine aCf _ (λrest r b=>r.1=none/\b=s/\∃e,HVs s.heap rest e/\C5 e<k) _ ?_ ?_ _ _ ⟨rfl,rfl,ds,r,by lia⟩
   .rintro v rest r b ⟨f,rfl,e,g,l⟩;cases g with
    |@cons _ d _ B g C=>rw[C5]at l;refine aAa (iO k g (by lia) M A E b _ rfl ?_);simp only[aDe,aAt,if_false];exact aAb ⟨rfl,rfl,B,C,by lia⟩
   .rintro⟨H,I⟩ b ⟨f,rfl,_⟩;simp only at f;subst f;exact aAb q
end
mutual
theorem gN:∀{v:af} {d:D} (k:Nat),HV h v d->C4 d<k->∀(M:Model) (A:cv) (E:B4) (s:bb) (Q:xC),s.heap=h->Q false s->ai M A (ofAClassStatement k v) Q E s
 |_,_,k,.int i t,_=>λM A E s Q m q=>by unfold ofAClassStatement;exact aAb q
 |_,_,k,.tup (a:=a) (items:=items) (ds:=ds) p r,c=>λM A E s Q m q=>by
  subst m;obtain⟨o,u,x,n,y⟩:=p;have z:s.TypeIs (.ref a) "tuple":=⟨o,u,x⟩;match k,c with
  |k+1,c=>
   rw[C4]at c;unfold ofAClassStatement;refine aAa (aDU z ?_);dsimp only;rw[kd (by decide)];refine aAa (aAb ?_);simp only[aDe,aAt,if_false];refine aAa (aBu u y ?_);dsimp only;refine aAa ?_;show ai _ _ (forIn items _ _) _ _ s;rw[<-aCw];refine aCf _ (λrest r b=>r.1=none/\b=s/\∃e,HVs s.heap rest e/\C5 e<k) _ ?_ ?_ _ _ ⟨rfl,rfl,ds,r,by lia⟩
   .rintro v rest r b ⟨f,rfl,e,g,l⟩;cases g with
    |@cons _ d _ B g C=>rw[C5]at l;refine aAa (gN k g (by lia) M A E b _ rfl ?_);simp only[aAt,if_false];exact aAb ⟨rfl,rfl,B,C,by lia⟩
   .rintro⟨H,I⟩ b ⟨f,rfl,_⟩;simp only at f;subst f;exact aAb q
end
mutual
theorem nV:∀{v:af} {d:D} (k:Nat),HV h v d->C4 d<k->∀(M:Model) (A:cv) (E:B4) (s:bb) (Q:xC),s.heap=h->Q true s->ai M A (hashByValue k v) Q E s
 |_,_,k,.int i t,_=>λM A E s Q m q=>by unfold hashByValue;exact aAb q
 |_,_,k,.tup (a:=a) (items:=items) (ds:=ds) p r,c=>λM A E s Q m q=>by
  subst m;obtain⟨o,u,x,n,y⟩:=p;have z:s.TypeIs (.ref a) "tuple":=⟨o,u,x⟩;match k,c with
  |k+1,c=>
   rw[C4]at c;unfold hashByValue;refine aAa (aBC z PySem.F.slot_tuple_hash.lookup ?_);dsimp only;refine aAa (aBu u y ?_);refine aAa ?_;show ai _ _ (forIn items _ _) _ _ s;rw[<-aCw];refine aCf _ (λrest r b=>r.1=none/\b=s/\∃e,HVs s.heap rest e/\C5 e<k) _ ?_ ?_ _ _ ⟨rfl,rfl,ds,r,by lia⟩
   .rintro v rest r b ⟨f,rfl,e,g,l⟩;cases g with
    |@cons _ d _ B g C=>rw[C5]at l;refine aAa (nV k g (by lia) M A E b _ rfl ?_);simp only[aDe,aAt,if_false];exact aAb ⟨rfl,rfl,B,C,by lia⟩
   .rintro⟨H,I⟩ b ⟨f,rfl,_⟩;simp only at f;subst f;exact aAb q
end
def jT {α:Type}{M:Model}{A:cv}{E:B4}{s:bb}{Q:α->bb->Prop}{c:Prop}[Decidable c]{a b:Sem α}(d:c->ai M A a Q E s)(e:¬c->ai M A b Q E s):ai M A (if c then a else b) Q E s:=by
 by_cases h:c
 .rw[kd h];exact d h
 .rw[kz h];exact e h
def YF {M:Model}{A:cv}{E:B4}{s:bb}{Q:xC}{x:af}{d:D}(l:HV s.heap x d)(m:C4 d<8)(c:List af)(o:∀y∈c,∃e,HV s.heap y e/\C4 e<8)(q:Q false s):ai M A (searchCouldBeSeen x c) Q E s:=by
 unfold searchCouldBeSeen;refine aAa ?_;refine aCf _ (λrest r a=>r.1=none/\a=s/\∀y∈rest,y∈c) _ ?_ ?_ _ _ ⟨rfl,rfl,λy h=>h⟩
 .rintro y rest r a ⟨f,rfl,g⟩;obtain⟨e,n,b⟩:=o y (g y (by simp));dsimp only;refine jT (λ_=>?_) (λ_=>?_)
  .exact aAb ⟨rfl,rfl,λz k=>g z (aAe _ k)⟩
  .refine aAa (iO 8 l m M A E a _ rfl ?_);simp only[aDe,aAt,if_false];refine aAa (iO 8 n b M A E a _ rfl ?_);simp only[aDe,aAt,if_false];refine aAa (gN 8 l m M A E a _ rfl ?_);simp only[aAt,if_false];refine aAa (gN 8 n b M A E a _ rfl ?_);simp only[aAt,if_false];exact aAb ⟨rfl,rfl,λz k=>g z (aAe _ k)⟩
 .rintro⟨p,t⟩ a ⟨f,rfl,_⟩;simp only at f;subst f;exact aAb q
end
def EV (h:df)(e:Int×af)(d:D):Prop:=HV h e.2 d/\e.1=n4 d
theorem B6 {α β:Type}{F:α->β->Prop}:∀{l:List α} {m:List β} {i:Nat} {a:α},Paired F l m->l[i]?=some a->∃b,m[i]?=some b/\F a b
 |_,_,_,_,.nil,h=>by simp at h
 |_,_,0,_,.cons r _,h=>by simp at h;subst h;exact⟨_,rfl,r⟩
 |_,_,i+1,a,.cons _ t,h=>by obtain⟨b,c,d⟩:=B6 (i:=i) t (by simpa using h);exact⟨b,by simpa using c,d⟩
theorem dG {α β:Type}{F:α->β->Prop}:∀{l:List α} {m:List β} {i:Nat} {b:β},Paired F l m->m[i]?=some b->∃a,l[i]?=some a/\F a b
 |_,_,_,_,.nil,h=>by simp at h
 |_,_,0,_,.cons r _,h=>by simp at h;subst h;exact⟨_,rfl,r⟩
 |_,_,i+1,a,.cons _ t,h=>by obtain⟨b,c,d⟩:=dG (i:=i) t (by simpa using h);exact⟨b,by simpa using c,d⟩
theorem gZ {α β:Type}{F:α->β->Prop}:∀{l:List α} {m:List β},Paired F l m->l.length=m.length
 |_,_,.nil=>rfl
 |_,_,.cons _ t=>by simp[gZ t]
section
variable{es:Array (Int×af)}
def jI (K:ST.SOk t es.toList):t.fits es.size=true:=by
 have a:=K.len;have c:=K.room;have b:=K.tab.nod;unfold aGu SetTable.fill;rw[b];simp at a⊢
 lia
theorem lP (ho:s.heap.get? S=some o)(hd:o.data=.set es ep t)(K:ST.SOk t es.toList)(u:t.mask%2=1)(P:Paired (EV s.heap) es.toList ds)(N:HV s.heap (.ref x) (.tup Y))(B:C4 (.tup Y)<8)(yc:∀e∈ds,C4 e<8)(hT:∀e∈ds,∃C,e=.tup C)
  (hu:A.units+16<ee) (hf:ST.V0 t (n4 (.tup Y)) n0) {Q:SetFound->bb->Prop} (f:D.tup Y∈ds->Q (.there none) s) (b:D.tup Y∉ds->Q (.free (ST.l9 t.mask (n4 (.tup Y)) n0).j false) s):
  ∀(a n:Nat) (O:Option SetTable.Probe),O.getD (t.probeStart (n4 (.tup Y)))=ST.l9 t.mask (n4 (.tup Y)) n->n<=n0->n0-n<a->
   (∀m<n,∀(i:Nat),t.place[i]?=some (ST.l9 t.mask (n4 (.tup Y)) m).j->ds[i]?≠some (.tup Y))->ai (be prog w) A (setSearchFrom S (.ref x) (n4 (.tup Y)) true a O) Q E s
 |0,n,O,_,_,h,_=>by lia
 |a+1,n,O,ie,hn,hfu,H=>by
  unfold setSearchFrom;refine aAa (aCl ho hd (jI K) ?_);dsimp only;refine jT (λz=>?_) (λ_=>?_)
  .unfold SetTable.gaveWay at z;simp at z;lia
  rw[ie];obtain⟨T,a1,a2,a3,a4⟩:=ST.MG K.tab (λi=>(es[i]?.map (·.1)).getD 0) (n4<|.tup Y) hf n hn;generalize hg:t.probe _ (n4<|.tup Y) (ST.l9 t.mask (n4<|.tup Y) n)=pm;rcases a4 with⟨en,e⟩|⟨ar,i,q,hh,e⟩
  .have ep:pm=_:=hg.symm.trans e;rw[ep];dsimp only;refine aAb (b λI=>?_);obtain⟨i,q⟩:=aBX.mp I;obtain⟨⟨J,v⟩,he,h1,h2⟩:=dG P q;obtain⟨j,U,ud⟩:=ST.TZ K.len he;dsimp only at h2;have hr:=K.reach _ ud;dsimp only at hr;rw[h2]at hr;obtain⟨m,I,em⟩:=ST.Reach.before hf (by rw[<-aAC]at U;exact aAk U) hr;by_cases z:m<n
   .exact H m z i (by rw[em];exact U) q
   .obtain⟨d,gg,ag⟩:=a3 m (by lia) (by lia);have:d=i:=by have f:=ST.L4 K.tab gg;have b:=ST.L4 K.tab U;rw[em]at f;rw[f]at b;injection b
    subst this;refine ag ?_;show(es[d]?.map (·.1)).getD 0=_;rw[<-aAC,he];exact h2
  .have ep:pm=_:=hg.symm.trans e;rw[ep];dsimp only;have L:i<es.size:=by
    have:=(aCh.mp q).1;have h1:=K.len;simp at h1
    lia
   have g:es[i]?=some es[i]:=aAA L;obtain⟨di,c,J,l⟩:=B6 P (show es.toList[i]?=some es[i]by rw[aAC];exact g);obtain⟨C,rfl⟩:=hT di (aAk c);have go:ai (be prog w) A (do
     let some (_,y):=es[i]?|unsupported "internal:set-entry"
     let equal<-gn [y] (eqBool y<|.ref x)
     let(es',_,t')<-setState S
     if true&&equal then return .there none
     let some same:=t'.sameMemory t.moves t.mask|unsupported "set.changed-during-lookup:is-the-new-block-at-the-old-address"
     let WY<-match(if same then t'.slot (ST.l9 t.mask (n4<|.tup Y) T).j else .empty)with
      |.live d=>match es'[d]? with
       |some (_,y')=>do pure (if<-isSame y' y then some d else none)
       |none=>pure none
      |_=>pure none
     match WY with
     |none=>rule "set.search.anew";setSearchFrom S (.ref x) (n4<|.tup Y) true a none
     |some d=>if equal then return .there (some d)else setSearchFrom S (.ref x) (n4<|.tup Y) true a (some<|ST.l9 t.mask (n4<|.tup Y)<|T+1)) Q E s:=by
    rw[g];generalize he:es[i]=en at*
    obtain⟨hn,y⟩:=en;dsimp only at J l⊢;refine aAa (aAK (sJ J N (by have:=yc _ (aAk c);lia) prog w E _ ?_));refine aAa (aCl ho hd (jI K) ?_);dsimp only;cases hq:u7 (.tup C) (.tup Y)with
    |true=>rw[kd (show(true&&true)=true from rfl)];have:D.tup C=.tup Y:=bA J.ok N.ok hq;rw[this]at c;exact aAb (f<|aAk c)
    |false=>
     rw[kz (by simp)];have hsm:t.sameMemory t.moves t.mask=some true:=by unfold SetTable.sameMemory;rw[kd (by simp)]
     rw[hsm];dsimp only;rw[kd rfl,ST.L4 K.tab q];dsimp only;rw[g];dsimp only;cases J with
     |tup p r=>
      refine aAa (wpAny_isSame_ref_self ?_);refine aAa (aAb ?_);rw[kd rfl];dsimp only;rw[kz (by simp)];refine lP ho hd K u P N B yc hT hu hf f b a (T+1) _ rfl (by lia) (by lia) λm I i2 vt hz=>?_;by_cases z:m<n
      .exact H m z i2 vt hz
      .by_cases z2:m=T
       .subst z2;have:i2=i:=by have f:=ST.L4 K.tab vt;have b:=ST.L4 K.tab q;rw[f]at b;injection b
        subst this;rw[c]at hz;have:D.tup C=.tup Y:=aAn hz;rw[this,J6]at hq;cases hq
       .obtain⟨d,gg,ag⟩:=a3 m (by lia) (by lia);have:d=i2:=by have f:=ST.L4 K.tab gg;have b:=ST.L4 K.tab vt;rw[f]at b;injection b
        subst this;obtain⟨⟨h0,v0⟩,he0,hv0,hh0⟩:=dG P hz;refine ag ?_;show(es[d]?.map (·.1)).getD 0=_;rw[<-aAC,he0];exact hh0
   refine jT (λ_=>?_) (λ_=>go);refine aAa (YF N B _ (λy hy=>?_) ?_)
   .obtain⟨e',xr,rfl⟩:=aAl.mp hy;rw[Array.toList_filter]at xr;have I:=(aBQ.mp xr).1;obtain⟨k,hk⟩:=aBX.mp I;obtain⟨dk,hdk,hvk,_⟩:=B6 P hk;exact⟨dk,hvk,yc _ (aAk hdk)⟩
   .rw[kz (by simp)];exact go
def vD (m n:Nat):Prop:=(m=7/\n<=4)\/(m=31/\n<=18)\/(m=127/\n<=76)
def vD.odd (h:vD m n):m%2=1:=by rcases h with⟨rfl,_⟩|⟨rfl,_⟩|⟨rfl,_⟩<;>rfl
def Keeps (h0 h:df):Prop:=∀b o,h0.get? b=some o->h.get? b=some o
structure SetAt (L:Bool)(h0 h:Heap)(S:Addr)(ds:List D):Prop where
 ex:∃(o:Obj) (es:Array (Int×Value)) (ep:Nat) (t:SetTable),h.get? S=some o/\o.cls=.type "set"/\o.dict=none/\o.slots=#[]/\o.data=.set es ep t/\ST.SOk t es.toList/\vD t.mask es.size/\Paired (EV h0) es.toList ds/\t.led=L/\t.plain=true
 nd:ds.Nodup
def Y4 {α β:Type}{F:α->β->Prop}:∀{l b:List α} {m:List β},b.Perm l->Paired F l m->∃a,a.Perm m/\Paired F b a:=λ{l b m} p=>by
 induction p generalizing m with
 |nil=>intro h;exact⟨m,.refl _,h⟩
 |cons x _ e=>
  intro h;cases h with
  |cons r t=>obtain⟨a,f,g⟩:=e t;exact⟨_::a,f.cons _,.cons r g⟩
 |swap x y l=>
  intro h;cases h with
  |cons r t=>
   cases t with
   |cons k n=>exact⟨_,.swap _ _ _,.cons k (.cons r n)⟩
 |trans _ _ c d=>intro h;obtain⟨w,o,q⟩:=d h;obtain⟨s,u,v⟩:=c q;exact⟨s,u.trans o,v⟩
theorem cU {α β:Type}{F G:α->β->Prop}(i:∀a b,F a b->G a b):∀{l:List α} {m:List β},Paired F l m->Paired G l m
 |_,_,.nil=>.nil
 |_,_,.cons r t=>.cons (i _ _ r) (cU i t)
theorem oA {α β:Type}{F:α->β->Prop}{a:α}{b:β}(r:F a b):∀{l:List α} {m:List β} (p:Nat),Paired F l m->Paired F (l.take p++a::l.drop p) (m.take p++b::m.drop p)
 |_,_,0,h=>.cons r h
 |_,_,p+1,.nil=>.cons r .nil
 |_,_,p+1,.cons c t=>.cons c (oA r p t)
def MN {α:Type}(a:α)(l:List α)(p:Nat):(l.take p++a::l.drop p).Perm (a::l):=by have h:=List.perm_middle (a:=a) (l₁:=l.take p) (l₂:=l.drop p);rw[aFN]at h;exact h
def yH {α β:Type}{M:Model}{Q:α->bb->Prop}{c:Prop}[Decidable c]{a:Sem β}{k:β->Sem α}(b:β)(e:∀d:β->bb->Prop,d b s->ai M A a d E s)(h:ai M A (k b) Q E s):ai M A (if c then a>>=k else pure b>>=k) Q E s:=
 jT (λ_=>aAa (e _ h)) (λ_=>aAa (aAb h))
def lQ (h:df)(S:bc)(f:Obj->Obj):Heap.SameBut S h (h.update S f):=⟨by simp[Heap.size_update],λb a=>aAw _ _ (aCk a)⟩
def rT {h:df}{S:bc}{o:Obj}{es es':Array (Int×af)}{ep:Nat}{t t':gc}(b:h.get? S=some o)(a:o.data=.set es ep t):(h.update S (aEC es' t')).get? S=some {o with data:=.set es' (ep+1) t'}:=by
 have e:aEC es' t' o={o with data:=.set es' (ep+1) t'}:=by obtain⟨c,d,f,g⟩:=o;cases f<;>simp at a;obtain⟨rfl,rfl,rfl⟩:=a;rfl
 rw[aAT _ b (by rw[e];rfl),e]
def ZC {L:Bool}{h0:df}{Q:xC}(hS:SetAt L h0 s.heap S ds)(kp:Keeps h0 s.heap)(C:HV h0 (.ref x) (.tup Y))(H:C4 (.tup Y)<8)(yc:∀e∈ds,C4 e<8)(hT:∀e∈ds,∃ys,e=.tup ys)(hu:A.units+128<ee)(hn:ds.length<76)
  (q1:D.tup Y∈ds->∀tk,s.toks<=tk->Q false {s with toks:=tk})
  (q2:D.tup Y∉ds->∀h' tk au,s.toks<=tk->Heap.SameBut S s.heap h'->SetAt L h0 h' S au->au.Perm (.tup Y::ds)->Q true {s with heap:=h',toks:=tk}):ai (be prog w) A (setAdd S (.ref x)) Q E s:=by
 obtain⟨⟨o,es,ep,t,I,hc,n,ym,J,K,mk,P0,lp0⟩,nd⟩:=hS;have hx:HV s.heap (.ref x) (.tup Y):=C.keeps λb o e _=>kp b o e;have P:Paired (EV s.heap) es.toList ds:=cU (λe d r=>⟨r.1.keeps λb o e _=>kp b o e,r.2⟩) P0;have hsz:es.size=ds.length:=by have:=gZ P;simpa using this
 unfold setAdd;refine aAK (aAa (XX hx A E s _ rfl (by lia) λtk xl=>?_));unfold setAddHashed setAddHashedIn;refine aAK (aAa<|aCl (s:={s with toks:=tk}) I J (jI K) ?_);dsimp only;rw[show byScan (.ref x) es=false from rfl];simp only[aAt,if_false];obtain⟨n0,hf⟩:=ST.DV K.full K.room (n4<|.tup Y);refine aAa (lP (s:={s with toks:=tk}) (n0:=n0) I J K mk.odd P hx H yc hT (by lia) hf (λp=>?_) (λp=>?_) 100000 0 none rfl (aBb _) ?_ (λm p=>by lia))
 .dsimp only;exact aAb (q1 p tk xl)
 .dsimp only;refine aAa (aCl (s:={s with toks:=tk}) I J (jI K) ?_);dsimp only;refine yH true (λU q=>nV 8 hx H _ _ _ _ _ rfl q) ?_;rw[kd rfl];have qd:t.place.size+1<=t.mask:=by have:=K.len;simp at this;rcases mk with⟨a,k⟩|⟨a,k⟩|⟨a,k⟩<;>lia
  have u:=ST.ez K (x:=.ref x) hf qd;have el:=ST.fQ es (t.put (ST.l9 t.mask (n4<|.tup Y) n0).j).2 (n4 (.tup Y),aDz x);have lp:(t.put (ST.l9 t.mask (n4<|.tup Y) n0).j).1.led=L/\(t.put (ST.l9 t.mask (n4<|.tup Y) n0).j).1.plain=true:=lp0;have em:(t.put (ST.l9 t.mask (n4<|.tup Y) n0).j).1.mask=t.mask:=rfl;rw[<-el]at u;have N:Paired (EV h0) (aGD es (t.put (ST.l9 t.mask (n4<|.tup Y) n0).j).2 (n4 (.tup Y),aDz x)).toList (ds.take (t.put (ST.l9 t.mask (n4<|.tup Y) n0).j).2++.tup Y::ds.drop (t.put (ST.l9 t.mask (n4<|.tup Y) n0).j).2):=by rw[el];exact oA ⟨C,rfl⟩ _ P0
  have O:=MN (D.tup Y) ds (t.put (ST.l9 t.mask (n4<|.tup Y) n0).j).2;generalize hds2:ds.take (t.put (ST.l9 t.mask (n4<|.tup Y) n0).j).2++.tup Y::ds.drop (t.put (ST.l9 t.mask (n4<|.tup Y) n0).j).2=ml at N O;generalize hes2:aGD es (t.put (ST.l9 t.mask (n4<|.tup Y) n0).j).2 (n4 (.tup Y),aDz x)=g at u N⊢;generalize ht2:(t.put (ST.l9 t.mask (n4<|.tup Y) n0).j).1=f at u em lp⊢;have rh:ml.Nodup:=O.nodup_iff.mpr (aAF.mpr ⟨p,nd⟩);have h:g.size=es.size+1:=by
   have h1:=gZ N;have h2:=O.length_eq;simp at h1 h2
   lia
  have dg:g.size<=sizeLine:=by rw[h,aFu];lia
  refine aAa (wpAny_storeSet_of (s:={s with toks:=tk}) I J ?_ dg);have ju:=rT (es':=g) (t':=f) I J;have T:=lQ s.heap S (aEC g f);have l:f.fill=g.size:=by have h1:=u.len;have h2:=u.tab.nod;unfold SetTable.fill;rw[h2];simp at h1⊢;lia
  refine jT (λxm=>?_) (λxm=>?_)
  .
   have ue:f.fill*5>=f.mask*3:=by
    have:f.tooFull=true:=by simpa using xm
    simpa[aGJ]using this
   rw[l,em,h]at ue;obtain⟨M,hM,hM1,v⟩:∃M,SetTable.sizeAbove (SetTable.grown<|es.size+1)=M+1/\ST.mD (M+1)/\vD M (es.size+1):=by
    rcases mk with⟨a,k⟩|⟨a,k⟩|⟨a,k⟩
    .have:es.size=4:=by lia
     rw[this];exact⟨31,by decide,ST.aq,.inr (.inl ⟨rfl,by lia⟩)⟩
    .have:es.size=18:=by lia
     rw[this];exact⟨127,by decide,ST.VS,.inr (.inr ⟨rfl,by lia⟩)⟩
    .lia
   unfold setRelay;refine aAa (aAa<|aCl (s:={s with heap:=s.heap.update S (aEC g f),toks:=tk}) ju rfl (jI u) ?_);dsimp only;rw[hM];refine jT (λz=>?_) (λ_=>?_)
   .exfalso;rcases v with⟨a,_⟩|⟨a,_⟩|⟨a,_⟩<;>(subst a;exact absurd z (by rw[aFu];decide))
   obtain⟨B,c,r1,r2,r3,r4,r5,r6,r7,r8,r9⟩:=ST.NG (finger:=f.finger) (moves:=f.movedTo M) (led:=f.led) (plain:=f.plain) hM1 g (by rw[h];rcases v with⟨a,k⟩|⟨a,k⟩|⟨a,k⟩<;>lia);have er:f.relaid (g.map (·.1)) (SetTable.grown<|es.size+1)=some (B,c):=by unfold SetTable.relaid;rw[hM];exact r1
   rw[er];have hre:∀{U:Array (Int×af)×gc->bb->Prop} {s':bb},U (c.filterMap (g[·]?),B) s'->ai (be prog w) A (do
     let es':=c.filterMap (g[·]?)
     if es'.size !=g.size then unsupported "internal:set-table-lost-an-element"
     pure (es',B)) U E s':=λ{U s'} qq=>by
    dsimp only;rw[kz (by simp[r2])];exact aAb qq
   refine aAa (hre ?_);dsimp only;generalize hes3:c.filterMap (g[·]?)=y at r2 r3 r4⊢;refine wpAny_storeSet_of (s:={s with heap:=s.heap.update S (aEC g f),toks:=tk}) ju rfl ?_ (by rw[r2];exact dg);refine aAb ?_;have ho3:=rT (es':=y) (t':=B) ju rfl;have sb3:=lQ (s.heap.update S<|aEC g f) S (aEC y B);obtain⟨ds3,p3,P5⟩:=Y4 r3 N;exact q2 p _ tk ds3 xl (T.trans sb3) ⟨⟨_,y,_,B,ho3,hc,n,ym,rfl,r4,by rw[r5,r2,h];exact v,P5,by rw[r7];exact lp.1,by rw[r8];exact lp.2⟩,p3.nodup_iff.mpr rh⟩ (p3.trans O)
  .refine aAb ?_;refine q2 p _ tk ml xl T ⟨⟨_,g,_,f,ju,hc,n,ym,rfl,u,?_,N,lp⟩,rh⟩ O;have ue:¬f.fill*5>=f.mask*3:=λz=>xm (by simp[aGJ,z]);rw[l,em,h]at ue;rw[em,h];rcases mk with⟨a,k⟩|⟨a,k⟩|⟨a,k⟩
   .exact .inl ⟨a,by lia⟩
   .exact .inr (.inl ⟨a,by lia⟩)
   .exact .inr (.inr ⟨a,by lia⟩)
 .have:=hf.1;have p:t.mask<=127:=by rcases mk with⟨a,_⟩|⟨a,_⟩|⟨a,_⟩<;>lia
  lia
end
section
variable{prog:cp} {w:cy} {A:cv} {R:Result->bb->Prop} {I:bc} {fp wr:List bc} {G:Array GenState->Array GenState->Prop} {n:Nat} {P:Nat->af->Prop} {St:Nat->bb->Prop} {h0:df}
def bq (h0:df)(v:af)(d:D):Prop:=∃a Y,v=.ref a/\d=.tup Y/\C4 d<8/\HV h0 v d
def MT {L:Bool}(W:WalksS prog w A.in1 I fp wr G n P St)(S:bc)(jv:S∉fp)(T:h0.get? S=none)(hw0:∀b∈wr,h0.get? b=none)
  (val:Nat->D) (x:∀i v,P i v->bq h0 v (val i)) (ou:∀i<n,C4 (val i)<8/\∃ys,val i=.tup ys) {U:List D} (hU:∀i<n,val i∈U) (c:U.length<=75) (hu:A.units+200<ee):
  ∀(k i:Nat) (s:bb),n-i=k->i<=n->St i s->Keeps h0 s.heap->(∃ds,SetAt L h0 s.heap S ds/\∀d,d∈ds↔∃j<i,val j=d)->
   (∀s',Moved (S::wr) G s s'->(∃ds,SetAt L h0 s'.heap S ds/\∀d,d∈ds↔∃j<n,val j=d)->R (.ok (.ret .none)) s')->
   gh (be prog w) A (.builtin "set.update.loop" ⟨[.ref S,.ref I],[]⟩) R s:=by
 have vv:S∉wr:=λh=>jv (W.sub _ h);have gr:∀b∈wr,b∈S::wr:=λb c=>aAe _ c;intro k;induction k with
 |zero=>
  intro i s hk hi ie y hS J;have N:i=n:=by omega
  subst N;refine aBl F.entry_set_update_loop ?_;rw[aAL F.plain_set_update_loop _];show ai _ A.in1 (fT (.ref I)>>=_) _ _ s;refine aAa (W.done s _ _ ie λs' g=>?_);show ai _ A.in1 (ret Value.none) _ _ s';refine aAb (J s' (g.mono gr) ?_);obtain⟨ds,⟨⟨o,es,ep,t,ho,r⟩,O⟩,l⟩:=hS;exact⟨ds,⟨⟨o,es,ep,t,g.heap S _ vv ho,r⟩,O⟩,l⟩
 |succ k ih=>
  intro i s hk hi ie y hS J;have ar:i<n:=by omega
  refine aBl F.entry_set_update_loop ?_;rw[aAL F.plain_set_update_loop _];show ai _ A.in1 (fT (.ref I)>>=_) _ _ s;refine aAa (W.item i s _ _ ar ie λv s' hP ig g=>?_);obtain⟨ds,⟨⟨o,es,ep,t,ho,r⟩,O⟩,l⟩:=hS;have gu:SetAt L h0 s'.heap S ds:=⟨⟨o,es,ep,t,g.heap S _ vv ho,r⟩,O⟩;have p:Keeps h0 s'.heap:=λb ob e=>g.heap b ob (λz=>by rw[hw0 b z]at e;cases e) (y b ob e);obtain⟨a,Y,rfl,Q,B,hv⟩:=x i v hP;rw[Q]at B hv;show ai _ A.in1 (gn [aDz a] (setAdd S<|.ref a)>>=_) _ _ s';have f:∀e∈ds,C4 e<8/\∃ys,e=.tup ys:=λe C=>by obtain⟨j,E,ej⟩:=(l e).mp C;rw[<-ej];exact ou j (by omega)
  refine aAa (aAK (ZC gu p hv B (λe C=>(f e C).1) (λe C=>(f e C).2) (by rw[t6];omega) (by letI:DecidableEq D:=λa b=>aDg _;have:=ST.Q3 (m:=U) O (λd hd=>by obtain⟨j,E,e⟩:=(l d).mp hd;rw[<-e];exact hU j (by omega));omega) (λN tk H=>?_)<|λhni h' tk au H hsb hS2 pm=>?_))
  .
   refine aAb ⟨aBs F.plain_set_update_loop _,ih (i+1) _ (by omega) ar (W.frame _ s' _ _ ig H λb c o e=>e) p ⟨ds,gu,λd=>?_⟩ λq ja xn=>?_⟩
   .rw[l];constructor
    .rintro⟨j,E,e⟩;exact⟨j,by omega,e⟩
    .rintro⟨j,E,e⟩;by_cases z:j=i
     .subst z;rw[Q]at e;rw[e]at N;exact(l d).mp N
     .exact⟨j,by omega,e⟩
   .exact J q (aDP W.gtrans ((g.mono gr).then_heap H λb o c e=>e) ja) xn
  .have u:∀b,b≠S->h'.get? b=s'.heap.get? b:=λb c=>hsb.2 b c;refine aAb ⟨aBs F.plain_set_update_loop _,ih (i+1) _ (by omega) ar (W.frame _ s' _ _ ig H λb c o e=>?_) (λb o e=>?_) ⟨au,hS2,λd=>?_⟩ λq ja xn=>?_⟩
   .rw[u b (λz:b=S=>jv (by rw[<-z];exact c))];exact e
   .show h'.get? b=some o;rw[u b (λz=>by subst z;rw[T]at e;cases e)];exact p b o e
   .rw[pm.mem_iff,aAd,l];constructor
    .rintro(rfl|⟨j,E,e⟩)
     .exact⟨i,by omega,Q⟩
     .exact⟨j,by omega,e⟩
    .rintro⟨j,E,e⟩;by_cases z:j=i
     .subst z;rw[Q]at e;exact .inl e.symm
     .exact .inr ⟨j,by omega,e⟩
   .refine J q (aDP W.gtrans ((g.mono gr).then_heap H λb o c e=>?_) ja) xn;rw[u b (λz:b=S=>c (by rw[z];exact aAU))];exact e
end
section
variable{prog:cp} {w:cy} {A:cv} {E:B4} {s:bb}
abbrev mQ (led:Bool):Obj:={cls:=.type "set",dict:=none,data:=.set #[] 0 (.fresh 0 0 led)}
def JW (h0 h:df)(S:bc)(led:Bool)(e:h.get? S=some (mQ led)):SetAt led h0 h S []:=by
 refine⟨⟨_,#[],0,.fresh 0 0 led,e,rfl,rfl,rfl,rfl,⟨⟨λi k a=>?_,λj b=>?_,rfl⟩,ST.lq,rfl,?_,λe c=>?_⟩,.inl ⟨rfl,aBb _⟩,.nil,rfl,rfl⟩,aDm⟩
 .exact absurd a (by show¬i<0;omega)
 .exact absurd b (by show¬j∈[];simp)
 .show 0<=7;omega
 .exact absurd c (by show¬e∈[];simp)
def yN (a:af){Q₁:B4}(h:Q₁ (.ref s.heap.objs.size) {s with heap:=s.heap.push (mQ (!w.params.followText "set-order"))}):
  gh (be prog w) A (.call (.builtin "set.__new__") ⟨[.type "set",a],[]⟩) (wants Q₁ E) s:=by
 refine codeAny_of_tree ?_;show ai _ A.in1 (do checkBuiltinCall "set.__new__" ⟨[.type "set",a],[]⟩;again (.builtin "set.__new__" ⟨[.type "set",a],[]⟩)) _ _ s;refine aAa (aFw (F.newCall_set_1 a)<|aAb ⟨aBs F.plain_set_new _,aBl F.entry_set_new ?_⟩);rw[aAL F.plain_set_new _];unfold Builtin.«set.__new__» Builtin.Frozenset.newClass;have b:=sub_set_self;obtain⟨c,g,d,e,os⟩:=s;dsimp only
 wp_walk
 refine aFE (aAb ?_);dsimp only;simp only[newObj];exact aAa (wpAny_alloc<|aAb<|aAb h)
def zE {h0:df}(m:Keeps h0 s.heap){l:bc}{its:Array af}{val:Nat->D}{Q:B4}(hh:A.handled=none)(hl:s.heap.IsList l its)
  (n:∀(i:Nat) (v:af),its[i]?=some v->bq h0 v (val i)) (ou:∀i<its.size,C4 (val i)<8/\∃ys,val i=.tup ys) {U:List D} (hU:∀i<its.size,val i∈U) (g:U.length<=75) (hu:A.units+300<ee)
  (h:∀(h':df) (tk:Nat) (ds:List D),SetAt (!w.params.followText "set-order") h0 h' s.heap.objs.size ds->(∀d,d∈ds↔∃j<its.size,val j=d)->Keeps s.heap h'->Q (.ref s.heap.objs.size) {s with heap:=h',toks:=tk}):
  ai (be prog w) A (call (.type "set") [.ref l]) Q E s:=by
 obtain⟨c,tl,Y⟩:=PySem.F.called_set.mro;have C:=PySem.F.called_set.made;have gr:=PySem.F.called_set.sub;refine wpAny_call (codeAny_of_tree ?_);show ai _ _ (callAny (.type "set") _) _ _ _;refine aAb ⟨Code.quiet_builtin _ (by decide+kernel),aBl PySem.F.entry_type_call ?_⟩;rw[Around.under_plain (weight_type_call_type "set" [.ref l] []) rfl];have h1:=PySem.F.called_set.notType;have h2:=PySem.F.called_set.canCreate;have hct:=PySem.F.typeCall_set_1 (.ref l);repeat(any_goals(first|assumption|wp_step))
 refine aDT (yN (.ref l) (E:=E) (Q₁:=λob ae=>∃led:Bool,led=!w.params.followText "set-order"/\ob=.ref s.heap.objs.size/\ae={s with heap:=s.heap.push (mQ led)}) ⟨_,rfl,rfl,rfl⟩) λr ae p=>?_;cases r with
 |error e=>exact p
 |ok fl=>
  cases fl with
  |next=>exact p.elim
  |brk=>exact p.elim
  |cont=>exact p.elim
  |ret ob=>
   obtain⟨led,eL,rfl,rfl⟩:=p;have hS:(s.heap.push<|mQ led).get? s.heap.objs.size=some (mQ led):=aAq _ rfl;have hT:Shared.TypeIs {s with heap:=s.heap.push (mQ led)} (.ref s.heap.objs.size) "set":=⟨_,hS,rfl⟩;have hli:=PySem.F.called_set.init.lookup;have hbi:=PySem.F.called_set.init.bind (.ref s.heap.objs.size);repeat(any_goals(first|assumption|wp_step))
   refine aDT (codeAny_call_builtin (R:=wants (λr bg=>r=.none/\∃h' tk ds,bg={s with heap:=h',toks:=tk}/\SetAt (!w.params.followText "set-order") h0 h' s.heap.objs.size ds/\(∀d,d∈ds↔∃j<its.size,val j=d)/\Keeps s.heap h') E) PySem.F.called_set.init.plain PySem.F.entry_set_init<|check_set_init_1 hT ?_) λr0 bg a=>?_
   .obtain⟨ol,q,ye,nl,t⟩:=hl;obtain⟨ocls,k,H,f⟩:=ol;simp only at ye t;subst ye;subst t;have u:(s.heap.push<|mQ led).get? l=some {cls:=.type "list",dict:=k,data:=.seq its nl,slots:=f}:=aAc _ q;have hsls:=PySem.F.sub_list_set;have hslf:=PySem.F.sub_list_frozenset;have ag:(aCv "list"==aCv "dict")=false:=by decide
    have qf:(s.heap.push<|mQ led).IsList l its:=⟨_,u,rfl,nl,rfl⟩;unfold Builtin.«set.__init__» noKeywords Builtin.Frozenset.updateFrom;generalize I:pyIter=PI
    wp_walk
    subst I;refine aDE qf (aAa<|aGh ?_);have x:l<s.heap.objs.size:=aAf q;have J:A.in1.in1.in1.handled=none:=by simp[hh]
    have y:l≠(s.heap.push<|mQ led).objs.size:=by rw[aBt];exact aAm (aBo x)
    have jv:s.heap.objs.size∉[(s.heap.push<|mQ led).objs.size,l]:=by rw[aBt];simp only[aAd,aAE,or_false,not_or];exact⟨aAm (aDj _),aCC x⟩
    have qg:∀b,s.heap.objs.size<=b->h0.get? b=none:=λb g=>by
     cases e:h0.get? b with
     |none=>rfl
     |some o=>have:=m b o e;rw[aEA g]at this;cases this
    refine MT (h0:=h0) ((Walks.list J _ l y its).toS) s.heap.objs.size jv (qg _<|aAh _) (λb g=>?hw) val n ou hU g (by show A.units+1+1+200<ee;omega) (its.size-0) 0 _ (by omega) (aBb _) ⟨⟨_,aAq _ rfl,rfl,rfl⟩,(qf.push _)⟩ (λb o e=>aAc _ (aAc _<|m b o e)) ⟨[],JW _ _ _ led (aAc _ hS),λd=>?he⟩ ?hR
    case he=>exact⟨λz=>(by cases z),by rintro⟨j,hj,_⟩;exact(by omega)⟩
    case hw=>
     have iu:b=(s.heap.push<|mQ led).objs.size:=by simpa using g
     subst iu;rw[aBt];exact qg _ (Nat.le_succ _)
    case hR=>
     rintro⟨h',g',d',yi,L⟩ B ⟨ds,N,O⟩;have eg:g'=s.gens:=B.gens;have ed:d'=s.drawn:=B.drawn;have eo:L=s.os:=B.os;subst eg;subst ed;subst eo;refine aAb ?_;show ai _ _ (ret Value.none) _ _ _;refine aAb ⟨rfl,h',yi,ds,rfl,(eL▸N),O,λb o e=>?_⟩;have g:=aAf e;have xt:b≠(s.heap.push<|mQ led).objs.size:=by rw[aBt];exact aAm (aBo g)
     exact B.heap b o (by simp only[aAd,aAE,or_false,not_or];exact⟨aAm g,xt⟩) (aAc _<|aAc _ e)
   .cases r0 with
    |error e=>exact a
    |ok T=>
     cases T with
     |next=>exact a.elim
     |brk=>exact a.elim
     |cont=>exact a.elim
     |ret r=>
      obtain⟨rfl,h',tk,ds,rfl,N,O,kg⟩:=a;repeat(any_goals(first|assumption|wp_step))
      exact h _ _ _ N O kg
end
end DL
namespace SI
open PySem
theorem FT {α:Type}(next:Nat->Nat):∀(a k:Nat) (left:List α) (b:Array α),left.length=a->(aGI next a k left b).toList.Perm (b.toList++left)
 |0,k,left,b,h=>by have:left=[]:=List.eq_nil_of_length_eq_zero h;subst this;simp[aGI]
 |a+1,k,left,b,h=>by
  unfold aGI;have d:0<left.length:=by lia
  have c:next k%left.length<left.length:=aDS _ d
  rw[aAg c];dsimp only;refine(FT next a (k+1) _ _ (by rw[List.length_eraseIdx_of_lt c];lia)).trans ?_;rw[Array.toList_push,List.append_assoc];refine List.Perm.append_left _ ?_;have:∀(l:List α) (i:Nat) (h:i<l.length),(l[i]::l.eraseIdx i).Perm l:=by
   intro l;induction l with
   |nil=>intro i h;simp at h
   |cons x l e=>
    intro i h;cases i with
    |zero=>simp
    |succ i=>
     have f:i<l.length:=by simpa using h
     rw[aFv,List.getElem_cons_succ];exact(List.Perm.swap _ _ _).trans ((e i f).cons _)
  exact this left _ c
def sR {α:Type}(next:Nat->Nat)(Y:Array α):(kc next Y).toList.Perm Y.toList:=by unfold kc;simpa using FT next Y.size 0 Y.toList #[] (by simp)
def walkL (w:cy)(S:bc)(es:Array (Int×af))(ep:Nat):List (Int×af):=if w.params.followText "set-order"=true then(kc (w.params.setOrder S ep) es).toList else es.toList
def walkL_perm (w:cy)(S:bc)(es:Array (Int×af))(ep:Nat):(walkL w S es ep).Perm es.toList:=by
 unfold walkL;split
 .exact sR _ _
 .exact List.Perm.refl _
def slotAt (w:cy)(t:gc):Nat->Nat
 |0=>0
 |i+1=>if w.params.followText "set-order"=true then 0 else t.place.getD i 0+1
def O8 (h:df)(w:cy)(it S:bc)(t:gc)(i n ep:Nat):Prop:=
 h.get? it=some {cls:=.type "set_iterator",dict:=none,data:=.fields #[et (slotAt w t i),et i,.ref S,et n,et ep],slots:=#[]}
def IsSet (h:df)(S:bc)(es:Array (Int×af))(ep:Nat)(t:gc):Prop:=∃o,h.get? S=some o/\o.cls=.type "set"/\o.data=.set es ep t
namespace F
def entry_set_iter:entryFor table "set.__iter__"=some Builtin.«frozenset.__iter__»:=entryFor_alias (id':= "frozenset.__iter__") (by kernel_rfl) rfl (by decide+kernel) (by kernel_rfl)
def slot_seti_next:Slot "set_iterator" "__next__" "set_iterator.__next__":=
 .of (owner:= "set_iterator") (n:= "__next__") (by rw[aDB,aCr];kernel_rfl) (by decide+kernel) (by decide+kernel) (by decide+kernel)
  (by first|exact .inl (by decide+kernel)|exact .inr (by decide+kernel)) (by rw[aFf];kernel_rfl)
def entry_seti_next:entryFor table "set_iterator.__next__"=some Builtin.«set_iterator.__next__»:=entryFor_of_tree (by kernel_rfl)
def args_seti_next (a:af):argsOk "set_iterator.__next__" ⟨[a],[]⟩:=by unfold argsOk;kernel_rfl
def slot_seti_iter:Slot "set_iterator" "__iter__" "set_iterator.__iter__":=
 .of (owner:= "set_iterator") (n:= "__iter__") (by rw[aDB,aCr];kernel_rfl) (by decide+kernel) (by decide+kernel) (by decide+kernel)
  (by first|exact .inl (by decide+kernel)|exact .inr (by decide+kernel)) (by rw[aFf];kernel_rfl)
def entry_seti_iter:entryFor table "set_iterator.__iter__"=some Builtin.«dict_keyiterator.__iter__»:=entryFor_alias (id':= "dict_keyiterator.__iter__") (by kernel_rfl) rfl (by decide+kernel) (by kernel_rfl)
def args_seti_iter (a:af):argsOk "set_iterator.__iter__" ⟨[a],[]⟩:=by unfold argsOk;kernel_rfl
end F
section
variable{s:bb} {t:gc}
def IL {α:Type}{M:Model}{Q:α->bb->Prop}{c:Prop}[Decidable c]{a b:Sem α}(h:c)(k:ai M A a Q E s):ai M A (if c then a else b) Q E s:=by rw[kd h];exact k
def xF (es:Array (Int×af))(a:t.plain=true):(!t.plain&&decide (es.size>1))=false:=by rw[a];rfl
def BS {Q:xC}(h:Q (w.params.followText "set-order") s):ai (be prog w) A setsByText Q E s:=by unfold setsByText;exact aAa (aFE<|aAb h)
def ON {Q:B4}(e:IsSet s.heap S es ep t)(b:t.fits es.size=true)(f:t.plain=true)
  (h:Q (.ref s.heap.objs.size) {s with heap:=s.heap.push {cls:=.type "set_iterator",dict:=none,data:=.fields #[et (slotAt w t 0),et (0:Nat),.ref S,et es.size,et ep],slots:=#[]}}):
  ai (be prog w) A (pyIter (.ref S)) Q E s:=by
 obtain⟨o,a,g,c⟩:=e;have d:s.TypeIs (.ref S) "set":=⟨o,a,g⟩;refine aEi d PySem.F.slot_set_iter (aBn PySem.F.slot_set_iter d F.entry_set_iter ?_ (PySem.F.args_set_iter_1 _));unfold Builtin.«frozenset.__iter__»;show ai _ _ (aFx "__iter__" ⟨[.ref S],[]⟩>>=_) _ _ s;have k:aFx "__iter__" ⟨[.ref S],[]⟩=pure S:=rfl;rw[k];refine aAa (aAb ?_);unfold Builtin.Frozenset.sizeOf;refine aAa (aAa<|aEI a c b<|aAb ?_);refine aAa ?_;unfold setDrawn;refine aAa (aCl a c b<|aAa<|BS<|aAb ?_);show ai _ _ (if(!w.params.followText "set-order"&&(!t.plain&&decide (es.size>1)))=true then _ else _) _ _ s;rw[xF es f,aGg];simp only[aAt,if_false];refine aAa (aAb<|aAa<|wpAny_setEpoch_of a c b ?_);refine aAa (aAW<|aAb ⟨_,rfl, "set_iterator",_,⟨_,aAq _ rfl,rfl⟩,F.slot_seti_next.lookup,?_⟩);simpa[slotAt]using h
def BW (a:ST.HY Y):aDL Y 0=0:=by
 obtain⟨c,b,d⟩:=ST.bH a 0;by_cases h:aDL Y 0=0
 .exact h
 .exact absurd (b 0 (by lia) (by lia)) (by lia)
def BK (b:ST.HY Y)(a:i<Y.size):aDL Y (Y.getD i 0+1)=i+1:=by
 have e:Y.getD i 0=Y[i]:=by simp[aFj,a]
 rw[e];obtain⟨g,d,f⟩:=ST.bH b (Y[i]+1);rcases Nat.lt_trichotomy (aDL Y<|Y[i]+1) (i+1)with q|q|q
 .have:=f i a (by lia);lia
 .exact q
 .have c:i+1<Y.size:=by lia
  have:=d (i+1) c q;have:=b i (i+1) a c (by lia)
  lia
def DB (t:gc)(a:ST.HY t.place)(b:¬w.params.followText "set-order"=true)(c:i<=t.place.size):aDL t.place (slotAt w t i)=i:=by
 cases i with
 |zero=>exact BW a
 |succ i=>show aDL t.place (if w.params.followText "set-order"=true then 0 else t.place.getD i 0+1)=i+1;rw[kz b];exact BK a (by lia)
def AB {Q:Option (af×Nat)->bb->Prop}(p:IsSet s.heap S es ep t)(c:t.fits es.size=true)(q:t.plain=true)(r:¬w.params.followText "set-order"=true->t.led=true)(u:ST.HY t.place)(H:i<=es.size)(d:∀e,(walkL w S es ep)[i]?=some e->Q (some (e.2,slotAt w t (i+1))) s)(k:i=es.size->Q none s):ai (be prog w) A (setNext S (slotAt w t i) i ep) Q E s:=by
 obtain⟨o,l,I,m⟩:=p;have v:t.place.size=es.size:=by simp only[aGu,aAH,beq_iff_eq,decide_eq_true_eq]at c;exact c.1
 unfold setNext;refine aAa (aCl l m c ?_);refine aAa (BS ?_);by_cases a:w.params.followText "set-order"=true
 .rw[kd a,kz (by simp)];unfold setWalk;refine aAa (aAa<|aCl l m c<|aAa<|BS ?_);rw[kd a];refine aAa (aFE<|aAb ?_);refine aAb ?_;have g:(walkL w S es ep)=(kc (w.params.setOrder S ep) es).toList:=by unfold walkL;rw[kd a]
  have h:slotAt w t i=slotAt w t (i+1):=by
   cases i with
   |zero=>show 0=if w.params.followText "set-order"=true then 0 else _;rw[kd a]
   |succ i=>show(if w.params.followText "set-order"=true then 0 else _)=if w.params.followText "set-order"=true then 0 else _;rw[kd a,kd a]
  rw[g,aAC]at d;show Q (((kc (w.params.setOrder S ep) es)[i]?).map λe=>(e.2,slotAt w t i)) s;cases e:(kc (w.params.setOrder S ep) es)[i]? with
  |some x=>rw[h];exact d x e
  |none=>
   have n:(kc (w.params.setOrder S ep) es).size=es.size:=by have:=(sR (w.params.setOrder S ep) es).length_eq;simpa using this
   have:=Array.getElem?_eq_none_iff.mp e;exact k (by lia)
 .rw[kz a];have y:¬(!t.plain&&decide (es.size>1))=true:=by rw[q];simp
  show ai _ _ (if(!t.plain&&decide (es.size>1))=true then _ else _) _ _ s;rw[kz y];show ai _ _ ((if(!t.led&&!es.isEmpty)=true then _ else _)>>=_) _ _ s;rw[kz (by rw[r a];simp)];refine aAa (aAb<|aAb ?_);rw[DB t u a (by lia)];have g:(walkL w S es ep)=es.toList:=by unfold walkL;rw[kz a]
  rw[g,aAC]at d;by_cases z:i<es.size
  .have f:es[i]?=some es[i]:=aAA z;have b:i<t.place.size:=by lia
   have B:t.place[i]?=some t.place[i]:=aAA b;have:=d _ f;rw[f,B];have C:slotAt w t (i+1)=t.place[i]+1:=by show(if w.params.followText "set-order"=true then 0 else t.place.getD i 0+1)=_;rw[kz a];simp[aFj,b]
   rw[C]at this;exact this
  .have f:es[i]?=none:=aBM (by lia);rw[f];exact k (by lia)
def Q4 (h:O8 s.heap w it S t i n ep):s.TypeIs (.ref it) "set_iterator":=⟨_,h,rfl⟩
def LI {Q:Option af->bb->Prop}(a:O8 s.heap w it S t i es.size ep)(b:IsSet s.heap S es ep t)(c:t.fits es.size=true)(g:t.plain=true)(k:¬w.params.followText "set-order"=true->t.led=true)(l:ST.HY t.place)(m:i<es.size)(h:∀e h',(walkL w S es ep)[i]?=some e->O8 h' w it S t (i+1) es.size ep->Heap.SameBut it s.heap h'->Q (some e.2) {s with heap:=h'}):ai (be prog w) A (fT (.ref it)) Q E s:=by
 have d:=Q4 a;obtain⟨o,n,z,p⟩:=id b;unfold fT;refine aAa (aEa (aCa (name:=aCD "__next__") d F.slot_seti_next
  (aBn F.slot_seti_next d F.entry_seti_next ?_ (F.args_seti_next _))))
 refine aAa (aAb ?_);refine aAa (aGi a rfl ?_);show ai _ _ (setEntries S>>=_) _ _ s;refine aAa (aEI n p c ?_);rw[kz (by simp)];show ai _ _ (setNext S (aEJ (slotAt w t i:Int)) (aEJ (i:Int)) (aEJ (ep:Int))>>=_) _ _ s;rw[aBI,aBI,aBI];refine aAa (AB b c g k l (aDy m) (λe q=>?_) λe=>by lia);show ai _ _ (setField (.ref it) 0 (et<|slotAt w t<|i+1)>>=_) _ _ s;refine aAa (aCc a (by simp) λr u v=>?_);show ai _ _ (setField (.ref it) 1 (et<|(i:Int)+1)>>=_) _ _ _;refine aAa (aCc (s:={s with heap:=r}) u (by simp) λf x y=>?_);refine aAb ⟨_,rfl,aAb (h e f q ?_ (v.trans y))⟩;have:f.get? it=some _:=x;unfold O8;rw[this];simp
def UZ {Q:Option af->bb->Prop}(l:A.handled=none)(c:O8 s.heap w it S t es.size es.size ep)(d:IsSet s.heap S es ep t)(f:t.fits es.size=true)(n:t.plain=true)(p:¬w.params.followText "set-order"=true->t.led=true)(q:ST.HY t.place)(h:∀h',Heap.ExtBut it s.heap h'->Q none {s with heap:=h'}):ai (be prog w) A (fT (.ref it)) Q E s:=by
 have g:=Q4 c;obtain⟨o,r,y,u⟩:=id d;unfold fT;refine aAa (aEa (aCa (name:=aCD "__next__") g F.slot_seti_next
  (aBn F.slot_seti_next g F.entry_seti_next ?_ (F.args_seti_next _))))
 refine aAa (aAb ?_);refine aAa (aGi c rfl ?_);show ai _ _ (setEntries S>>=_) _ _ s;refine aAa (aEI r u f ?_);rw[kz (by simp)];show ai _ _ (setNext S (aEJ (slotAt w t es.size:Int)) (aEJ (es.size:Int)) (aEJ (ep:Int))>>=_) _ _ s;rw[aBI,aBI,aBI];refine aAa (AB d f n p q (aAh _) (λe v=>?_) λ_=>?_)
 .have x:=(walkL_perm w S es ep).length_eq;have k:=(aAy.mp v).1;rw[x]at k;simp at k
 .show ai _ _ (setField (.ref it) 2 .none>>=_) _ _ s;refine aAa (aGj c rfl (by simp) ?_);show ai _ _ (newExc (.type "StopIteration") []>>=_) _ _ _;refine aAa ?_;simp only[newExc,newTuple];refine aAa (aAW ?_ (by size_fits));refine aAa (m:=firstArgMember _ _) (aFw (a:=Value.none) (by first|rfl|(simp only[firstArgMember];rfl)) ?_);refine aAW ?_ (by size_fits);simp only[raiseNew];refine aAa (wpAny_handled ?_);rw[show A.in1.handled=none from l];refine aAa (aAb<|wpAny_throw ?_);refine aAa (aDk (T:= "StopIteration") (b:=true) ⟨_,aAq _ rfl,rfl⟩ aGk ?_);exact aAb (h _<|((aEK ..).extBut.push _).push _)
def dR (x:IsSet h S es ep t)(e:∀o,h.get? S=some o->h'.get? S=some o):IsSet h' S es ep t:=let⟨o,a,r⟩:=x;⟨o,e o a,r⟩
end
section
def JR (p:A.handled=none)(I S:bc)(r:S≠I)(f:t.fits es.size=true)(g:t.plain=true)(k:¬w.params.followText "set-order"=true->t.led=true)(l:ST.HY t.place):
  Walks prog w A I [I,S] [I] es.size (λi v=>∃e,(walkL w S es ep)[i]?=some e/\v=e.2) (λi h=>O8 h w I S t i es.size ep/\IsSet h S es ep t)where
 sub:=λb a=>by simp at a;simp[a]
 frame:=λ_ _ _ st m=>⟨m I (by simp) _ st.1,dR st.2 λo e=>m S (by simp) o e⟩
 item:=λi s Q E u st c=>LI st.1 st.2 f g k l u λe d x y n=>c e.2 d s.toks ⟨e,x,rfl⟩ ⟨y,dR st.2 λo q=>(n.2 S r).trans q⟩ λb o a q=>(n.2 b (λz=>a (by simp[z]))).trans q
 done:=λs Q E st c=>UZ p st.1 st.2 f g k l λd B=>c d s.toks λb o a q=>B b o (λz=>a (by simp[z])) q
 self:=λi s Q E st c=>by refine aEi (Q4 st.1) F.slot_seti_iter (aBn F.slot_seti_iter (Q4 st.1) F.entry_seti_iter ?_ (F.args_seti_iter _));refine aAa (aAb<|aAb ⟨_,rfl, "set_iterator",_,Q4 st.1,F.slot_seti_next.lookup,c⟩)
def collect_set {Q:List af->bb->Prop}(hh:A.handled=none)(hS:IsSet s.heap S es ep t)(hf:t.fits es.size=true)(hp:t.plain=true)(hl:¬w.params.followText "set-order"=true->t.led=true)(ha:ST.HY t.place)(hn:es.size<=sizeLine)
  (hQ:∀h' tk,(∀b o,s.heap.get? b=some o->h'.get? b=some o)->Q ((walkL w S es ep).map (·.2)) {s with heap:=h',toks:=tk}):ai (be prog w) A (collect (.ref S)) Q E s:=by
 obtain⟨I,d,h,hdS⟩:=id hS;have hT:s.TypeIs (.ref S) "set":=⟨I,d,h⟩;have C:S<s.heap.objs.size:=aAf d;unfold collect;refine aAa (aGh<|aBl PySem.F.entry_proto_collect ?_);rw[aAL PySem.F.plain_proto_collect _];show ai _ A.in1 (newList []>>=λl=>again (.builtin "list.__iadd__" ⟨[l,.ref S],[]⟩)) _ _ s;refine aAa (aAW ?_);refine aAb ⟨aBs PySem.F.plain_list_iadd _,aBl PySem.F.entry_list_iadd ?_⟩;rw[aAL PySem.F.plain_list_iadd _];generalize k:s.heap.push {cls:=.type "list",data:=.seq ([]:List af).toArray}=a;have f:∀b o,s.heap.get? b=some o->a.get? b=some o:=λb o e=>by rw[<-k];exact aAc _ e
 have c:a.objs.size=s.heap.objs.size+1:=by rw[<-k,aBt]
 have J:a.get? s.heap.objs.size=some {cls:=.type "list",data:=.seq ([]:List af).toArray}:=by rw[<-k];exact aAq _ rfl
 have p:IsSet a S es ep t:=dR hS λo e=>f S o e;have L:Shared.TypeIs {s with heap:=a} (.ref S) "set":=⟨I,f _ _ d,h⟩;have q:aDc (.ref s.heap.objs.size) (.ref S)=false:=by simp[aDc,aCC C]
 show ai _ A.in1 (aCd (.ref s.heap.objs.size) (.ref S)<|.ref s.heap.objs.size) _ _ _;unfold aCd;refine aAa (aDU L ?_);rw[kz (by rw[q];decide)];refine aAa (ON (s:={s with heap:=a}) p hf hp ?_);refine aAa (aAK ?_);generalize r:a.push {cls:=.type "set_iterator",dict:=none,data:=.fields #[et (slotAt w t 0),et (0:Nat),.ref S,et es.size,et ep],slots:=#[]}=n;have g:∀b o,a.get? b=some o->n.get? b=some o:=λb o e=>by rw[<-r];exact aAc _ e
 have N:O8 n w a.objs.size S t 0 es.size ep:=by rw[<-r];exact aAq _ rfl
 have O:IsSet n S es ep t:=dR p λo e=>g S o e;have m:Shared.TypeIs {s with heap:=n} (.ref S) "set":=⟨I,g _ _ (f _ _ d),h⟩;have u:=g _ _ J;unfold aCH;refine aAa (aBC m PySem.F.slot_set_len.lookup ?_)
 (generalize hid:("set.__len__":String)=v;(fail_if_success (clear hid v));wp_delta;rw[show splitId v=some ("set", "__len__")from by subst hid;decide+kernel];subst hid)
 refine aAa (aDk (b:=true) m (by rw[aFf];kernel_rfl) ?_);rw[kz (by decide)];refine IL (by decide+kernel) ?_
 .refine aAa (aDU m<|aAb ?_);rw[kd (by decide)];show ai _ A.in1 (rule "list.extend.makes-room">>=λ_=>aFK (.ref s.heap.objs.size)>>=λ_=>again (.builtin "list.extend.loop" ⟨[.ref s.heap.objs.size,.ref a.objs.size,.ref s.heap.objs.size],[]⟩)) _ _ _
  refine aAa (aDD ?_);refine aAa ?_;show ai _ A.in1 (gW s.heap.objs.size (·.push .none)>>=λ_=>gW s.heap.objs.size (·.pop)) _ _ _;refine aAa (aBD u rfl ?_);have x:=aAT (aBG (·.push Value.none)) u rfl;refine aBD x rfl ?_;have T:=aAT (aBG (·.pop)) x rfl;have U:∀b o,b≠s.heap.objs.size->n.get? b=some o->((n.update s.heap.objs.size (aBG (·.push Value.none))).update s.heap.objs.size (aBG (·.pop))).get? b=some o:=
   λb o y e=>(aAw _ _<|aCk y).trans ((aAw _ _<|aCk y).trans e)
  have z:a.objs.size≠s.heap.objs.size:=by rw[c];lia
  have W:=(JR (prog:=prog) (w:=w) (A:=A.in1) (by simp[hh]) a.objs.size S (by rw[c];exact aAm (aBo C)) (es:=es) (ep:=ep) (t:=t) hf hp hl ha).toS;refine aAb ⟨aBs PySem.F.plain_extend_loop _,codeAny_extend_loopS W hn _ (by simp only[aAd,aAE,or_false,not_or];exact⟨aCk z,aCC C⟩) _ es.size 0 _ _ _ rfl (aBb _) ⟨U _ _ z N,dR O λo e=>U S o (aAm C) e⟩ T (ItemsOf.nil _) λB jb c' H gu Y=>?_⟩;show ai _ A (load s.heap.objs.size>>=_) _ _ B;refine aAa (wpAny_load gu ?_);refine aAb ?_;have g0:B.gens=s.gens:=H.gens;have d0:B.drawn=s.drawn:=H.drawn;have o0:B.os=s.os:=H.os;have ea:jb.toList=(walkL w S es ep).map (·.2):=by
   have lb:=(walkL_perm w S es ep).length_eq;apply aDC;intro i;rw[aAG,aAC];by_cases hi:i<es.size
   .have vt:i<jb.size:=by rw[Y.1];exact hi
    obtain⟨e,he,hv⟩:=Y.2 i _ (aAA vt);rw[he,aAA vt,hv];rfl
   .rw[aBM (by rw[Y.1];lia),aEs (by rw[lb];simp;lia)];rfl
  obtain⟨h',g',d',yi,os'⟩:=B;subst g0 d0 o0;rw[ea];refine hQ h' yi λb o e=>?_;have y:b≠s.heap.objs.size:=aAm (aAf e);have xt:b≠a.objs.size:=by rw[c];exact aAm (aBo<|aAf e)
  exact H.heap b o (by simp only[aAd,aAE,or_false,not_or];exact⟨y,xt⟩) (U b o y<|g _ _<|f _ _ e)
end
end SI
namespace DL
open PySem PySem.Spec L2
open PyProof.Rows hiding St
def LR:D->Bool
 |.int _=>true
 |_=>false
def N4:D->Bool
 |.tup Y=>!Y.isEmpty&&Y.all LR
 |_=>false
def intD:D->Int
 |.int i=>i
 |_=>0
def flat:D->List Int
 |.tup Y=>Y.map intD
 |_=>[]
theorem QH:∀{Y:List D},Y.all LR=true->Y=(Y.map intD).map D.int
 |[],_=>rfl
 |x::Y,h=>by
  simp only[aGs,aAH]at h;cases x with
  |int i=>show D.int i::Y=D.int i::(Y.map intD).map D.int;rw[<-QH h.2]
  |_=>cases h.1
def dD (h:N4 d=true):flat d≠[]/\d=.tup ((flat d).map .int):=by
 cases d with
 |tup Y=>simp only[N4,aAH,Bool.not_eq_true',List.isEmpty_eq_false_iff]at h;refine⟨by simpa[flat]using h.1,?_⟩;show D.tup Y=D.tup ((Y.map intD).map D.int);rw[<-QH h.2]
 |_=>cases h
def dZ (h:N4 d=true)(h':N4 e=true)(q:flat d=flat e):d=e:=by rw[(dD h).2,(dD h').2,q]
theorem sK:∀l:List Int,fM (l.map D.int)=true
 |[]=>rfl
 |i::l=>by show(true&&fM (l.map D.int))=true;rw[sK l];rfl
def A6 (h:N4 d=true):nE d=true:=by rw[(dD h).2];exact sK _
def mY (h:N4 d=true):C4 d<8:=by
 rw[(dD h).2];have:∀l:List Int,C5 (l.map D.int)=0:=λl=>by
  induction l with
  |nil=>rfl
  |cons i l a=>show max 0 (C5<|l.map D.int)=0;rw[a];rfl
 show C5 _+1<8;rw[this];lia
def qZ (d:D):List D->List D
 |[]=>[d]
 |x::Y=>if flat d=flat x then x::Y else if HT.lexLt (flat d) (flat x)=true then d::x::Y else x::qZ d Y
def S9 (ds:List D):List D:=ds.foldr qZ []
def QC (ds:List D):Prop:=ds.Pairwise λx y=>HT.lexLt (flat x) (flat y)=true
theorem iQ:∀{Y:List D},e∈qZ d Y->e=d\/e∈Y
 |[],h=>by rcases aAd.mp h with h|h;exact .inl h;cases h
 |x::Y,h=>by
  unfold qZ at h;split at h
  .exact .inr h
  .split at h
   .rcases aAd.mp h with h|h
    .exact .inl h
    .exact .inr h
   .rcases aAd.mp h with h|h
    .exact .inr (by rw[h];exact .head _)
    .rcases iQ h with h|h
     .exact .inl h
     .exact .inr (.tail _ h)
theorem xZ:∀{Y:List D},e∈Y->e∈qZ d Y
 |x::Y,h=>by
  unfold qZ;split
  .exact h
  .split
   .exact .tail _ h
   .rcases aAd.mp h with h|h
    .rw[h];exact .head _
    .exact .tail _ (xZ h)
theorem zJ (a:N4 d=true):∀{Y:List D},(∀x∈Y,N4 x=true)->d∈qZ d Y
 |[],_=>.head _
 |x::Y,h=>by
  unfold qZ;split
  .rename_i q;rw[dZ a (h x (.head _)) q];exact .head _
  .split
   .exact .head _
   .exact .tail _ (zJ a λy b=>h y (.tail _ b))
theorem zD:∀{Y:List D},QC Y->QC (qZ d Y)
 |[],_=>aDW _ _
 |x::Y,h=>by
  have b:=aAx.mp h;unfold qZ;split
  .exact h
  .rename_i ne;split
   .rename_i lt;refine aAx.mpr ⟨λy a=>?_,h⟩;rcases aAd.mp a with rfl|a
    .exact lt
    .exact TS.lex_trans _ _ _ lt (b.1 y a)
   .rename_i c;refine aAx.mpr ⟨λy a=>?_,zD b.2⟩;rcases iQ a with rfl|a
    .cases q:HT.lexLt (flat x) (flat y)with
     |true=>rfl
     |false=>exact absurd (TS.lex_total _ _ (by simpa using c) q) ne
    .exact b.1 y a
theorem N9:∀ds:List D,QC (S9 ds)
 |[]=>.nil
 |_::ds=>zD (N9 ds)
theorem AO:∀{ds:List D},(∀d∈ds,N4 d=true)->∀d∈S9 ds,N4 d=true
 |[],_,d,h=>by cases h
 |e::ds,h,d,hd=>by
  rcases iQ hd with rfl|hd
  .exact h _ (.head _)
  .exact AO (λd hd=>h d (.tail _ hd)) d hd
theorem G8:∀{ds:List D},(∀d∈ds,N4 d=true)->∀d,d∈S9 ds↔d∈ds
 |[],_,d=>Iff.rfl
 |e::ds,h,d=>by
  have a:∀d∈ds,N4 d=true:=λd b=>h d (.tail _ b);constructor
  .intro q;rcases iQ q with rfl|q
   .exact .head _
   .exact .tail _ ((G8 a d).mp q)
  .intro q;rcases aAd.mp q with rfl|q
   .exact zJ (h _<|.head _) (AO a)
   .exact xZ ((G8 a d).mpr q)
theorem eJ:∀{Y b:List D},QC Y->QC b->(∀d,d∈Y↔d∈b)->Y=b
 |[],[],_,_,_=>rfl
 |[],y::b,_,_,h=>by have:=(h y).mpr (.head _);cases this
 |x::Y,[],_,_,h=>by have:=(h x).mp (.head _);cases this
 |x::Y,y::b,k,l,h=>by
  have c:=aAx.mp k;have e:=aAx.mp l;have a:∀d:D,HT.lexLt (flat d) (flat d)≠true:=λd q=>by rw[TS.lex_irrefl]at q;cases q
  have f:x=y:=by
   rcases aAd.mp ((h x).mp (.head _))with q|q
   .exact q
   .rcases aAd.mp ((h y).mpr (.head _))with g|g
    .exact g.symm
    .exact absurd (TS.lex_trans _ _ _ (e.1 x q)<|c.1 y g) (a y)
  subst f;congr 1;refine eJ c.2 e.2 λd=>?_;constructor
  .intro q;rcases aAd.mp ((h d).mp (.tail _ q))with z|z
   .subst z;exact absurd (c.1 d q) (a d)
   .exact z
  .intro q;rcases aAd.mp ((h d).mpr (.tail _ q))with z|z
   .subst z;exact absurd (e.1 d q) (a d)
   .exact z
def IZ (h:QC Y):Y.Nodup:=h.imp λ{x y} q z=>by subst z;rw[TS.lex_irrefl]at q;cases q
def my:D->R (List D)
 |.lst a=>if a.all N4=true/\(S9 a).length<=63 then .ok (S9 a)else .bad
 |_=>.bad
section
mutual
theorem N8 (I:Inv X a σ H s):∀{v:V} {d:D} {u:af},Rep X.K H O v d->nE d=true->RelV v u->HV s.heap u d
 |_,_,_,.non,e,_=>by cases e
 |_,_,_,.bl,e,_=>by cases e
 |_,_,_,.str,e,_=>by cases e
 |_,_,_,.lst _ _ _,e,_=>by cases e
 |_,_,_,.dct _ _ _,e,_=>by cases e
 |_,_,_,.int,_,r=>by obtain⟨t,rfl⟩:=r;exact .int _ t
 |_,_,_,.tup h r,e,b=>by cases b;obtain⟨c,f,p,_⟩:=I.tuple h;exact .tup p (FN I r e f)
theorem FN (I:Inv X b σ H s):∀{v:List V} {d:List D} {u:List af},Reps X.K H O v d->fM d=true->l7 v u->HVs s.heap u d
 |_,_,_,.nil,_,.nil=>.nil
 |_,_,_,.cons r t,e,.cons c f=>by have a:(nE _&&fM _)=true:=e;rw[aAH]at a;exact .cons (N8 I r a.1 c) (FN I t a.2 f)
end
end
variable [Tabs]
def YN (w:cy)(o:Obj)(es:List af):Prop:=o.ExactSet/\∃a b t,o.data=.set a b t/\t.fits a.size=true/\t.plain=true/\t.led=!w.params.followText "set-order"/\ST.HY t.place/\a.toList.map (·.2)=es
abbrev u5 (K:lr)(H:Hp)(O:bc->Prop):List af->List D->Prop:=Paired λu d=>∃v,RelV v u/\Rep K H O v d
theorem u5.of {K:lr}{H:Hp}{O:bc->Prop}:∀{vs:List V} {a:List af} {ds:List D},l7 vs a->Reps K H O vs ds->u5 K H O a ds
 |_,_,_,.nil,.nil=>.nil
 |_,_,_,.cons r t,.cons q u=>.cons ⟨_,r,q⟩ (u5.of t u)
theorem u5.ac0 {K:lr}{H:Hp}{O:bc->Prop}:∀{a:List af} {ds:List D},u5 K H O a ds->∃vs,l7 vs a/\Reps K H O vs ds
 |_,_,.nil=>⟨[],.nil,.nil⟩
 |_,_,.cons ⟨v,r,q⟩ t=>let⟨vs,b,c⟩:=u5.ac0 t;⟨v::vs,.cons r b,.cons q c⟩
def u5.same {K:lr}{H H':Hp}{O:bc->Prop}(s:Same H H'){a:List af}{ds:List D}(h:u5 K H O a ds):u5 K H' O a ds:=cU (by rintro _ _ ⟨v,r,q⟩;exact⟨v,r,q.same s⟩) h
theorem u5.get {K:lr}{H:Hp}{O:bc->Prop}:∀{a:List af} {ds:List D} {u:af},u5 K H O a ds->u∈a->∃d∈ds,∃v,RelV v u/\Rep K H O v d
 |_,_,_,.cons r t,h=>by
  rcases aAd.mp h with rfl|h
  .exact⟨_,.head _,r⟩
  .obtain⟨d,b,q⟩:=u5.get t h;exact⟨d,.tail _ b,q⟩
open Classical in
def P9 (K:lr) (H:Hp) (h:df):df:=PySem.W.hideAll h ((aBF h.objs.size).filter λa=>decide (¬∃Y,V1 K H a Y))
def Z0 (K:lr)(H:Hp)(h:df):Keeps (P9 K H h) h:=λb o e=>PySem.W.of_hideAll _ e
open Classical in
def yB {K:lr}{H:Hp}{h:df}{b:bc}{o:Obj}{Y:List V}(e:h.get? b=some o)(q:V1 K H b Y):(P9 K H h).get? b=some o:=PySem.W.hideAll_get _ e λa=>by have:=(aBQ.mp a).2;exact(of_decide_eq_true this) ⟨Y,q⟩
open Classical in
def CP {K:lr}{H:Hp}{h:df}{b:bc}{o:Obj}(e:(P9 K H h).get? b=some o):∃Y,V1 K H b Y:=by refine Classical.byContradiction λn=>?_;have a:=Z0 K H h b o e;have:(P9 K H h).get? b=none:=PySem.W.hideAll_none _ (aBQ.mpr ⟨aCB.mpr (aAf a),decide_eq_true n⟩);rw[this]at e;cases e
section
mutual
theorem LN (I:Inv X a σ H s):∀{v:V} {d:D} {u:af},Rep X.K H O v d->nE d=true->RelV v u->HV (P9 X.K H s.heap) u d
 |_,_,_,.non,e,_=>by cases e
 |_,_,_,.bl,e,_=>by cases e
 |_,_,_,.str,e,_=>by cases e
 |_,_,_,.lst _ _ _,e,_=>by cases e
 |_,_,_,.dct _ _ _,e,_=>by cases e
 |_,_,_,.int,_,r=>by obtain⟨t,rfl⟩:=r;exact .int _ t
 |_,_,_,.tup h r,e,b=>by cases b;obtain⟨f,k,⟨o,g,c,n,d⟩,_⟩:=I.tuple h;exact .tup ⟨o,yB g h,c,n,d⟩ (FB I r e k)
theorem FB (I:Inv X b σ H s):∀{v:List V} {d:List D} {u:List af},Reps X.K H O v d->fM d=true->l7 v u->HVs (P9 X.K H s.heap) u d
 |_,_,_,.nil,_,.nil=>.nil
 |_,_,_,.cons r t,e,.cons c f=>by have a:(nE _&&fM _)=true:=e;rw[aAH]at a;exact .cons (LN I r a.1 c) (FB I t a.2 f)
end
mutual
theorem KT (I:Inv X b σ H s):∀{u:af} {d:D},HV (P9 X.K H s.heap) u d->∃v,RelV v u/\Rep X.K H O v d
 |_,_,.int i t=>⟨.int i,⟨t,rfl⟩,.int⟩
 |_,_,.tup (a:=a) ⟨o,g,c,n,h⟩ r=>by obtain⟨Y,q⟩:=CP g;obtain⟨k,l,m⟩:=u5.ac0 (GM I r);obtain⟨p,w,⟨y,e,_,z,f⟩,_⟩:=I.tuple q;rw[Z0 _ _ _ _ _ g]at e;cases e;rw[h]at f;injection f with x _;subst x;have:k=Y:=l.inj (by simpa using w);subst this;exact⟨.ref a,rfl,.tup q m⟩
theorem GM (I:Inv X a σ H s):∀{u:List af} {d:List D},HVs (P9 X.K H s.heap) u d->u5 X.K H O u d
 |_,_,.nil=>.nil
 |_,_,.cons r t=>.cons (KT I r) (GM I t)
end
end
section
def zq (X:Cx)(B:D->Bool)(U:List D->List D)(f:Ev->R D):TE:=λσ H Q=>∃h k O ρ,EnvOk X.K h k H O σ ρ/\match f ρ with
 |.ok (.lst b)=>(b.all B=true/\(U b).length<=63)/\∀S o e c a,Same H a->a S=none->YN X.w o e->u5 X.K a O e c->c.Nodup->(∀d,d∈c↔d∈b)->Q (.ref S) (upd a S<|.frz o (.own S))
 |.ex x=>∀g,Same H g->XW X x g
 |_=>False
def EU {B:D->Bool}{U:List D->List D}(hB:∀{d},B d=true->nE d=true/\C4 d<8/\∃T,d=.tup T)(hU:∀{ds:List D},(∀d∈ds,B d=true)->∀d,d∈U ds↔d∈ds)(ha:PB X e f)(hh:X.calm=true)(hu:X.A.units+300<ee)(hg:Gl X "set":=by rfl)(hm:X.mg "set"=none:=by assumption)(hv:dm "set"=some (.type "set"):=by decide+kernel)(he:a9 [e] X.env=(false,ek e X.env)::a9 [] X.env:=by rfl)(bh:(d3 y (a9 [] X.env)).any (·.1)=false:=by rfl):
  PE X (.Call (.Name "set" p) [e] [] y) (zq X B U f):=by
 refine uI λC s σ H Q I H9 O0 O ρ E q=>?_;refine aAR (J8 I hg hm hv ?_ (by decide) (by decide));have mh:PA X [e] _:=G2 ha Z7 he;refine aBk (E9 (mh y C s σ H (λvs c=>∃v ds,vs=[v]/\f ρ=.ok (.lst ds)/\Same H c/\B5 X.K c O v (.lst ds)) I ⟨H9,O0,O,ρ,E,?_⟩) λus g z9=>?_) he bh
 .cases b:f ρ with
  |ex z=>rw[b]at q;exact q
  |bad=>rw[b]at q;exact q.elim
  |ok d=>
   rw[b]at q;cases d with
   |lst ds=>exactλv c g r1=>⟨v,ds,rfl,rfl,g,r1⟩
   |_=>exact q.elim
 .obtain⟨vs,c,l,r1,v,ds,ev,ef,sm,rb⟩:=z9;subst ev;rw[ef]at q;obtain⟨⟨hp,rf⟩,q⟩:=q;obtain⟨a,ws,rfl,hS,rr⟩:=rb.aa5;obtain⟨u,rfl,ru⟩:=vals1 r1;cases ru;obtain⟨h,rv,⟨oL,nL,gL,cL,dL,sL⟩,zL⟩:=l.list hS;have pt:∀d∈ds,B d=true:=aBp.mp hp;have hlen:h.toArray.size=ds.length:=by rw[aAp,<-rv.length,rr.length]
  have st:u5 X.K c O h ds:=u5.of rv rr;have J:∀(i:Nat) (v:af),h.toArray[i]?=some v->bq (P9 X.K c g.heap) v (ds.getD i .non):=λi v m=>by
   rw[aBY]at m;obtain⟨d,n,w,lh,rp⟩:=B6 st m;have nu:ds.getD i .non=d:=by rw[aAo,n];rfl
   rw[nu];have hpt:=pt d (aAk n);obtain⟨Y,hd8,T,rfl⟩:=hB hpt;have hv:=LN l rp Y lh;cases hv with
   |tup p r=>exact⟨_,_,rfl,rfl,hd8,.tup p r⟩
  have vd:∀i<h.toArray.size,C4 (ds.getD i .non)<8/\∃T,ds.getD i .non=.tup T:=λi m=>by
   have L:i<ds.length:=by rw[<-hlen];exact m
   have b:ds.getD i .non=ds[i]:=by rw[aAo,aAg L];rfl
   rw[b];exact(hB<|pt _<|aBV L).2
  refine zE (Z0 X.K c g.heap) (val:=λi=>ds.getD i .non) (U:=U ds) (l.ok.hd hh) ⟨oL,gL,cL,nL,sL⟩ J vd (λi m=>?_) (by lia) hu λh' tk au gu ud kp=>?_
  .have L:i<ds.length:=by rw[<-hlen];exact m
   rw[hU pt];have b:ds.getD i .non=ds[i]:=by rw[aAo,aAg L];rfl
   show ds.getD i .non∈ds;rw[b];exact aBV L
  .obtain⟨⟨o,x,ep,t,Y,hc,N,ym,n,k,msk,pr,led,pl⟩,nd⟩:=gu;have mem:∀d,d∈au↔d∈ds:=λd=>by
    rw[ud];constructor
    .rintro⟨j,hj,b⟩;have vp:j<ds.length:=by rw[<-hlen];exact hj
     have e2:ds.getD j .non=ds[j]:=by rw[aAo,aAg vp];rfl
     rw[<-b,e2];exact aBV vp
    .intro n;obtain⟨j,hj,b⟩:=aBj n;refine⟨j,by rw[hlen];exact hj,?_⟩;show ds.getD j .non=d;rw[aAo,aAg hj,<-b];rfl
   have I2:=l.laid (a:=g.heap.objs.size) (o:=.frz o (.own g.heap.objs.size)) (h':=h') (t':=tk) kp (aAh _) ⟨Y,o,Y⟩;refine⟨.ref g.heap.objs.size,_,I2,rfl,q g.heap.objs.size o (x.toList.map (·.2)) au c sm (l.hok.fresh<|aAh _) ⟨⟨hc,N,ym⟩,x,ep,t,n,?_,pl,led,k.tab.asc,rfl⟩ ?_ nd mem⟩
   .have h1:=k.len;have h2:=k.room;simp only[aGu,aAH,beq_iff_eq,decide_eq_true_eq];exact⟨by simpa using h1,by show t.place.size+t.dummies.size<=t.mask;rw[k.tab.nod];simpa using h2⟩
   .have:∀{x:List (Int×af)} {ds:List D},Paired (EV<|P9 X.K c g.heap) x ds->u5 X.K c O (x.map (·.2)) ds:=λ{x ds} p=>by
     induction p with
     |nil=>exact .nil
     |cons r _ ih=>exact .cons (KT l r.1) ih
    exact this pr
def JU (h:df) (v:af):List Int:=open Classical in if p:∃d,N4 d=true/\HV h v d then flat p.choose else[]
def fC (b:N4 d=true)(a:HV h v d):JU h v=flat d:=by unfold JU;have q:∃d,N4 d=true/\HV h v d:=⟨d,b,a⟩;rw[dif_pos q,HV.inj q.choose_spec.2 a]
def G0 (e:N4 d=true)(c:HV h v d):∃b items,v=.ref b/\IsTup h b items/\IntsAre items.toList (flat d):=by
 rw[(dD e).2]at c;cases c with
 |tup p r=>
  refine⟨_,_,rfl,p,?_⟩;have:∀{a:List af} {l:List Int},HVs h a (l.map D.int)->IntsAre a l:=λ{a l} r=>by
   induction l generalizing a with
   |nil=>cases r;exact .nil
   |cons i l f=>
    cases r with
    |cons r t=>cases r;exact .cons _ _ (f t)
  exact this r
def OJ {prog:cp}{w:cy}{A:cv}{E:B4}{s:bb}{x y:af}{d e:D}{f:Bool}{Q:xC}(c:N4 d=true)(g:N4 e=true)(h:HV s.heap x d)(k:HV s.heap y e)(q:Q (HT.lexLt (flat d) (flat e)) s):ai (be prog w) A (keyLt' (TS.tupK f) x y) Q E s:=by obtain⟨b,l,rfl,m,n⟩:=G0 c h;obtain⟨r,a,rfl,o,p⟩:=G0 g k;exact TS.lt_ints f m o n p q
def AD {prog:cp}{w:cy}{A:cv}{E:B4}{s:bb}{vs:List af}{Q:SortKind->bb->Prop}(h:∀x∈vs,∃d,N4 d=true/\HV s.heap x d)(y:2<=vs.length)(q:Q (TS.tupK true) s):ai (be prog w) A (keyKind' vs.toArray) Q E s:=by
 obtain⟨f,m⟩:∃f:af->af,∀x∈vs,∃b a k t,x=.ref b/\IsTup s.heap b a/\a[0]?=some (f x)/\f x=.int k t:=by
  refine⟨λx=>open Classical in if z:∃p,∃b a k t,x=.ref b/\IsTup s.heap b a/\a[0]?=some p/\p=aGL k t then z.choose else .none,λx n=>?_⟩;obtain⟨d,B,H⟩:=h x n;obtain⟨b,a,rfl,I,c⟩:=G0 B H;have C:=(dD B).1;have z:∃p,∃g a k t,aDz b=.ref g/\IsTup s.heap g a/\a[0]?=some p/\p=aGL k t:=by
   cases e:a.toList with
   |nil=>rw[e]at c;generalize flat d=l at c C;cases c;exact absurd rfl C
   |cons p L=>
    rw[e]at c;generalize flat d=l at c;cases c with
    |cons k t N=>exact⟨_,b,a,k,t,rfl,I,by rw[<-aAC,e];rfl,rfl⟩
  dsimp only;rw[dif_pos z];obtain⟨g,J,k,t,o,r,u,v⟩:=z.choose_spec;exact⟨g,J,k,t,o,r,u,v⟩
 refine TS.kind_tuples (T:= "int") f (λx n=>?_) (λz=>by rw[z]at y;simp at y) (by decide) q;obtain⟨b,a,k,t,o,r,u,v⟩:=m x n;exact⟨b,a,o,r,u,by rw[v];exact typeIs_int s k t⟩
def iJ {K:lr}{H:Hp}{O:bc->Prop}{o b:List af}{ds:List D}{key:af->List Int}(st:u5 K H O o ds)(E:b.Perm o)(I:b.Pairwise λx y=>HT.lexLt (key y) (key x)=false)(J:∀u d,(∃v,RelV v u/\Rep K H O v d)->d∈ds->key u=flat d)(pt:∀d∈ds,N4 d=true)(L:ds.Nodup):
  ∃a,u5 K H O b a/\a.Perm ds/\QC a:=by
 obtain⟨a,k,m⟩:=Y4 E st;refine⟨a,m,k,?_⟩;have n:a.Nodup:=k.nodup_iff.mpr L;have p:∀d∈a,N4 d=true:=λd c=>pt d (k.mem_iff.mp c);have s:∀u d,(∃v,RelV v u/\Rep K H O v d)->d∈a->key u=flat d:=λu d h c=>J u d h (k.mem_iff.mp c);clear E k st L pt J;induction m with
 |nil=>exact .nil
 |@cons u d o ds r t w=>
  have A:=aAx.mp I;have B:=aAF.mp n;refine aAx.mpr ⟨λe f=>?_,w A.2 B.2 (λd c=>p d (.tail _ c)) λu d h c=>s u d h (.tail _ c)⟩;have:∃g∈o,∃v,RelV v g/\Rep K H O v e:=by
   clear w I A B n p s r;induction t with
   |nil=>cases f
   |cons r t w=>
    rcases aAd.mp f with rfl|f
    .exact⟨_,.head _,r⟩
    .obtain⟨g,C,q⟩:=w f;exact⟨g,.tail _ C,q⟩
  obtain⟨g,C,q⟩:=this;have l:=A.1 g C;rw[s g e q (.tail _ f),s u d r (.head _)]at l;cases z:HT.lexLt (flat d) (flat e)with
  |true=>rfl
  |false=>have:=dZ (p _<|.head _) (p _<|.tail _ f) (TS.lex_total _ _ z l);subst this;exact absurd f B.1
def bZ {p Y bu:Pos}{f:Ev->R D}(ha:PB X e f)(hh:X.calm=true)(hu:X.A.units+300<ee)(hg:Gl X "set":=by rfl)(hm:X.mg "set"=none:=by assumption)(yp:Gl X "sorted":=by rfl)(kh:X.mg "sorted"=none:=by assumption)
  (hv:dm "set"=some (.type "set"):=by decide+kernel) (hv2:dm "sorted"=some (.builtin "sorted"):=by decide+kernel)
  (he:a9 [e] X.env=(false,ek e X.env)::a9 [] X.env:=by rfl) (bh:(d3 bu (a9 [] X.env)).any (·.1)=false:=by rfl)
  (ki:a9 [.Call (.Name "set" Y) [e] [] bu] X.env=(false,ek (.Call (.Name "set" Y) [e] [] bu) X.env)::a9 [] X.env:=by rfl) (ug:(d3 pos (a9 [] X.env)).any (·.1)=false:=by rfl):
  PF X (.Call (.Name "sorted" p) [.Call (.Name "set" Y) [e] [] bu] [] pos) (λρ=>(f ρ).bind my):=by
 refine uI λpins s σ H Q I H9 O0 O ρ E q=>?_;dsimp only at q;refine aAR (J8 I yp kh hv2 ?_ (by decide) (by decide));have mh:PA X [.Call (.Name "set" Y) [e] [] bu] _:=G2 (EU (p:=Y) (B:=N4) (U:=S9) (λh=>⟨A6 h,mY h,_,(dD h).2⟩) G8 ha hh hu hg hm hv he bh) Z7 ki;refine aBx (E9 (mh pos pins s σ H (λvs H2=>∃S o es g c N,vs=[.ref S]/\H2=upd N S (.frz o (.own S))/\f ρ=.ok (.lst c)/\(c.all N4=true/\(S9 c).length<=63)/\Same H N/\N S=none/\YN X.w o es/\u5 X.K N O es g/\g.Nodup/\(∀d,d∈g↔d∈c)) I ⟨H9,O0,O,ρ,E,?_⟩)
  λus s1 z=>?_) ki ug
 .cases e1:f ρ with
  |ex z=>rw[e1]at q;exact q
  |bad=>rw[e1]at q;exact q.elim
  |ok d=>
   rw[e1,R.aa0]at q;cases d with
   |lst c=>
    simp only[my]at q;by_cases hc:c.all N4=true/\(S9 c).length<=63
    .exact⟨hc,λS o es g N sm hS so st nd m=>⟨S,o,es,g,c,N,rfl,rfl,rfl,hc,sm,hS,so,st,nd,m⟩⟩
    .rw[kz hc]at q;exact q.elim
   |_=>exact q.elim
 .obtain⟨vs,H2,I2,r1,S,o,es,g,c,N,ev,eH,ef,⟨hp,rf⟩,sm,hS1,so,st,nd,m⟩:=z;subst ev eH;obtain⟨u,rfl,ru⟩:=vals1 r1;cases ru;rw[ef,R.aa0]at q;simp only[my]at q;rw[kd ⟨hp,rf⟩]at q;have pt:∀d∈c,N4 d=true:=aBp.mp hp;have yn:∀d∈g,N4 d=true:=λd L=>pt d ((m d).mp L);have s12:Same N (upd N S<|.frz o (.own S)):=j6 hS1 _;have km:=st.same s12;obtain⟨hc,ea,ep,t,L,hf,hpln,led,asc,ees⟩:=so;have goS:=(I2.hok S _ j3).1;have hS2:SI.IsSet s1.heap S ea ep t:=⟨o,goS,hc.1,L⟩;have ym:(S9 c).Perm g:=by
   letI:DecidableEq D:=λa b=>aDg _
   exact(aCi (IZ<|N9 c) nd).mpr λd=>by rw[G8 pt,m]
  have hsz:ea.size=g.length:=by have:=st.length;rw[<-ees]at this;simpa using this
  have h63':g.length<=63:=by rw[<-ym.length_eq];exact rf
  have wp:=SI.walkL_perm X.w S ea ep;have wpv:((SI.walkL X.w S ea ep).map (·.2)).Perm es:=by rw[<-ees];exact wp.map _
  have r:∀u∈(SI.walkL X.w S ea ep).map (·.2),∃d,d∈g/\N4 d=true/\HV s1.heap u d:=λu hu=>by obtain⟨d,L,v,rv,rp⟩:=km.get (wpv.mem_iff.mp hu);exact⟨d,L,yn d L,N8 I2 rp (A6<|yn d L) rv⟩
  refine TS.sorted_keys (vs:=(SI.walkL X.w S ea ep).map (·.2)) (f:=true) (key:=JU s1.heap) (C:=λs'=>∃h' T,s'={s1 with heap:=h',toks:=T}/\∀b o,s1.heap.get? b=some o->h'.get? b=some o)
   (λ{Q'} hq=>SI.collect_set (by simp[I2.ok.hd hh]) hS2 hf hpln (λnb=>by rw[led];simpa using nb) asc (by rw[hsz];exact aAr h63' (by decide)) λh' T k=>hq _ ⟨h',T,rfl,k⟩)
   (λs' ⟨h',T,J,k⟩ s6 k6 x hx y hy prog w A E hA {Q} qq=>?_) (λh2 s' ⟨h',T,J,k⟩ s6 k6 A {Q} qq=>?_) (by rw[aAj,wp.length_eq,aAZ,hsz];lia) λs' gm h' l ⟨h1,T,J,k⟩ pm srt k2 hl ⟨n,gl⟩=>?_
  .subst J;obtain⟨d,_,pd,ou⟩:=r x hx;obtain⟨d',_,pd',qh⟩:=r y hy;rw[fC pd ou,fC pd' qh]at qq;exact OJ pd pd' (ou.keeps λb o e _=>k6 b o (k b o e)) (qh.keeps λb o e _=>k6 b o (k b o e)) qq
  .subst J;refine AD (λx hx=>?_) h2 qq;obtain⟨d,_,pd,ou⟩:=r x hx;exact⟨d,pd,ou.keeps λb o e _=>k6 b o (k b o e)⟩
  .subst J;obtain⟨ml,za,Y,uh⟩:=iJ (key:=JU s1.heap) km (pm.trans wpv) srt (by rintro u d ⟨v,rv,rp⟩ L;exact fC (yn d L) (N8 I2 rp (A6<|yn d L) rv)) yn nd;have e2:ml=S9 c:=eJ uh (N9 c) λd=>by rw[Y.mem_iff,m,G8 pt]
   subst e2;obtain⟨wv,lh,rr⟩:=za.ac0;have I2':=I2.kept (h':=h1) (t':=T) k;have I3:=I2'.laid (a:=l) (o:=.lst wv) (h':=h') (t':=T) k2 hl ⟨by rw[rr.length];exact aAr rf (by decide),gm,n,lh,gl⟩;exact⟨.ref l,_,I3,rfl,q wv _ l (sm.trans s12) (I2'.hok.fresh hl) rr⟩
end
end DL
namespace SZ
open PySem
abbrev Zs (h:df)(z TI TO:bc)(a b:af):Prop:=h.get? z=some {cls:=.type "zip",dict:=none,data:=.fields #[a,b,.bool false,.ref TI,.ref TO],slots:=#[]}
def yF (b:af):Prop:=b=.none\/∃a:Nat,b=et a
section
def alive {Q:Option Obj->bb->Prop}(h:Q (s.heap.get? c) s):ai (be prog w) A (loadIfAlive c) Q E s:=λΓ p _=>by unfold loadIfAlive;rw[Sem.wp_loadIfAlive];simpa using h
def nC {Q:xC}(hz:Zs s.heap z TI TO b c)(k:yF b)(e:Q true s)(f:∀h' d,Zs h' z TI TO b d->Heap.SameBut z s.heap h'->Q false {s with heap:=h'}):ai (be prog w) A (aBW (.ref z)) Q E s:=by
 unfold aBW;refine aAa (aCR hz rfl (x:=b) rfl ?_);rcases k with rfl|⟨a,rfl⟩
 .exact aAb e
 .show ai _ _ (loadIfAlive (aEJ (a:Int))>>=_) _ _ _;refine aAa (alive ?_);by_cases g:(s.heap.get?<|aEJ (a:Int)).isNone=true
  .rw[kd g];exact aAb e
  .rw[kz g];refine aAa (aCR hz rfl (x:=c) rfl ?_);by_cases h:(c !=aDn true)=true
   .rw[kd h];refine aAa (aCc hz (by simp) λh' l m=>aAb (f h' (.bool true) l m))
   .rw[kz h];exact aAb (f s.heap c hz ⟨rfl,λ_ _=>rfl⟩)
def QG {Q:B4}(D:ZipApart z TI TO r t l1 l2)(hz:Zs s.heap z TI TO f0 f1)(ho:yF f0)(wg:hH s.heap TI (.ref r) (.ref t))(vo:hH s.heap TO a b)(h1:s.heap.IsListIter r l1 k)(h2:s.heap.IsListIter t l2 k)(qf:s.heap.IsList l1 Y)(lb:s.heap.IsList l2 ys)(hx:Y[k]?=some x)(hy:ys[k]?=some y)(hQ:∀h' T f0' I a' b',Zs h' z TI TO f0' I->yF f0'->hH h' TO a' b'->h'.IsListIter r l1 (k+1)->h'.IsListIter t l2 (k+1)->s.heap.objs.size<=T->hH h' T x y->
   (∀c o,c≠z->c≠TO->c≠r->c≠t->s.heap.get? c=some o->h'.get? c=some o)->Q (.ref T) {s with heap:=h'}):
  ai (be prog w) A (Builtin.«zip.__next__» ⟨[.ref z],[]⟩) (λfin s'=>∃v,fin=.done (.ret v)/\Q v s') E s:=by
 show ai _ _ (field (.ref z) 2>>=_) _ _ _;refine aAa (aCR hz rfl (x:=.bool false) rfl ?_);show ai _ _ (field (.ref z) 3>>=_) _ _ _;refine aAa (aCR hz rfl (x:=.ref TI) rfl ?_);refine aAa (aBu wg rfl ?_);show ai _ _ (aBW (.ref z)>>=_) _ _ _;refine aAa (nC hz ho ?_ λB I yo d=>?_)
 .simp only[if_true];refine aAa (aDD ?_);refine aAa (aCR hz rfl (x:=.ref TO) rfl ?_);refine aAa (aCc hz (by simp) λB yo d=>?_);replace yo:Zs B z TI TO .ellipsis f1:=yo;refine aAa ?_;simp only[aEw,aEH,aDb,aEk];refine aAa (aAa<|wpAny_onRaise ?_);show ai _ _ (aBT (.ref r)>>=_) _ _ _;refine aAa (aDp (h1.extBut d.extBut D.i1z) (qf.extBut d.extBut D.l1z) hx λic J l=>aAb ?_);have C:hH ic TO a b:=l.extBut _ _ D.TOi1 (d.extBut _ _ D.TOz vo);refine aAa (aBu C rfl ?_);refine aAa (wpAny_updateSeq_pair C λaA n m=>?_);replace n:hH aA TO x b:=n;refine aAa (aCS<|aAb ?_);refine aAa (aAa<|wpAny_onRaise ?_);show ai _ _ (aBT (.ref t)>>=_) _ _ _;refine aAa (aDp (((h2.extBut d.extBut D.i2z).extBut l.extBut D.i12.symm).extBut m.extBut D.TOi2.symm)
   (((lb.extBut d.extBut D.l2z).extBut l.extBut D.l2i1).extBut m.extBut D.l2TO) hy λL N p=>aAb ?_)
  have f:hH L TO x b:=p.extBut _ _ D.TOi2 n;refine aAa (aBu f rfl ?_);refine aAa (wpAny_updateSeq_pair f λg h q=>?_);replace h:hH g TO x y:=h;refine aAa (aCS<|aAb<|aAb ?_);refine aAa (aBu h rfl ?_);refine aAa (aGf ?_);have O:g.objs.size=s.heap.objs.size:=by rw[q.1,p.1,m.1,l.1,d.1]
  have hz3:Zs g z TI TO .ellipsis f1:=q.extBut _ _ D.TOz.symm (p.extBut _ _ D.i2z.symm<|m.extBut _ _ D.TOz.symm<|l.extBut _ _ D.i1z.symm yo);have hk3:∀c o,c≠z->c≠TO->c≠r->c≠t->s.heap.get? c=some o->g.get? c=some o:=λc o u c2 c3 c4 e=>q.extBut _ _ c2 (p.extBut _ _ c4<|m.extBut _ _ c2<|l.extBut _ _ c3<|d.extBut _ _ u e)
  have h11:g.IsListIter r l1 (k+1):=((J.extBut m.extBut D.TOi1.symm).extBut p.extBut D.i12).extBut q.extBut D.TOi1.symm;have h21:g.IsListIter t l2 (k+1):=N.extBut q.extBut D.TOi2.symm;have H:z<g.objs.size:=aAf hz3;show ai _ _ (aDM (.ref z) (.ref g.objs.size)>>=_) _ _ _;refine aAa ?_;unfold aDM;have hz5:Zs (g.push {cls:=.type "tuple",data:=.seq #[x,y]}) z TI TO .ellipsis f1:=aAc _ hz3;refine aAa (aCc hz5 (by simp) λaC U hs8=>?_);replace U:Zs aC z TI TO (et g.objs.size) f1:=U;refine aCc U (by simp) λaB hz2 hs9=>?_;replace hz2:Zs aB z TI TO (et g.objs.size) (.bool false):=hz2;have up:∀c o,c≠z->g.get? c=some o->aB.get? c=some o:=λc o u e=>hs9.extBut _ _ u (hs8.extBut _ _ u<|aAc _ e);have hT0:hH aB g.objs.size x y:=hs9.extBut _ _ (aCC H) (hs8.extBut _ _ (aCC H)<|aAq _ rfl);refine aAb ⟨_,rfl,?_⟩;exact hQ aB g.objs.size _ _ x y hz2 (.inr ⟨_,rfl⟩) (up _ _ D.TOz h) (h11.at λo e=>up _ o D.i1z e) (h21.at λo e=>up _ o D.i2z e) (aEq O.symm) hT0 λc o u c2 c3 c4 e=>up c o u (hk3 c o u c2 c3 c4 e)
 .simp only[aAt,if_false];refine aAa ?_;show ai _ _ (forIn (#[.ref r,.ref t]:Array af) _ _) _ _ _;rw[<-aCw];simp only[aDb,aEk];refine aAa (aAa<|aAK ?_);show ai _ _ (aBT (.ref r)>>=_) _ _ _;refine aAa (aDp (h1.extBut d.extBut D.i1z) (qf.extBut d.extBut D.l1z) hx λic J l=>aAb ?_);refine aAb ?_;refine aAa (aAa<|aAK ?_);show ai _ _ (aBT (.ref t)>>=_) _ _ _;refine aAa (aDp ((h2.extBut d.extBut D.i2z).extBut l.extBut D.i12.symm) ((lb.extBut d.extBut D.l2z).extBut l.extBut D.l2i1) hy λL N p=>aAb ?_);refine aAb (aAb ?_);have O:L.objs.size=s.heap.objs.size:=by rw[p.1,l.1,d.1]
  have hz6:Zs L z TI TO f0 I:=p.extBut _ _ D.i2z.symm (l.extBut _ _ D.i1z.symm yo);have f:hH L TO a b:=p.extBut _ _ D.TOi2 (l.extBut _ _ D.TOi1<|d.extBut _ _ D.TOz vo);have h12:L.IsListIter r l1 (k+1):=J.extBut p.extBut D.i12;show ai _ _ (newTuple [x,y]>>=_) _ _ _;refine aAa (aGf ?_);refine aAb ⟨_,rfl,?_⟩;exact hQ _ L.objs.size _ _ a b (aAc _ hz6) ho (aAc _ f) (h12.at λo e=>aAc _ e) (N.at λo e=>aAc _ e) (aEq O.symm) (aAq _ rfl)
   λc o u c2 c3 c4 e=>aAc _ (p.extBut _ _ c4<|l.extBut _ _ c3<|d.extBut _ _ u e)
def VB {Q:Fin->bb->Prop}(C:A.handled=none)(D:ZipApart z TI TO h p H I)(hz:Zs s.heap z TI TO T J)(U:yF T)(wg:hH s.heap TI (.ref h) (.ref p))(vo:hH s.heap TO a b)
  (L:s.heap.IsListIter h H k) (h2:s.heap.IsListIter p I k) (N:s.heap.IsList H Y) (lb:s.heap.IsList I ys) (O:Y[k]?=none)
  (hE:∀h' e,(∀c o,c≠z->c≠TO->c≠h->c≠p->s.heap.get? c=some o->h'.get? c=some o)->(∃o,h'.get? e=some o/\o.cls=.type "StopIteration")->E (.ref e) {s with heap:=h'}):
  ai (be prog w) A (Builtin.«zip.__next__» ⟨[.ref z],[]⟩) Q E s:=by
 show ai _ _ (field (.ref z) 2>>=_) _ _ _;refine aAa (aCR hz rfl (x:=.bool false) rfl ?_);show ai _ _ (field (.ref z) 3>>=_) _ _ _;refine aAa (aCR hz rfl (x:=.ref TI) rfl ?_);refine aAa (aBu wg rfl ?_);show ai _ _ (aBW (.ref z)>>=_) _ _ _;refine aAa (nC hz U ?_ λd f1' q f=>?_)
 .simp only[if_true];refine aAa (aDD ?_);refine aAa (aCR hz rfl (x:=.ref TO) rfl ?_);refine aAa (aCc hz (by simp) λd q f=>?_);replace q:Zs d z TI TO .ellipsis J:=q;refine aAa ?_;simp only[aEw,aEH,aDb,aEk];refine aAa (aAa<|wpAny_onRaise ?_);show ai _ _ (aBT (.ref h)>>=_) _ _ _;refine aAa (wpAny_nextOf_list_end C (L.extBut f.extBut D.i1z) (N.extBut f.extBut D.l1z) O λu e r v=>?_);obtain⟨oe,g,l⟩:=v;have m:Zs u z TI TO .ellipsis J:=r _ _ D.i1z.symm q;have y:e≠z:=λx=>by subst x;rw[m]at g;cases g;simp at l
  exact aCc m (by simp) λaA _ n=>hE aA e (λc o t _ B _ x=>n.extBut _ _ t (r _ _ B<|f.extBut _ _ t x)) ⟨oe,n.extBut _ _ y g,l⟩
 .simp only[aAt,if_false];refine aAa ?_;show ai _ _ (forIn (#[.ref h,.ref p]:Array af) _ _) _ _ _;rw[<-aCw];simp only[aDb,aEk];refine aAa (aAa<|aAK ?_);show ai _ _ (aBT (.ref h)>>=_) _ _ _;exact aAa (wpAny_nextOf_list_end C (L.extBut f.extBut D.i1z) (N.extBut f.extBut D.l1z) O λu e r v=>hE u e (λc o t _ B _ x=>r _ _ B (f.extBut _ _ t x)) v)
end
def KR (z TI TO c d e f:bc)(Y k:Array af)(i:Nat)(h:df):Prop:=
 (∃g l,Zs h z TI TO g l/\yF g)/\hH h TI (.ref c) (.ref d)/\(∃a b,hH h TO a b)/\h.IsListIter c e i/\h.IsListIter d f i/\h.IsList e Y/\h.IsList f k
section
variable{s:bb}
def KR.type (h:KR z TI TO b c d e Y f i s.heap):s.TypeIs (.ref z) "zip":=by obtain⟨⟨g,k,a,_⟩,_⟩:=h;exact⟨_,a,rfl⟩
def KR.keeps (x:KR z TI TO c d f g Y l i h)(k:∀b o,b∈[z,TI,TO,c,d,f,g]->h.get? b=some o->h'.get? b=some o):KR z TI TO c d f g Y l i h':=by obtain⟨⟨m,n,p,q⟩,r,⟨a,b,t⟩,u,v,w,y⟩:=x;exact⟨⟨m,n,k z _ (by simp) p,q⟩,k TI _ (by simp) r,⟨a,b,k TO _ (by simp) t⟩,u.at λo e=>k c o (by simp) e,v.at λo e=>k d o (by simp) e,w.at λo e=>k f o (by simp) e,y.at λo e=>k g o (by simp) e⟩
def QQ {Q:Option af->bb->Prop}(D:ZipApart z TI TO h k n p)(hl:Y.size=d.size)(st:KR z TI TO h k n p Y d i s.heap)(C:i<Y.size)(H:∀h' T x y,Y[i]?=some x->d[i]?=some y->KR z TI TO h k n p Y d (i+1) h'->s.heap.objs.size<=T->hH h' T x y->(∀c o,c∉[z,TO,h,k]->s.heap.get? c=some o->h'.get? c=some o)->Q (some (.ref T)) {s with heap:=h'}):
  ai (be prog w) A (fT (.ref z)) Q E s:=by
 have q:=st.type;obtain⟨⟨f0,f1,I,J⟩,r,⟨a,b,L⟩,N,O,t,u⟩:=st;have v:Y[i]?=some Y[i]:=aAA C;have B:d[i]?=some (d[i]'(by lia)):=aAA (by lia);unfold fT;refine aAa (aEa (aCa (name:=aCD "__next__") q aEd
  (aBn aEd q F.entry_zip_next (QG D I J r L N O t u v B λh' T l m U b' e1 e2 e3 e4 e5 e6 e7 g=>aAb ?_)<|F.args_zip_next_1 _)))
 refine H h' T _ _ v B ⟨⟨l,m,e1,e2⟩,g _ _ D.TIz D.TITO D.TIi1 D.TIi2 r,⟨U,b',e3⟩,e4,e5,t.at λo e=>g _ o D.l1z D.l1TO D.l1i1 D.l1i2 e,u.at λo e=>g _ o D.l2z D.l2TO D.l2i1 D.l2i2 e⟩ e6 e7 λc o f e=>?_;simp only[aAd,aAE,or_false,not_or]at f;exact g c o f.1 f.2.1 f.2.2.1 f.2.2.2 e
def PN {Q:Option af->bb->Prop}(k:A.handled=none)(D:ZipApart z TI TO f g l m)(st:KR z TI TO f g l m Y I Y.size s.heap)
  (n:∀h',(∀c o,c∉[z,TO,f,g]->s.heap.get? c=some o->h'.get? c=some o)->Q none {s with heap:=h'}):ai (be prog w) A (fT (.ref z)) Q E s:=by
 have h:=st.type;obtain⟨⟨J,L,p,q⟩,r,⟨a,b,t⟩,u,v,x,y⟩:=st;unfold fT;refine aAa (aEa (aCa (name:=aCD "__next__") h aEd
  (aBn aEd h F.entry_zip_next (VB (by simpa using k) D p q r t u v x y (aBM<|aAh _) λh' e B C=>?_)<|F.args_zip_next_1 _)))
 obtain⟨o,H,d⟩:=C;refine aAa (aDk (T:= "StopIteration") (b:=true) ⟨o,H,d⟩ aGk ?_);refine aAb (n _ λc o d e=>?_);simp only[aAd,aAE,or_false,not_or]at d;exact B c o d.1 d.2.1 d.2.2.1 d.2.2.2 e
def Pairs (h0:df)(Y a B:Array af)(i:Nat)(h:df)(off:List bc):Prop:=B.size=i/\∀(j:Nat) (v:af),B[j]?=some v->∃T x y,v=.ref T/\Y[j]?=some x/\a[j]?=some y/\hH h T x y/\T∉off/\h0.get? T=none
def QV (hh:A.handled=none)(D:ZipApart z TI TO g l O Q)(hl:Y.size=U.size)(hn:Y.size<=sizeLine)(S:bc)(jv:S∉[z,TI,TO,g,l,O,Q])(res:af)(h0:df):
  ∀(k i:Nat) (s:bb) (B:Array af) (c:Nat),Y.size-i=k->i<=Y.size->(∀b o,b∉[z,TO,g,l,S]->h0.get? b=some o->s.heap.get? b=some o)->KR z TI TO g l O Q Y U i s.heap->s.heap.get? S=some {cls:=.type "list",dict:=none,data:=.seq B c,slots:=#[]}->Pairs h0 Y U B i s.heap [z,TO,g,l,S]->
  (∀h' L c',(∀b o,b∉[z,TO,g,l,S]->s.heap.get? b=some o->h'.get? b=some o)->h'.get? S=some {cls:=.type "list",dict:=none,data:=.seq L c',slots:=#[]}->Pairs h0 Y U L Y.size h' [z,TO,g,l,S]->R (.ok (.ret res)) {s with heap:=h'})->
  gh (be prog w) A (.builtin "list.extend.loop" ⟨[.ref S,.ref z,res],[]⟩) R s:=by
 have C:S∉[z,TO,g,l]:=λh=>jv (by simp only[aAd,aAE,or_false]at h⊢;rcases h with h|h|h|h<;>simp[h]);have m:∀b,b∉[z,TO,g,l,S]->b∉[z,TO,g,l]:=λb h q=>h (by simp only[aAd,aAE,or_false]at q⊢;rcases q with q|q|q|q<;>simp[q]);intro k;induction k with
 |zero=>
  intro i s B c hk hi p N E n hR;have me:i=Y.size:=by lia
  subst me;refine aBl F.entry_extend_loop ?_;rw[aAL aDh _];show ai _ A.in1 (fT (.ref z)>>=_) _ _ s;refine aAa (PN (by simpa using hh) D N λh' kp=>?_);refine aAb (hR h' B c (λb o d e=>kp b o (m b d) e) (kp S _ C E) ⟨n.1,λj v t=>?_⟩);obtain⟨T,x,y,e1,e2,e3,e4,u,e6⟩:=n.2 j v t;exact⟨T,x,y,e1,e2,e3,kp T _ (m T u) e4,u,e6⟩
 |succ k ih=>
  intro i s B c hk hi p N E n hR;have ar:i<Y.size:=by lia
  refine aBl F.entry_extend_loop ?_;rw[aAL aDh _];show ai _ A.in1 (fT (.ref z)>>=_) _ _ s;refine aAa (QQ D hl N ar λh' T x y hx hy ig hT hP kp=>?_);have gu:=kp S _ C E;have f:∀b o,s.heap.get? b=some o->T≠b:=λb o e q=>absurd (aAu (aAf e) hT) (by rw[q];exact aBc _);obtain⟨⟨f0,f1,hz,_⟩,_,⟨a,b,vo⟩,⟨o1,g1,_⟩,⟨o2,g2,_⟩,_⟩:=id N;have H:T∉[z,TO,g,l,S]:=by simp only[aAd,aAE,or_false,not_or];exact⟨f _ _ hz,f _ _ vo,f _ _ g1,f _ _ g2,f _ _ E⟩
  show ai _ A.in1 (gW S (·.push (.ref T))>>=_) _ _ _;refine aAa ?_;have I:∀b o,b≠S->h'.get? b=some o->(h'.update S (aBG (·.push (.ref T)))).get? b=some o:=λb o d e=>(aAw _ _<|aCk d).trans e;have neS:∀b,b∈[z,TI,TO,g,l,O,Q]->b≠S:=λb d q=>jv (q▸d);refine aBD gu rfl (aAb ⟨aBs aDh _,ih (i+1) _ (B.push<|.ref T) _ (by lia) ar (λb o d e=>I b o (λq=>d (by simp[q])) (kp b o (m b d)<|p b o d e)) (ig.keeps λb o d e=>I b o (neS b d) e) (aAT _ gu rfl) ⟨by rw[Array.size_push,n.1],λj v t=>?_⟩ λh'' L c' kp' xn r=>?_⟩)
   (by rw[n.1];lia) (by show(B.push<|.ref T).size<=sizeLine+1;rw[Array.size_push,n.1];lia)
  .rw[Array.getElem?_push]at t;split at t
   .rename_i q;cases t;rw[n.1]at q;subst q;refine⟨T,x,y,rfl,hx,hy,I T _ (f _ _ E) hP,H,?_⟩;cases q0:h0.get? T with
    |none=>rfl
    |some o=>exact absurd rfl (f T o<|p T o H q0)
   .obtain⟨J,x',y',e1,e2,e3,e4,u,e6⟩:=n.2 j v t;have n5:J≠S:=λq=>u (by simp[q]);exact⟨J,x',y',e1,e2,e3,I J _ n5 (kp J _ (m J u) e4),u,e6⟩
  .refine hR h'' L c' (λb o d e=>kp' b o d (I b o (λq=>d (by simp[q]))<|kp b o (m b d) e)) xn r
end
section
def cS {Q:B4}(St:df->Prop)(Y:∀d:bb,St d.heap->d.TypeIs (.ref I) T)(J:∀h h',St h->(∀b o,b≠s.heap.objs.size->h.get? b=some o->h'.get? b=some o)->St h')(v:I≠s.heap.objs.size)
  (n1:(aCv T==aCv "list")=false) (n2:(aCv T==aCv "tuple")=false) (n3:∀{M:Model} {A:cv} {E:B4} {s:bb} {Q:Fin->bb->Prop} {a b:Sem Fin},(room=true->ai M A a Q E s)->(room=false->ai M A b Q E s)->ai M A (if(room||["set", "frozenset", "dict", "dict_keys", "dict_values", "dict_items"].any (aCv T==aCv ·))=true then a else b) Q E s)
  (l:∀(d:bb) (Q:B4) (E:B4),St d.heap->Q (.ref I) d->ai (be prog w) A.in1.in1 (pyIter (.ref I)) Q E d)
  (hint:∀(d:bb) (Q:xC) (E:B4),St d.heap->Q room d->ai (be prog w) A.in1.in1 (aCH (.ref I)) Q E d) (ie:St s.heap)
  (f:∀(t:df) (c:Nat) (R:Result->bb->Prop),(∀b o,s.heap.get? b=some o->t.get? b=some o)->St t->t.get? s.heap.objs.size=some {cls:=.type "list",dict:=none,data:=.seq #[] c,slots:=#[]}->(∀s',Q (.ref s.heap.objs.size) s'->R (.ok (.ret .none)) s')->
   gh (be prog w) A.in1 (.builtin "list.extend.loop" ⟨[.ref s.heap.objs.size,.ref I,.none],[]⟩) R {s with heap:=t}):
  ai (be prog w) A (call (.type "list") [.ref I]) Q E s:=by
 refine callType_codes (Q₁:=λm L=>m=.ref s.heap.objs.size/\L={s with heap:=s.heap.push {cls:=.type "list",data:=.seq #[]}}) F.called_list (F.typeCall_list_1 _) F.entry_list_init
  (code_list_new _ ⟨rfl,rfl⟩) λm L n=>?_
 obtain⟨rfl,rfl⟩:=n;have u:(s.heap.push {cls:=.type "list",data:=.seq #[]}).get? s.heap.objs.size=some {cls:=.type "list",data:=.seq #[]}:=aAq _ rfl;have N:∀b o,s.heap.get? b=some o->b≠s.heap.objs.size:=λb o e=>aAm (aAf e);refine⟨⟨_,u,rfl⟩,F.args_list_init_2 _ _,?_⟩;show ai _ A.in1.in1 (do let x<-aCL (.ref s.heap.objs.size);Builtin.List.listUpdate (.ref s.heap.objs.size) (λ_=>#[]);letGo x.toList.reverse;aCd (.ref s.heap.objs.size) (.ref I) .none) _ _ _;refine aAa ?_;unfold aCL;refine aAa (aBu u rfl<|aAb ?_);show ai _ A.in1.in1 (gW s.heap.objs.size (λ_=>#[])>>=λ_=>letGo (#[]:Array af).toList.reverse>>=λ_=>aCd (.ref s.heap.objs.size) (.ref I) .none) _ _ _;refine aAa (aBD u rfl ?_);have k:=aAT (aBG<|λ_=>(#[]:Array af)) u rfl;refine aAa (aCS ?_);generalize y:(s.heap.push {cls:=.type "list",data:=.seq #[]}).update s.heap.objs.size (aBG<|λ_=>(#[]:Array af))=g at*
 have z:∀b o,s.heap.get? b=some o->g.get? b=some o:=λb o e=>by rw[<-y];exact(aAw _ _<|aCk<|N b o e).trans (aAc _ e)
 have p:St g:=J s.heap g ie λb o _ e=>z b o e;have B:aDc (.ref s.heap.objs.size) (.ref I)=false:=by simp[aDc,aCk v]
 have C:Shared.TypeIs {s with heap:=g} (.ref I) T:=Y {s with heap:=g} p;unfold aCd;refine aAa (aDU C ?_);simp only[B,n1,n2,Bool.or_false,aAt,if_false];refine aAa (l _ _ _ p ?_);refine aAa (aAK<|hint _ _ _ p ?_);refine n3 (λ_=>?_) (λ_=>?_)
 .show ai _ A.in1.in1 (rule "list.extend.makes-room">>=λ_=>aFK (.ref s.heap.objs.size)>>=λ_=>again (.builtin "list.extend.loop" ⟨[.ref s.heap.objs.size,.ref I,.none],[]⟩)) _ _ _;refine aAa (aDD ?_);refine aAa ?_;show ai _ A.in1.in1 (gW s.heap.objs.size (·.push .none)>>=λ_=>gW s.heap.objs.size (·.pop)) _ _ _;refine aAa (aBD k rfl ?_);have r:=aAT (aBG (·.push Value.none)) k rfl;refine aBD (hz:=by seq_fits) r rfl ?_;have H:=aAT (aBG (·.pop)) r rfl;have O:∀b o,b≠s.heap.objs.size->g.get? b=some o->((g.update s.heap.objs.size (aBG (·.push Value.none))).update s.heap.objs.size (aBG (·.pop))).get? b=some o:=
   λb o U e=>(aAw _ _<|aCk U).trans ((aAw _ _<|aCk U).trans e)
  exact aAb ⟨aBs aDh _,f _ _ _ (λb o e=>O b o (N b o e) (z b o e)) (J g _ p O) H λs' q=>⟨rfl,q⟩⟩
 .exact aAb ⟨aBs aDh _,f _ _ _ z p k λs' q=>⟨rfl,q⟩⟩
def JV:typeLookup (.type "zip") "__len__"=pure none:=by rw[aDB,aCr];kernel_rfl
def BN:typeLookup (.type "zip") "__length_hint__"=pure none:=by rw[aDB,aCr];kernel_rfl
def NW {Q:B4}(y:A.handled=none)(D:ZipApart z TI TO f g l m)(C:Y.size=n.size)(H:Y.size<=sizeLine)(st:KR z TI TO f g l m Y n 0 s.heap)(I:∀h' B c,(∀b o,b∉[z,TO,f,g]->s.heap.get? b=some o->h'.get? b=some o)->h'.get? s.heap.objs.size=some {cls:=.type "list",dict:=none,data:=.seq B c,slots:=#[]}->Pairs s.heap Y n B Y.size h' [z,TO,f,g,s.heap.objs.size]->Q (.ref s.heap.objs.size) {s with heap:=h'}):
  ai (be prog w) A (call (.type "list") [.ref z]) Q E s:=by
 have lt:∀b∈[z,TI,TO,f,g,l,m],b≠s.heap.objs.size:=λb d=>by
  obtain⟨⟨J,L,r,_⟩,N,⟨a,b',O⟩,⟨o1,U,_⟩,⟨o2,g2,_⟩,⟨o3,g3,_⟩,⟨o4,g4,_⟩⟩:=st;simp only[aAd,aAE,or_false]at d;rcases d with rfl|rfl|rfl|rfl|rfl|rfl|rfl
  .exact aAm (aAf r)
  .exact aAm (aAf N)
  .exact aAm (aAf O)
  .exact aAm (aAf U)
  .exact aAm (aAf g2)
  .exact aAm (aAf g3)
  .exact aAm (aAf g4)
 refine cS (T:= "zip") (room:=true) (KR z TI TO f g l m Y n 0) (λp h=>h.type) (λh h' x k=>x.keeps λb o d e=>k b o (lt b d) e) (lt z (by simp)) (by decide) (by decide) (λt h2=>by rw[kd (by decide)];exact t rfl)
  (λp Q E x q=>?_) (λp Q E x q=>?_) st λt c R u nB hS hR=>?_
 .obtain⟨⟨J,L,r,_⟩,_⟩:=id x;refine aEi x.type F.slot_zip_iter (aBn F.slot_zip_iter x.type F.entry_zip_iter ?_ (F.args_zip_iter_1 _));show ai _ _ (ret<|.ref z) _ _ p;exact aAb ⟨_,rfl, "zip",_,x.type,aEd.lookup,q⟩
 .unfold aCH;refine aAa (aBC x.type JV ?_);show ai _ _ (specialOf (aDz z) (aCD "__length_hint__")>>=_) _ _ _;exact aAa (aBC x.type BN<|aAb q)
 .refine QV (by simpa using y) D C H s.heap.objs.size (λh=>lt _ h rfl) .none s.heap Y.size 0 _ #[] c (by lia) (aBb _) (λb o _ e=>u b o e) nB hS ⟨rfl,λj v h=>by simp at h⟩ λh' jb c' kp gu hP=>hR _ (I h' jb c' (λb o d e=>kp b o ?_ (u b o e)) gu hP);have:=aAm (aAf e);simp only[aAd,aAE,or_false,not_or]at d⊢;exact⟨d.1,d.2.1,d.2.2.1,d.2.2.2,this⟩
def JD:typeLookup (.type "list_reverseiterator") "__len__"=pure none:=by rw[aDB,aCr];kernel_rfl
def NJ:typeLookup (.type "list_reverseiterator") "__length_hint__"=pure (some (.builtin "list_reverseiterator.__length_hint__")):=by rw[aDB,aCr];kernel_rfl
def LK {Q:B4}(H:A.handled=none)(I:l≠r)(J:Y.size<=sizeLine)(t:s.heap.IsRevIter r l ((Y.size:Int)-1))(u:s.heap.IsList l Y)(L:∀h' tk c,(∀b o,b≠r->s.heap.get? b=some o->h'.get? b=some o)->h'.get? s.heap.objs.size=some {cls:=.type "list",dict:=none,data:=.seq Y.reverse c,slots:=#[]}->Q (.ref s.heap.objs.size) {s with heap:=h',toks:=tk}):
  ai (be prog w) A (call (.type "list") [.ref r]) Q E s:=by
 have m:r≠s.heap.objs.size:=by obtain⟨o,g,_⟩:=t;exact aAm (aAf g)
 have v:l≠s.heap.objs.size:=by obtain⟨o,g,_⟩:=u;exact aAm (aAf g)
 refine cS (T:= "list_reverseiterator") (room:=false) (λh=>h.IsRevIter r l ((Y.size:Int)-1)/\h.IsList l Y) (λy h=>h.1.typeIs) (λh h' x k=>⟨x.1.at λo e=>k r o m e,x.2.at λo e=>k l o v e⟩) m (by decide) (by decide)
  (λN O=>by rw[kz (by decide)];exact O rfl) (λy Q E x q=>wpAny_pyIter_revIter x.1 q) (λy Q E x q=>?_) ⟨t,u⟩ λN c R U nB hS hR=>?_
 .have n:=x.1.typeIs;unfold aCH;refine aAa (aBC n JD ?_);show ai _ _ (specialOf (aDz r) (aCD "__length_hint__")>>=_) _ _ _;refine aAa (aBC n NJ ?_)
  (generalize hid:("list_reverseiterator.__length_hint__":String)=a;(fail_if_success (clear hid a));wp_delta;rw[show splitId a=some ("list_reverseiterator", "__length_hint__")from by subst hid;decide+kernel];subst hid)
  refine aAa (aDk (b:=true) n (by rw[aFf];kernel_rfl) ?_);exact aAb q
 .have W:=(Walks.listRev (prog:=prog) (w:=w) (A:=A.in1.in1) (by simp[H]) r l I Y).toS;refine codeAny_extend_loopS W J s.heap.objs.size (by simp only[aAd,aAE,or_false,not_or];exact⟨aCk m,aCk v⟩) .none Y.size 0 _ #[] c (by lia) (aBb _) ⟨aBb _,by simpa using nB.1,nB.2⟩ hS (ItemsOf.nil _) λd z c' f gu p=>hR _ ?_;have ea:z=Y.reverse:=by
   apply Array.ext';apply aDC;intro i;rw[aAC,aAC];by_cases B:i<Y.size
   .have C:i<z.size:=by rw[p.1];exact B
    have:=p.2 i _ (aAA C);rw[aAA C,Array.getElem?_reverse B,this]
   .rw[aBM (by rw[p.1];lia),aBM (by simp;lia)]
  subst ea;have g0:d.gens=s.gens:=f.gens;have d0:d.drawn=s.drawn:=f.drawn;have o0:d.os=s.os:=f.os;obtain⟨h',g',d',yi,os'⟩:=d;subst g0 d0 o0;refine L h' yi c' (λb o hb e=>?_) gu;exact f.heap b o (by simp only[aAd,aAE,or_false,not_or];exact⟨aAm (aAf e),hb⟩) (U b o e)
end
end SZ
namespace DL
open PySem PySem.Spec L2
open PyProof.Rows hiding St
section
variable [Tabs]
section
def yy:D->R (List D)
 |.lst Y=>.ok Y.reverse
 |_=>.bad
def DZ (ha:PB X e f)(hh:X.calm=true)(hg:Gl X "reversed":=by rfl)(hm:X.mg "reversed"=none:=by assumption)(yp:Gl X "list":=by rfl)(kh:X.mg "list"=none:=by assumption)(hv:dm "reversed"=some (.type "reversed"):=by decide+kernel)(J:dm "list"=some (.type "list"):=by decide+kernel)(he:a9 [e] X.env=(false,ek e X.env)::a9 [] X.env:=by rfl)(bh:(d3 m (a9 [] X.env)).any (·.1)=false:=by rfl)(ki:a9 [.Call (.Name "reversed" L) [e] [] m] X.env=(false,ek (.Call (.Name "reversed" L) [e] [] m) X.env)::a9 [] X.env:=by rfl)(ug:(d3 k (a9 [] X.env)).any (·.1)=false:=by rfl)(N:d3 k (a9 [] X.env)=[]:=by rfl):
  PF X (.Call (.Name "list" p) [.Call (.Name "reversed" L) [e] [] m] [] k) (λρ=>(f ρ).bind yy):=by
 refine uI λn s σ H Q I H9 O0 O ρ E q=>?_;dsimp only at q;refine aAR (J8 I yp kh J ?_ (by decide) (by decide));refine aBk ?_ ki ug;rw[ki];show ai _ _ (spliced ((false,ek (.Call (.Name "reversed" L) [e] [] m) X.env)::d3 k (a9 [] X.env))) _ _ s;refine aEZ (aAR (J8 I hg hm hv ?_ (by decide) (by decide)));have mh:PA X [e] _:=G2 ha Z7 he;refine aBk (E9 (mh m n s σ H (λl w=>∃v x,l=[v]/\f ρ=.ok (.lst x)/\Same H w/\B5 X.K w O v (.lst x)) I ⟨H9,O0,O,ρ,E,?_⟩) λC h z9=>?_) he bh
 .cases T:f ρ with
  |ex z=>rw[T]at q;exact q
  |bad=>rw[T]at q;exact q.elim
  |ok d=>
   rw[T,R.aa0]at q;cases d with
   |lst x=>exactλv w h U=>⟨v,x,rfl,rfl,h,U⟩
   |_=>exact aAi q
 .obtain⟨l,w,y,U,v,x,ev,ef,sm,rb⟩:=z9;subst ev;rw[ef,R.aa0]at q;obtain⟨a,Y,rfl,hS,rr⟩:=rb.aa5;obtain⟨u,rfl,ru⟩:=vals1 U;cases ru;obtain⟨g,rv,⟨oL,nL,gL,cL,dL,sL⟩,zL⟩:=y.list hS;have hl:h.heap.IsList a g.toArray:=⟨oL,gL,cL,nL,sL⟩;refine call_reversed_list hl ?_;rw[N];refine aFm ?_;have ge:a≠h.heap.objs.size:=aAm (aAf gL);have I2:=y.kept (h':=h.heap.push (revObj a<|(g.toArray.size:Int)-1)) (t':=h.toks) λb u e=>aAc _ e;refine SZ.LK (s:={h with heap:=h.heap.push (revObj a<|(g.toArray.size:Int)-1)}) (y.ok.hd hh) ge (by rw[aAp,<-rv.length];exact zL) ⟨_,aAq _ rfl,rfl,rfl⟩ (hl.push _) λh' tk c kp gl=>?_;have kk:∀b u,h.heap.get? b=some u->h'.get? b=some u:=λb u e=>kp b u (aAm<|aAf e) (aAc _ e);have A:h.heap.objs.size<=(h.heap.push<|revObj a<|(g.toArray.size:Int)-1).objs.size:=by rw[aBt];lia
  have B:l7 Y.reverse g.reverse:=by
   have:∀{l:List V} {C:List af},l7 l C->l7 l.reverse C.reverse:=λ{l C} r=>by
    induction r with
    |nil=>exact .nil
    |cons r t ih=>rw[aAM,aAM];exact ih.append (.cons r .nil)
   exact this rv
  have I3:=y.laid (a:=(h.heap.push<|revObj a<|(g.toArray.size:Int)-1).objs.size) (o:=.lst Y.reverse) (h':=h') (t':=tk) kk A ⟨by rw[aCI];exact zL,g.reverse,c,B,by rw[gl];simp⟩;exact⟨.ref _,_,I3,rfl,q Y.reverse w _ sm (y.hok.fresh A) rr.reverse⟩
def _root_.L2.Inv.ae3 (I:Inv X d σ H s)(k:∀b u,s.heap.get? b=some u->h'.get? b=some u)(a:Same H Hn)(f:∀b u,H b=none->Hn b=some u->s.heap.get? b=none/\ObjOk X.prog X.w Hn h' b u):
  Inv X d σ Hn {s with heap:=h',toks:=t'}:=by
 refine I.un ⟨λb o e _ _ _=>k b o e,λb o e _ _ _=>⟨o.slots,k b o e⟩,λb o e n _=>?_,λb o e _=>⟨o,k b o e⟩,λb Y e=>a _ _ e,λb o u e=>a _ _ e,λb h e=>a _ _ e⟩ λb u e=>?_
 .cases q:Hn b with
  |none=>rfl
  |some u=>rw[(f b u n q).1]at e;cases e
 .cases q:H b with
  |none=>exact(f b u q e).2
  |some g=>have:=a b g q;rw[e]at this;cases this;exact(I.hok b u q).ab7 (λc v _ z=>k c v z) (λc z=>a _ _ z) λc u _ z=>a _ _ z
def kF (Y c:List D):List D:=List.zipWith (λa b=>D.tup [a,b]) Y c
def TU:List D->R (List D)
 |[.lst Y,.lst a]=>if Y.length=a.length then .ok (kF Y a)else .bad
 |_=>.bad
def IS {K:lr}{h:Hp}{O:bc->Prop}{h0 h':df}{l:bc}(hf:∀b,h0.get? b=none->h b=none):∀{Y f:List D} {m p B:List af},u5 K h O m Y->u5 K h O p f->Y.length=f.length->
  (∀(j:Nat) (v:af),B[j]?=some v->∃T x y,v=.ref T/\m[j]?=some x/\p[j]?=some y/\hH h' T x y/\T≠l/\h0.get? T=none)->B.length=Y.length->
  ∃(vs:List V) (Hn:Hp),l7 vs B/\Same h Hn/\(∀b u,h b=none->Hn b=some u->h0.get? b=none/\b≠l/\∃ws its,u=.tup ws/\ws.length<=2/\l7 ws its/\IsTup h' b its.toArray)/\Reps K Hn O vs (kF Y f):=by
 intro Y f m p B;induction B generalizing Y f m p with
 |nil=>
  intro s t z _ A;cases Y with
  |nil=>cases f with
   |nil=>exact⟨[],h,.nil,Same.refl _,λb u n q=>(by rw[n]at q;cases q),.nil⟩
   |cons _ _=>cases z
  |cons _ _=>cases A
 |cons v B ih=>
  intro s t z hP A;cases s with
  |nil=>cases A
  |@cons u d m Y rx s=>
   cases t with
   |nil=>cases z
   |@cons J d' p f ry t=>
    obtain⟨T,x,y,rfl,ex,ey,hp,nl,r⟩:=hP 0 v rfl;cases ex;cases ey;obtain⟨vs,Hn,r1,k,L,rr⟩:=ih s t (by simpa using z) (λj v hj=>by obtain⟨T,x,y,e1,N,e3,e4⟩:=hP (j+1) v (by simpa using hj);exact⟨T,x,y,e1,by simpa using N,by simpa using e3,e4⟩) (by simpa using A)
    obtain⟨C,Q,c⟩:=rx;obtain⟨E,U,e⟩:=ry;have v2:l7 [C,E] [u,J]:=.cons Q (.cons U .nil);cases q:Hn T with
    |none=>
     have H:Same Hn (upd Hn T<|.tup [C,E]):=j6 q _;refine⟨.ref T::vs,upd Hn T (.tup [C,E]),.cons rfl r1,k.trans H,λb w n I=>?_,.cons (.tup (V1.of j3) (.cons ((c.same k).same H) (.cons ((e.same k).same H) .nil))) (rr.same H)⟩;by_cases hb:b=T
     .subst hb;rw[j3]at I;cases I;exact⟨r,nl,_,_,rfl,by simp,v2,⟨_,hp,rfl,0,rfl⟩⟩
     .rw[k7 hb]at I;exact L b w n I
    |some w=>
     obtain⟨_,_,ws,its,rfl,_,vw,⟨o,g,_,n,dd⟩⟩:=L T w (hf T r) q;have hp':h'.get? T=some {cls:=.type "tuple",data:=.seq #[u,J]}:=hp;rw[hp']at g;cases g;have N:its=[u,J]:=by have:=ll (λd=>match d with|Data.seq a _=>a.toList|_=>[]) dd;simpa using this.symm
     subst N;have:ws=[C,E]:=vw.inj v2;subst this;exact⟨.ref T::vs,Hn,.cons rfl r1,k,L,.cons (.tup (V1.of q) (.cons (c.same k) (.cons (e.same k) .nil))) rr⟩
def BD {e1 e2:dA}{p p2 L:Pos}{N U:Ev->R D}(ha1:PB X e1 N)(ha2:PB X e2 U)(hh:X.calm=true)(hg:Gl X "zip":=by rfl)(hm:X.mg "zip"=none:=by assumption)(yp:Gl X "list":=by rfl)(kh:X.mg "list"=none:=by assumption)
  (hv:dm "zip"=some (.type "zip"):=by decide+kernel) (hv2:dm "list"=some (.type "list"):=by decide+kernel)
  (he1:a9 [e2] X.env=(false,ek e2 X.env)::a9 [] X.env:=by rfl) (he:a9 [e1,e2] X.env=(false,ek e1 X.env)::a9 [e2] X.env:=by rfl) (bh:(d3 L (a9 [e2] X.env)).any (·.1)=false:=by rfl)
  (ki:a9 [.Call (.Name "zip" p2) [e1,e2] [] L] X.env=(false,ek (.Call (.Name "zip" p2) [e1,e2] [] L) X.env)::a9 [] X.env:=by rfl) (ug:(d3 t (a9 [] X.env)).any (·.1)=false:=by rfl) (hnl:d3 t (a9 [] X.env)=[]:=by rfl):
  PF X (.Call (.Name "list" p) [.Call (.Name "zip" p2) [e1,e2] [] L] [] t) (λρ=>(o6 N (o6 U R0) ρ).bind TU):=by
 refine uI λpins s σ H Q I H9 O0 O ρ E q=>?_;dsimp only at q;refine aAR (J8 I yp kh hv2 ?_ (by decide) (by decide));refine aBk ?_ ki ug;rw[ki];show ai _ _ (spliced ((false,ek (.Call (.Name "zip" p2) [e1,e2] [] L) X.env)::d3 t (a9 [] X.env))) _ _ s;refine aEZ (aAR (J8 I hg hm hv ?_ (by decide) (by decide)));have mh:aw X [e1,e2] (o6 N<|o6 U R0):=m9 ha1 (m9 ha2 x6 he1) he;refine aBk (E9 (mh L pins s σ H (λm r=>∃v1 v2 Y f,m=[v1,v2]/\o6 N (o6 U R0) ρ=.ok [.lst Y,.lst f]/\Y.length=f.length/\Same H r/\B5 X.K r O v1 (.lst Y)/\B5 X.K r O v2 (.lst f)) I ⟨H9,O0,O,ρ,E,?_⟩) λus d z9=>?_) he bh
 .cases e1:o6 N (o6 U R0) ρ with
  |ex z=>rw[e1]at q;exact q
  |bad=>rw[e1]at q;exact q.elim
  |ok ds=>
   rw[e1,R.aa0]at q;match ds,q with
   |[.lst Y,.lst f],q=>
    simp only[TU]at q;by_cases hc:Y.length=f.length
    .intro m r d w;cases w with
     |cons ra w=>cases w with
      |cons rb w=>cases w with
       |nil=>exact⟨_,_,Y,f,rfl,rfl,hc,d,ra,rb⟩
    .rw[kz hc]at q;exact aAi q
 .obtain⟨m,r,I1,w,v1,v2,Y,f,ev,ef,A,sm,rb1,rb2⟩:=z9;subst ev;rw[ef,R.aa0]at q;simp only[TU]at q;rw[kd A]at q;obtain⟨a,wx,rfl,hSx,rx⟩:=rb1.aa5;obtain⟨b,wy,rfl,hSy,ry⟩:=rb2.aa5;obtain⟨u1,u2,rfl,ru1,ru2⟩:=vals2 w;cases ru1;cases ru2;obtain⟨C,g,⟨oX,nX,gX,cX,dX,sX⟩,zX⟩:=I1.list hSx;obtain⟨J,rvy,⟨oY,nY,gY,cY,dY,sY⟩,zY⟩:=I1.list hSy;have hlx:d.heap.IsList a C.toArray:=⟨oX,gX,cX,nX,sX⟩;have hly:d.heap.IsList b J.toArray:=⟨oY,gY,cY,nY,sY⟩;refine call_zip_2 hlx hly λh z1 z2 z3 z4 z5 zsz k1=>?_;rw[hnl];refine aFm ?_;have lx:C.length=Y.length:=by rw[<-g.length,rx.length]
  have ly:J.length=f.length:=by rw[<-rvy.length,ry.length]
  have I2:=I1.kept (h':=h) (t':=d.toks) k1;have D:=zipApart_new (n:=d.heap.objs.size) (aAf gX) (aAf gY);refine SZ.NW (s:={d with heap:=h}) (I1.ok.hd hh) D (by rw[aAp,aAp,lx,ly,A]) (by rw[aAp,<-g.length];exact zX) ⟨⟨_,_,z1,.inl rfl⟩,z2,⟨_,_,z3⟩,z4,z5,hlx.at λo e=>k1 _ o e,hly.at λo e=>k1 _ o e⟩ λh' B c kp gl hP=>?_;have k12:∀b u,d.heap.get? b=some u->h'.get? b=some u:=λb u e=>kp b u (by have k:=aAf e;simp only[aAd,aAE,or_false,not_or];exact⟨aAm (aAu k<|aFF _ _),aAm (aAu k<|aFF _ _),aAm k,aAm (aAu k<|aFF _ _)⟩) (k1 b u e)
  have sx:u5 X.K r O C Y:=u5.of g rx;have sy:u5 X.K r O J f:=u5.of rvy ry;obtain⟨m,Hn,rva,smn,om,rr⟩:=IS (h0:=h) (h':=h') (l:=h.objs.size) (λb k=>by
   cases q:r b with
   |none=>rfl
   |some u=>exact absurd k ((I2.hok b u q).live)) (B:=B.toList) sx sy A (λj v hj=>by
   obtain⟨T,x,y,e1,e2,e3,e4,e5,e6⟩:=hP.2 j v (by rw[<-aAC];exact hj);exact⟨T,x,y,e1,by simpa using e2,by simpa using e3,e4,λz=>e5 (by simp[z]),e6⟩) (by rw[aAZ,hP.1,aAp,lx])
  have hls:Hn h.objs.size=none:=by
   cases q:Hn h.objs.size with
   |none=>rfl
   |some u=>have:=(om _ u (I2.hok.fresh<|aAh _) q).2.1;exact absurd rfl this
  have hlen:m.length<=sizeLine:=by rw[rva.length,aAZ,hP.1,aAp,<-g.length];exact zX
  have s3:Same Hn (upd Hn h.objs.size<|.lst m):=j6 hls _;have I3:=I1.ae3 (Hn:=upd Hn h.objs.size (.lst m)) (h':=h') (t':=d.toks) k12 (smn.trans s3) (λb u n qb=>by
   by_cases k:b=h.objs.size
   .subst k;rw[j3]at qb;cases qb;refine⟨aEA (by rw[zsz];lia),hlen,B.toList,c,rva,by rw[gl]⟩
   .rw[k7 k]at qb;obtain⟨h0b,_,ws,its,rfl,l2,vw,tt⟩:=om b u n qb;refine⟨?_,aAr l2 (by decide),its,vw,tt⟩;cases z:d.heap.get? b with
    |none=>rfl
    |some o=>rw[k1 b o z]at h0b;cases h0b)
  exact⟨.ref _,_,I3,rfl,q m Hn _ (sm.trans smn) hls rr⟩
end
mutual
def jZ:D->Nat
 |.tup Y=>J7 Y+1
 |_=>1
def J7:List D->Nat
 |[]=>0
 |x::Y=>jZ x+J7 Y
end
theorem dP:∀Y a:List D,J7 (Y++a)=J7 Y+J7 a
 |[],a=>by simp[J7]
 |x::Y,a=>by rw[aBm,J7,J7,dP Y a];lia
section
variable{prog:cp} {w:cy}
def PHe (prog:cp)(w:cy)(h:df)(v:af)(d:D):Prop:=∀(A:cv) (E:B4) (s:bb) (Q:Int->bb->Prop),s.heap=h->A.units+8*C4 d<ee->Q (n4 d) {s with toks:=s.toks+jZ d}->ai (be prog w) A (pyHash v) Q E s
mutual
theorem MW:∀{v:af} {d:D},HV h v d->PHe prog w h v d
 |_,_,.int i t=>λA E s Q z B q=>(intKind prog w).pyHash (k:=i) (intKind_is _ _ _ _) q
 |_,_,.tup (a:=a) (items:=items) (ds:=ds) p r=>λA E s Q z B q=>by
  have fs:=FS r;subst z;obtain⟨o,C,J,n,L⟩:=p;have g:s.TypeIs (.ref a) "tuple":=⟨o,C,J⟩;have N:A.units<ee:=by lia
  rw[C4]at B;unfold pyHash;first|unfold pyHashByItsType|skip
  first|refine aAa (wpAny_cRoomFor_or (.inr N) ?_)|skip
  refine aAa (aBC g PySem.F.slot_tuple_hash.lookup ?_);show ai _ _ (if(some (aGt "tuple.__hash__")==some Value.none)=true then _ else _) Q E s;rw[kz (by rw[aFD];exact aAQ)];refine aAa (aBC g PySem.F.slot_tuple_hash.lookup ?_);show ai _ _ (callSpecialIfBoundUnlessNone? (.ref a) "__hash__" _>>=_) Q E s;refine aAa (aDt g PySem.F.slot_tuple_hash<|aBn PySem.F.slot_tuple_hash g PySem.F.entry_tuple_hash ?_ (PySem.F.args_tuple_hash_1 _));show ai _ _ (aDF (.ref a)>>=_) _ _ s;refine aAa (wpAny_tupleItemsOf C L ?_);refine aAa ?_;rw[<-aCw];refine aCf _
   (λrest (b:Array Int) u=>∃done left,ds=done++left/\Paired (PHe prog w s.heap) rest left/\b.toList=done.map n4/\u={s with toks:=s.toks+J7 done})
   _ ?_ ?_ _ _ ⟨[],ds,rfl,fs,rfl,rfl⟩
  .rintro x rest b u ⟨done,left,e,y,l,rfl⟩;cases y with
   |@cons _ d _ c O H=>
    refine aAa (O _ _ _ _ rfl ?_ ?_)
    .have:C4 d<=C5 ds:=by rw[e];exact wW (j:=done.length) (by simp)
     rw[t6];lia
    have I:s.toks+J7 done+jZ d=s.toks+J7 (done++[d]):=by rw[dP];simp[J7];lia
    first
     |exact aAb ⟨done++[d],c,by simp[e],H,by simp[l],by rw[<-I]⟩
     |exact aAa (aAb (aAb ⟨done++[d],c,by simp[e],H,by simp[l],by rw[<-I]⟩))
  .rintro b u ⟨done,left,e,y,l,rfl⟩;cases y;rw[aBR]at e;subst e;show ai _ _ (retInt<|aAP b.toList) _ _ _;rw[l];refine wpAny_ret_mkInt ?_;show ai _ _ (if(decide (-(2:Int)^63<=aAP (ds.map n4))&&decide (aAP (ds.map n4)<2^63))=true then _ else _) Q E _;have f:=q;rw[n4,gH,jZ]at f;unfold reduceHash at f;by_cases m:(decide (-(2:Int)^63<=aAP (ds.map n4))&&decide (aAP (ds.map n4)<2^63))=true
   .rw[kd m];rw[kd m]at f;exact aAb f
   .rw[kz m];rw[kz m]at f;exact aAa (aDD<|aAb f)
theorem FS:∀{v:List af} {d:List D},HVs h v d->Paired (PHe prog w h) v d
 |_,_,.nil=>.nil
 |_,_,.cons r t=>.cons (MW r) (FS t)
end
end
theorem mS:∀{n:Nat} {d:D},R9 n d=true->nE d=true/\C4 d<=n
 |n,.int i,_=>⟨rfl,by simp[C4]⟩
 |0,.tup Y,h=>by simp[R9]at h
 |n+1,.tup Y,h=>by
  have f:Y.all (R9 n)=true:=by simpa[R9]using h
  have c:∀a:List D,a.all (R9 n)=true->fM a=true/\C5 a<=n:=λa=>by
   induction a with
   |nil=>intro _;exact⟨rfl,aBb _⟩
   |cons y a g=>intro e;simp only[aGs,aAH]at e;obtain⟨k,o⟩:=mS e.1;obtain⟨l,p⟩:=g e.2;exact⟨by show(nE y&&fM a)=true;rw[k,l];rfl,by show max (C4 y) (C5 a)<=n;lia⟩
  obtain⟨m,q⟩:=c Y f;exact⟨m,by show C5 Y+1<=n+1;lia⟩
 |n,.non,h=>by cases n<;>simp[R9]at h
 |n,.dct,h=>by cases n<;>simp[R9]at h
 |n,.bl b,h=>by cases n<;>simp[R9]at h
 |n,.str x,h=>by cases n<;>simp[R9]at h
 |n,.lst Y,h=>by cases n<;>simp[R9]at h
mutual
theorem HV.ab9 (k:∀b o,h.get? b=some o->(∃its n,o.data=.seq its n)->h'.get? b=some o):∀{v:af} {d:D},HV h v d->HV h' v d
 |_,_,.int i t=>.int i t
 |_,_,.tup p r=>.tup (by obtain⟨o,e,c,n,d⟩:=p;exact⟨o,k _ _ e ⟨_,n,d⟩,c,n,d⟩) (HVs.ab9 k r)
theorem HVs.ab9 (k:∀b o,h.get? b=some o->(∃its n,o.data=.seq its n)->h'.get? b=some o):∀{v:List af} {d:List D},HVs h v d->HVs h' v d
 |_,_,.nil=>.nil
 |_,_,.cons r t=>.cons (HV.ab9 k r) (HVs.ab9 k t)
end
instance decD:DecidableEq D:=λa b=>aDg _
def tE (prog:cp) (w:cy):HeapKind prog w D where
 is:=λh d a=>HV h (.ref a) d/\C4 d<8
 hash:=n4
 draws:=jZ
 room:=λA=>A.units+128<ee
 inj:=λx y=>HV.inj x.1 y.1
 keeps:=λ{h v k a d o B C} x l m p=>⟨x.1.ab9<|by rintro b H e ⟨r,n,q⟩;exact(p.2 b (λz=>by subst z;rw[l]at e;cases e;rw[m]at q;cases q)).trans e,x.2⟩
 pyHash:=λ{A E s k a Q} t c q=>MW c.1 A E s Q rfl (by have:=c.2;lia) q
 eqBool:=λ{A E s x y a b Q} t f g q=>by
  have u:=sJ (A:=A) f.1 g.1 (by have:=f.2;lia);refine u prog w E Q ?_;have e:u7 x y=decide (x=y):=by
   by_cases h:x=y
   .subst h;rw[J6,decide_eq_true rfl]
   .rw[decide_eq_false h];cases z:u7 x y with
    |false=>rfl
    |true=>exact absurd (bA f.1.ok g.1.ok z) h
  rw[e];exact q
 quiet:=λ{A E s k a Q} c q=>iO 8 c.1 c.2 _ A E s Q rfl q
open Classical in
def Y2 (U:List (D×D)) (k v:D):List (D×D):=if k∈U.map (·.1)then U.map (λp=>if p.1=k then(p.1,v)else p)else U++[(k,v)]
def sT (U:List (D×D))(k v:D)(h:(U.map (·.1)).Nodup):((Y2 U k v).map (·.1)).Nodup:=by
 unfold Y2;split
 .rw[aBJ];have:((λx=>x.1)∘λp:D×D=>if p.1=k then(p.1,v)else p)=λp=>p.1:=by funext p;simp only[Function.comp];split<;>rfl
  rw[this];exact h
 .rename_i n;rw[aCs,aCW];refine⟨h,by simp,λa d b c=>?_⟩;simp at c;subst c;exactλe=>n (e▸d)
section
theorem GR (I:Inv X c σ H s):∀{es:List jd} {U:List (D×D)},mC X.K H O es U->∃Y:List (D×bc×af),es=Y.map (entryOfKey (tE X.prog X.w))/\Y.map (·.1)=U.map (·.1)/\(∀x∈Y,(tE X.prog X.w).is s.heap x.1 x.2.1)/\
  Paired (λ(x:D×bc×af) (p:D×D)=>x.1=p.1/\Rep X.K H O (.ref x.2.1) p.1/\(∃v,RelV v x.2.2/\Rep X.K H O v p.2)/\R9 7 p.1=true) Y U
 |_,_,.nil=>⟨[],rfl,rfl,λx h=>(by cases h),.nil⟩
 |e::_,p::_,.cons ⟨⟨a,d,f⟩,l,g,k⟩ t=>by
  obtain⟨Y,m,n,o,q⟩:=GR I t;obtain⟨ok,u⟩:=mS k;refine⟨(p.1,a,e.val)::Y,?_,by rw[aAz,aAz,n],λx b=>?_,.cons ⟨rfl,f,l,k⟩ q⟩
  .rw[aAz,<-m];congr 1;obtain⟨r,y,z⟩:=e;simp only at d g;subst d g;rfl
  .rcases aAd.mp b with rfl|b
   .exact⟨N8 I f ok rfl,by show C4 p.1<8;lia⟩
   .exact o x b
theorem GL {P:cp}{w:cy}{K:lr}{H:Hp}{O:bc->Prop}:∀{Y:List (D×bc×af)} {U:List (D×D)},Paired (λ(x:D×bc×af) (p:D×D)=>x.1=p.1/\Rep K H O (.ref x.2.1) p.1/\(∃v,RelV v x.2.2/\Rep K H O v p.2)/\R9 7 p.1=true) Y U->mC K H O (Y.map (entryOfKey (tE P w))) U
 |_,_,.nil=>.nil
 |_,_,.cons ⟨e,a,b,k⟩ t=>.cons ⟨⟨_,rfl,a⟩,b,by rw[<-e];rfl,k⟩ (GL t)
def bC {Y:List (D×bc×af)}{k:D}:(atKey Y k).isSome=true↔k∈Y.map (·.1):=by unfold atKey;rw[Option.isSome_map,List.find?_isSome];simp only[decide_eq_true_eq,aAl]
def GW (I:Inv X b σ H s)(h:H a=some (.ext λh=>h.get? a=some o))(d:LO a o es)(r:mC X.K H O es U)(e:(U.map (·.1)).Nodup):
  ∃Y,s.heap.DictOfH (tE X.prog X.w) a Y/\Y.map (·.1)=U.map (·.1)/\Paired (λ(x:D×bc×af) (p:D×D)=>x.1=p.1/\Rep X.K H O (.ref x.2.1) p.1/\(∃v,RelV v x.2.2/\Rep X.K H O v p.2)/\R9 7 p.1=true) Y U:=by
 obtain⟨Y,f,c,k,l⟩:=GR I r;obtain⟨_,m,n,q,t,u⟩:=d;have g:s.heap.get? a=some o:=(I.hok a _ h).1;exact⟨Y,⟨o,n,q,g,m,t,by rw[u,f],k,by rw[c];exact e⟩,c,l⟩
def IY {K:lr}{Y:List (D×bc×af)}{U:List (D×D)}{k d:D}{b:bc}{u:af}{v:V}(f:Paired (λ(x:D×bc×af) (p:D×D)=>x.1=p.1/\Rep K H O (.ref x.2.1) p.1/\(∃v,RelV v x.2.2/\Rep K H O v p.2)/\R9 7 p.1=true) Y U)(a:Y.map (·.1)=U.map (·.1))
  (m:Rep K H O (.ref b) k) (kk:R9 7 k=true) (g:RelV v u) (l:Rep K H O v d):
  Paired (λ(x:D×bc×af) (p:D×D)=>x.1=p.1/\Rep K H O (.ref x.2.1) p.1/\(∃v,RelV v x.2.2/\Rep K H O v p.2)/\R9 7 p.1=true) (storedH Y k b u) (Y2 U k d):=by
 unfold storedH Y2;by_cases h:k∈U.map (·.1)
 .rw[kd h,kd (bC.mpr (by rw[a];exact h))];clear a h;induction f with
  |nil=>exact .nil
  |@cons x p Y U r t c=>
   rw[aAz,aAz];refine .cons ?_ c;unfold putAt;by_cases e:p.1=k
   .rw[kd (r.1.trans e),kd e];exact⟨r.1,r.2.1,⟨v,g,l⟩,r.2.2.2⟩
   .rw[kz (λz=>e (r.1.symm.trans z)),kz e];exact r
 .rw[kz h,kz (λz=>h (by rw[<-a];exact bC.mp z))];clear a h;induction f with
  |nil=>exact .cons ⟨rfl,m,⟨v,g,l⟩,kk⟩ .nil
  |cons r t c=>exact .cons r c
end
section
variable{K:Type} [DecidableEq K] {knd:HeapKind prog w K}
def rM {Q:xC}(f:knd.room A.in1)(b:knd.is s.heap k a)(g:(d==ij)=false)(c:s.heap.DictOfH knd d Y)
  (h:Q (atKey Y k).isSome {s with toks:=s.toks+knd.draws k}):ai (be prog w) A (contains (.ref d) (.ref a)) Q E s:=by
 unfold contains;try with_reducible refine aAK ?_
 refine aAa (aBC c.typeIs aFd.lookup ?_);show ai _ _ (if(some (aGt "dict.__contains__")==some Value.none)=true then _ else _) _ E s;rw[kz (by rw[aFD];exact aAQ)];refine aAa (wpAny_callSpecialUnlessNone?_slot (name:=aCD "__contains__") c.typeIs aFd
  (aBn aFd c.typeIs entry_dict_contains ?_ (args_dict_contains _ _)))
 show ai _ _ (dictGet d (.ref a)>>=_) _ _ s;refine aAa (wpAny_dictGet_heap f b c ?_);cases e:atKey Y k with
 |some p=>rw[e]at h;show ai _ _ (ret<|.bool true) _ _ _;exact aAb ⟨_,rfl,aBH h⟩
 |none=>rw[e]at h;show ai _ _ (Builtin.Dict.pendingKey? d (.ref a)>>=_) _ _ _;exact aAa (wpAny_pendingKey_other g<|aAb ⟨_,rfl,aBH h⟩)
end
def IN:D->Bool
 |.tup _=>true
 |_=>false
open Classical in
def pU (i:Nat) (ρ:Ev) (k:D):R Bool:=match ρ[i]? with
 |some (.d U)=>if R9 7 k=true/\IN k=true then .ok (!decide (k∈U.map (·.1)))else .bad
 |_=>.bad
section
def nZ {K:lr}{H:Hp}{O:bc->Prop}{v:V}{k:D}(r:Rep K H O v k)(h:IN k=true):∃a,v=.ref a:=by
 cases r with
 |tup h r=>exact⟨_,rfl⟩
 |_=>cases h
def JA (i:Nat){x:Str}{p:Pos}{f:Ev->R D}(ha:PD X e f)(hu:X.A.units+130<ee)(hN:X.N[i]?=some x:=by rfl)(hv:xU X.env.scope x:=by first|exact aCy rfl|exact aBP (aCy rfl)|exact aBP (aBP rfl))
  (hd:(x==lM)=false:=by decide) (fm:(x==ma)=false:=by decide) (hm:jk .NotIn (.Name x p)=false:=by first|rfl|with_unfolding_all rfl):
  AZ X (.Compare e [.NotIn] [.Name x p] pos) (λρ=>(f ρ).bind (pU i ρ)):=by
 refine uI λpins s σ H Q I H9 O0 O ρ E q=>?_;dsimp only at q;refine wpAny_isTrue_Compare1 (OE (ta:=tD X f) (tb:=uw i) ha (L8 hN hv hd fm) (R:=λy x g=>∃a b o m U k,x=.ref a/\y=.ref b/\g a=some (.ext λh=>h.get? a=some o)/\LO a o m/\mC X.K g O m U/\(U.map (·.1)).Nodup/\Rep X.K g O (.ref b) k/\R9 7 k=true/\Q (!(open Classical in decide (k∈U.map (·.1)))) g) I ⟨H9,O0,O,ρ,E,?_⟩ λu w s2 y x g B ry rx h=>?_) hm
 .cases C:f ρ with
  |ex z=>rw[C]at q;exact q
  |bad=>rw[C]at q;exact q.elim
  |ok k=>
   rw[C,R.aa0]at q;intro v H1 sm r;unfold pU at q;cases J:ρ[i]? with
   |none=>rw[J]at q;exact aAi q
   |some sl=>
    rw[J]at q;cases sl with
    |d U=>
     dsimp only at q;by_cases l:R9 7 k=true/\IN k=true
     .rw[kd l]at q;obtain⟨a,o,m,h1,_,_,L,n,T,h7⟩:=(E.grow sm).slot i _ J;obtain⟨b,rfl⟩:=nZ r l.2;exact⟨_,h1,a,b,o,m,U,k,rfl,rfl,L,n,T,h7,r,l.1,q H1 sm⟩
     .rw[kz l]at q;exact aAi q
    |_=>exact aAi q
 .obtain⟨a,b,o,m,U,k,rfl,rfl,L,n,T,h7,rk,l,qq⟩:=h;cases ry;cases rx;obtain⟨Y,hD,vc,hp⟩:=GW B L n T h7;obtain⟨ok,dp⟩:=mS l;show ai _ _ (contains (.ref a) (.ref b)>>=λc=>pure (aDn (!c))) _ _ s2;refine aAa (rM (knd:=tE X.prog X.w) (by show X.A.in1.units+128<ee;rw[t6];lia) ⟨N8 B rk ok rfl,by lia⟩ n.1 hD (aAb ?_));refine aBH ⟨g,B.tok _,?_⟩;have e3:(atKey Y k).isSome=(open Classical in decide (k∈U.map (·.1))):=by
   by_cases t:k∈U.map (·.1)
   .rw[decide_eq_true t];exact bC.mpr (by rw[vc];exact t)
   .rw[decide_eq_false t];cases z:(atKey Y k).isSome with
    |false=>rfl
    |true=>exact absurd (by rw[<-vc];exact bC.mp z) t
  rw[e3];exact qq
def AA (i:Nat)(y:X.N.Nodup)(A:X.N[i]?=some x:=by rfl)(B:Loc X.env.scope x:=by first|exact aCy rfl|exact aBP rfl)(C:fh (.Dict [] [] c) (some (.Name x f)) g.line X.env=pure false:=by rfl)(J:X.fn x=true\/X.env.scope.names.lookup x=some .local:=by first|exact .inl rfl|exact .inr rfl|assumption):mG X (.Assign [.Name x f] (.Dict [] [] c) g) (λρ=>.ok (.nx (ρ.set i (.d [])))):=by
 rintro U Y t s σ H D I ⟨O,ρ,E,fk,q⟩;refine aFl (wpAny_Dict_empty ?_) C;have v:(s.heap.push {cls:=.type "dict",data:=.dict #[]}).get? s.heap.objs.size=some {cls:=.type "dict",data:=.dict #[]}:=aAq _ rfl;have l:=I.hok.fresh (aAh s.heap.objs.size);have m:=I.laid (a:=s.heap.objs.size) (o:=.ext λh=>h.get? s.heap.objs.size=some {cls:=.type "dict",data:=.dict #[]}) (h':=s.heap.push {cls:=.type "dict",data:=.dict #[]}) (t':=s.toks) (λ_ _ q=>aAc _ q) (aAh _)
  ⟨v,⟨_,v⟩,λh1 h2 e k=>k _ e⟩
 have L:=OZ m (j3 (H:=H) (a:=s.heap.objs.size));have p:ij<s.heap.objs.size:=aGG (by decide) (I.mod.glob.keeps I.bk).lt;refine Q6 m y A B (show RelV (.ref s.heap.objs.size) _ from rfl) (λs3 Q=>⟨_,_,Q,?_⟩) J;have w:=E.ae2 (u:=.ext λh=>h.get? s.heap.objs.size=some {cls:=.type "dict",data:=.dict #[]}) (sl:=.d []) i l L trivial λT=>⟨s.heap.objs.size,_,[],rfl,.inr rfl,T,j3,⟨by simp[aCC p],⟨rfl,rfl,rfl⟩,#[],0,rfl,rfl⟩,.nil,aDm⟩;exact q _ _ _ w (qU m _ w.trk) λb o r n=>⟨by rw[k7 (t4 r l)];exact r,λz=>z.elim n (t4 r l)⟩
def a1t (X:Cx):WE:=λx y v H Q=>∃O a b o e U k d,x=.ref a/\y=.ref b/\H a=some (.ext λh=>h.get? a=some o)/\LO a o e/\mC X.K H O e U/\(U.map (·.1)).Nodup/\e.length<=sizeLine/\Rep X.K H O (.ref b) k/\R9 7 k=true/\Rep X.K H O v d/\
 ∀f c,LO a f c->mC X.K H O c (Y2 U k d)->Q (upd H a<|.ext λh=>h.get? a=some f)
def WA (hu:X.A.units+130<ee):iy X (a1t X):=by
 intro E s σ H x y v ov iv u Q I rx ry ru z;obtain⟨O,a,b,o,es,U,k,d,J,ey,m,n,h6,h7,hz,L,N,rv,q⟩:=z;subst J ey;cases rx;cases ry;obtain⟨Y,T,vc,hp⟩:=GW I m n h6 h7;obtain⟨ok,dp⟩:=mS N;have c:Y.length<=sizeLine:=by
  obtain⟨_,J,ea,ep,hd,he⟩:=n;obtain⟨o2,qu,ep2,g2,_,f,ki,_⟩:=T;have g:s.heap.get? a=some o:=(I.hok a _ m).1;rw[g]at g2;cases g2;rw[hd]at f;cases f;have:=ll aFr (he.symm.trans ki);rw[aAj]at this
  lia
 refine wpAny_setItem_heap (knd:=tE X.prog X.w) (by show X.A.in1.units+128<ee;rw[t6];lia) ⟨N8 I L ok rfl,by lia⟩ T (λh' p hs=>?_) c;obtain⟨l,r,t,B,C,nu,xr,is',nd'⟩:=p;have I1:=I.write (x:=a) (e:=a) (o:=.ext λh=>h.get? a=some l) (h':=h') (t':=s.toks+jZ k) (by rw[m];trivial) (.inl rfl) (λb u hb e=>(hs.2 b hb).trans e) ⟨l,B⟩ ⟨B,⟨l,B⟩,λh1 h2 e k=>k _ e⟩;exact⟨_,I1,q l _ ⟨n.1,C,r,t,nu,rfl⟩ (by rw[xr];exact GL (IY hp vc L N ru rv))⟩
def sS (i:Nat) (ρ:Ev) (k d:D):R Out:=match ρ[i]? with
 |some (.d U)=>if R9 7 k=true/\IN k=true/\U.length<=sizeLine then .ok (.nx (ρ.set i<|.d (Y2 U k d)))else .bad
 |_=>.bad
def gF (i:Nat){x:Str}{k:dA}{f g:Ev->R D}{p ps:Pos}(he:PD X e f)(c:PD X k g)(hu:X.A.units+130<ee)(hN:X.N[i]?=some x:=by rfl)(hv:xU X.env.scope x:=by first|exact aCy rfl|exact aBP (aCy rfl)|exact aBP (aBP rfl))(hd:(x==lM)=false:=by decide)
  (fm:(x==ma)=false:=by decide) (ha:∀v,ik (.Subscript (.Name x p) k ps) X.env v=(do
   let t<-gn [v] (ek (.Name x p) X.env)
   let B<-gn [v,t] (ek k X.env)
   standAt ps
   gn [v,t,B] (setItem t B v)
   release [v,t,B] []):=by intro _;rfl)
  (hs:hV [.Subscript (.Name x p) k ps] e C.line X.env=pure false:=by rfl) (hw:h9 [.Subscript (.Name x p) k ps] e X.env=pure none:=by rfl) (u:(eR [.Subscript (.Name x p) k ps] X.env).map (·.2)=[ik (.Subscript (.Name x p) k ps) X.env]:=by rfl):
  mG X (.Assign [.Subscript (.Name x p) k ps] e C) (λρ=>(f ρ).bind λd=>(g ρ).bind λl=>sS i ρ l d):=λY O0=>
 yC (CJ he (MZ (L8 hN hv hd fm) c (WA hu) ha) hs hw u) λD σ H O ρ E fk q=>⟨Y,O0,O,ρ,E,by
  cases I:f ρ with
  |ex z=>rw[I]at q;exactλH' s=>q H' (E.same.trans s)
  |bad=>rw[I]at q;exact q
  |ok d=>
   rw[I,R.aa0]at q;intro v H1 s1 r1;have J:=E.grow s1;cases w:g ρ with
   |ex z=>rw[w]at q;exact(q H<|E.same.trans<|Same.refl _).elim
   |bad=>rw[w]at q;exact aAi q
   |ok l=>
    rw[w,R.aa0]at q;unfold sS at q;cases y:ρ[i]? with
    |none=>rw[y]at q;exact aAi q
    |some sl=>
     rw[y]at q;cases sl with
     |d U=>
      dsimp only at q;by_cases c:R9 7 l=true/\IN l=true/\U.length<=sizeLine
      .rw[kd c]at q;obtain⟨a,o,es,u,h2,h3,L,h5,h6,h7⟩:=J.slot i _ y;refine⟨_,u,Y,O0,O,ρ,J,?_⟩;rw[w];intro kv H2 n r2;have E2:=J.grow n;obtain⟨b,rfl⟩:=nZ r2 c.2.1;have Q:mC X.K H2 O es U:=h6.mono λr=>r.same n;refine⟨O,a,b,o,es,U,l,d,rfl,rfl,n _ _ L,h5,Q,h7,by rw[h6.length];exact c.2.2,r2,c.1,r1.same n,λo' T d' r'=>?_⟩;obtain⟨E3,k3⟩:=E2.ae0 (sl':=.d (Y2 U l d)) (u':=.ext λh=>h.get? a=some o') y trivial u (n _ _ L) trivial trivial λhO h0 m=>⟨a,o',T,rfl,h2,h3,j3,d',r'.mono λr=>r.upd (n _ _ L) trivial h2,sT U l d h7⟩;exact q _ _ _ E3 fk (((Kp.of s1).trans (Kp.of n)).trans k3)
      .rw[kz c]at q;exact aAi q
     |_=>exact aAi q⟩
end
end
section
variable [Tabs]
def _root_.L2.Inv.ae9 {a:N2}{σ:St}{H:Hp}{s:bb}{h':df}{t':Nat}{L:List bc}{T:bc}{vs:List V}(I:Inv X a σ H s)(k:∀b o,b∉L->s.heap.get? b=some o->h'.get? b=some o)
  (h:∀b∈L,mB X a H b) (l:s.heap.objs.size<=T) (hz:vs.length<=sizeLine) {its:List af} (w:l7 vs its) (x:IsTup h' T its.toArray):Inv X a σ (upd H T (.tup vs)) {s with heap:=h',toks:=t'}:=by
 have p:H T=none:=I.hok.fresh l;have ne:∀b u,H b=some u->b≠T:=λb u e z=>by rw[z,p]at e;cases e
 have f:Same H (upd H T<|.tup vs):=j6 p _;have t:∀b u,H b=some u->b∉L:=λb u e z=>by rw[(h b z).1]at e;cases e
 refine I.step (g':=s.gens) (d':=s.drawn) (ch:=L) (λb g=>?_) (λb o _ _ d e _=>k b o d e) (λb o _ _ d e _=>⟨o.slots,k b o d e⟩) (λb o _ e n=>?_)
  (λb o d e=>⟨o,k b o d e⟩) (λb _ e=>f _ _ e) (λb _ _ e=>f _ _ e) (λb _ e=>f _ _ e) (λm y=>?_) (λb u e=>?_) I.bare
 .obtain⟨_,A,_,B,C,E⟩:=h b g;exact⟨B,A,C,E⟩
 .rw[k7 (aAm<|aAu (aAf e) l)];exact n
 .obtain⟨o,J,N,O,r⟩:=y;exact⟨o,J,N,k _ o (λz=>(h _ z).2.1 rfl) O,r⟩
 .by_cases g:b=T
  .subst g;rw[j3]at e;cases e;exact⟨hz,its,w,x⟩
  .rw[k7 g]at e;refine(I.hok b u e).ab7 (λc v d q=>k c v ?_ q) (λ_ q=>f _ _ q) λ_ _ _ q=>f _ _ q;rcases d with z|z
   .rw[z];exact t b u e
   .exact t c _ z
def _root_.L2.Inv.af0 {a:N2}{σ:St}{H:Hp}{s:bb}{h':df}{t':Nat}{L:List bc}(I:Inv X a σ H s)(k:∀b o,b∉L->s.heap.get? b=some o->h'.get? b=some o)
  (f:∀b∈L,mB X a H b):Inv X a σ H {s with heap:=h',toks:=t'}:=by
 have g:∀b u,H b=some u->b∉L:=λb u e z=>by rw[(f b z).1]at e;cases e
 refine I.step (g':=s.gens) (d':=s.drawn) (ch:=L) (λb h=>?_) (λb o _ _ d e _=>k b o d e) (λb o _ _ d e _=>⟨o.slots,k b o d e⟩) (λ_ _ _ _ n=>n)
  (λb o d e=>⟨o,k b o d e⟩) (λb _ e=>e) (λb _ _ e=>e) (λb _ e=>e) (λm l=>?_) (λb u e=>?_) I.bare
 .obtain⟨_,p,_,t,w,x⟩:=f b h;exact⟨t,p,w,x⟩
 .obtain⟨o,y,A,B,r⟩:=l;exact⟨o,y,A,k _ o (λz=>(f _ z).2.1 rfl) B,r⟩
 .refine(I.hok b u e).ab7 (λc v d q=>k c v ?_ q) (λ_ q=>q) λ_ _ _ q=>q;rcases d with z|z
  .rw[z];exact g b u e
  .exact g c _ z
def YM {h:df}{i a:bc}{k:Nat}(x:h.IsListIter i a k):∃o,h.get? i=some o/\∀v,o.data≠.cell v:=by obtain⟨o,e,c,d⟩:=x;exact⟨o,e,λv z=>by rw[d]at z;cases z⟩
def Ite (K:lr)(a:bc):It:=
 ⟨λi H=>∃Y x,K8 K H a Y/\Y[i]?=some x,
  λi H v b=>∃T,v=.ref T/\H T=none/\∀Y,K8 K H a Y->∃x,Y[i]?=some x/\b=upd H T (.tup [.int i,x]),
  λi H=>∃Y,K8 K H a Y/\Y.length<=i⟩
def tnE (e it a:bc)(i:Nat)(h:df):Prop:=(∃b,IsEnum h e it (i:Int) b)/\h.IsListIter it a i
def HM {P:cp}{w:cy}{K:lr}{el:List dA}{c}{tp:Pos}{e it a:bc}(D:e≠it):Turn P w K (.Tuple el c tp) (Ite K a) [e,it] e (tnE e it a)where
 mem:=by simp
 obj:=λi h ⟨⟨f,C⟩,J⟩ c d=>by
  simp only[aAd,aAE,or_false]at d;rcases d with rfl|rfl
  .exact⟨_,C,λv z=>nomatch z⟩
  .exact YM J
 keep:=λi h r ⟨⟨f,C⟩,J⟩ k=>⟨⟨f,k _ (by simp) _ C⟩,J.at λo e=>k _ (by simp) o e⟩
 item:=by
  intro X L N O d i n s σ H E I t st Q;subst L N O;obtain⟨Y,x,y,ex⟩:=Q;obtain⟨T,g,U,zx⟩:=I.list y;obtain⟨u,hu,ru⟩:=g.get ex;obtain⟨⟨f,A⟩,B⟩:=st;refine wpAny_pyNext_enum_item A B U.isList (x:=u) (by simpa using hu) D λr q0 q1 hp hsz kp=>?_;refine⟨.ref s.heap.objs.size,rfl,wpAny_letOwnedTupleGo_enum (s:={s with heap:=r,toks:=s.toks+1}) q0 λh2 z2 sb=>?_⟩;have l:e<s.heap.objs.size:=aAf A;have p:it<s.heap.objs.size:=by obtain⟨o,e,_⟩:=B;exact aAf e
  have up:∀c o,c≠e->r.get? c=some o->h2.get? c=some o:=λc o d e=>sb.extBut c o d e;have hTf:s.heap.objs.size∉[e,it]:=λm=>by
   simp only[aAd,aAE,or_false]at m;rcases m with m|m
   .rw[<-m]at l;exact absurd l (aBc _)
   .rw[<-m]at p;exact absurd p (aBc _)
  have kk:∀c o,c∉[e,it]->s.heap.get? c=some o->h2.get? c=some o:=λc o d e=>by simp only[aAd,aAE,or_false,not_or]at d;exact up c o d.1 (kp c o d.1 d.2 e)
  refine⟨.ref s.heap.objs.size,upd H s.heap.objs.size (.tup [.int i,x]),I.ae9 (t':=s.toks+1) kk t (aAh _) (by show 2<=sizeLine;decide) (its:=[.int i s.toks,u]) (.cons ⟨_,rfl⟩ (.cons ru .nil)) ⟨_,up _ _ (aCC l) hp,rfl,0,rfl⟩,rfl,
   ⟨_,rfl,I.hok.fresh (aAh _),λxs' hx'=>⟨x,by rw[I.ab2 hx' y];exact ex,rfl⟩⟩,⟨⟨u,?_⟩,q1.at λo e=>up _ o (aCk D) e⟩,λb hb=>?_⟩
  .have:((i+1:Nat):Int)=(i:Int)+1:=by lia
   rw[this];exact z2
  .rw[k7 (λq:b=s.heap.objs.size=>hTf (q▸hb))];exact(t b hb).1
 done:=by intro X L N O d i n s σ H E I t st Q;subst L N O;obtain⟨Y,y,hl⟩:=Q;obtain⟨T,g,U,zx⟩:=I.list y;obtain⟨⟨f,A⟩,B⟩:=st;have hlx:=g.length;refine wpAny_pyNext_enum_end (I.ok.hd d) A B U.isList (by simp;lia) λr kp=>⟨rfl,I.af0 (t':=s.toks) (λc o d e=>?_) t⟩;simp only[aAd,aAE,or_false,not_or]at d;exact kp c o d.2 e
 self:=by rintro _ _ _ _ _ ⟨⟨_,st⟩,_⟩ h;exact wpAny_pyIter_enum st h
def FX (Y:List D):List D:=List.zipWith (λ(k:Nat) d=>D.tup [.int (k:Int),d]) (aBF Y.length) Y
def OV:List D->R (List D)
 |[.lst Y]=>.ok (FX Y)
 |_=>.bad
def lH (Y:List D)(i:Nat):(FX Y)[i]?=Y[i]?.map λd=>D.tup [.int (i:Int),d]:=by
 unfold FX;rw[List.getElem?_zipWith];by_cases h:i<Y.length
 .rw[List.getElem?_range h];cases Y[i]?<;>rfl
 .rw[aEs (by simpa using h),aEs (by lia:Y.length<=i)];rfl
def KU {el:List dA}{c}{tp:Pos}{e1:dA}{p:Pos}{g:Ev->R D}(u:PD X e1 g)(hg:Gl X "enumerate":=by rfl)(hm:X.mg "enumerate"=none:=by assumption)(hv:dm "enumerate"=some (.type "enumerate"):=by decide+kernel)
  (L:a9 [e1] X.env=(false,ek e1 X.env)::a9 [] X.env:=by rfl) (bh:(d3 h (a9 [] X.env)).any (·.1)=false:=by rfl):
  WO X (.Tuple el c tp) (.Call (.Name "enumerate" p) [e1] [] h) (λρ=>(o6 g R0 ρ).bind OV):=by
 rintro l s σ H Rr I ⟨H9,O0,O,ρ,E,fk,q⟩;dsimp only at q;refine aAR (J8 I hg hm hv ?_ (by decide) (by decide));have mh:HN X [e1] (o6 g R0):=i7 u p5 L;refine aBk (E9 (mh h l s σ H (λv f=>∃v1 Y,v=[v1]/\o6 g R0 ρ=.ok [.lst Y]/\Same H f/\Rep X.K f O v1 (.lst Y)) I ⟨H9,O0,O,ρ,E,?_⟩) λus m w=>?_) L bh
 .cases e1:o6 g R0 ρ with
  |ex z=>rw[e1]at q;exact q
  |bad=>rw[e1]at q;exact q.elim
  |ok ds=>
   rw[e1,R.aa0]at q;match ds,q with
   |[.lst Y],q=>
    intro v f m n;cases n with
    |cons ra n=>cases n with
     |nil=>exact⟨_,Y,rfl,rfl,m,ra⟩
 .obtain⟨v,f,t,n,v1,Y,y,ef,sm,A⟩:=w;subst y;rw[ef,R.aa0]at q;simp only[OV]at q;cases A with
  |@lst a B _ r nx N=>
  obtain⟨u1,rfl,C⟩:=vals1 n;cases C;obtain⟨itx,rvx,px,zX⟩:=t.list r;refine call_enumerate_list px.isList λQ U z2 zsz k1=>?_;have I2:=t.kept (h':=Q) (t':=m.toks) k1;refine wpAny_pyIter_enum (s:={m with heap:=Q}) U ⟨_,_,_,Ite X.K a,f,rfl,I2,HM (Nat.succ_ne_self _),⟨⟨_,U⟩,z2⟩,λc hc=>?_,q _ f sm λH2 O2 k hK hO hO2 i=>?_⟩
  .have yb:m.heap.objs.size<=c:=by simp only[aAd,aAE,or_false]at hc;rcases hc with rfl|rfl<;>lia
   exact t.ae8 yb (t.hok.fresh yb)
  .obtain⟨n2x,b⟩:=k.lst nx r λo q=>hK a o q;have J:=k.ac0 hO hK N;refine⟨λd e=>?_,λe=>⟨B,b,?_⟩⟩
   .rw[lH]at e;cases e1:Y[i]? with
    |none=>rw[e1]at e;cases e
    |some dx=>rw[e1]at e;cases e;obtain⟨vx,g1,g2⟩:=J.get e1;refine⟨⟨B,vx,b,g1⟩,λx H' w=>?_⟩;obtain⟨T,y,hT,hh⟩:=w;obtain⟨x1,q1,rfl⟩:=hh B b;rw[g1]at q1;cases q1;subst y;have s2:Same H2 (upd H2 T<|.tup [.int i,vx]):=j6 hT _;exact⟨s2,.tup (V1.of j3) (.cons .int (.cons (g2.same s2) .nil))⟩
   .rw[N.length];rw[lH]at e;cases e1:Y[i]? with
    |none=>exact aBS.mp e1
    |some dx=>rw[e1]at e;cases e
end
end DL
namespace MM
open PySem
def CmpOn (prog:cp)(w:cy)(A:cv)(op:CmpOp)(c:df->Prop)(P:Nat->af->Prop)(bt:Nat->Nat->Bool):Prop:=
 ∀i j a b (s:bb) (Q:B4) (E:B4),c s.heap->P i a->P j b->Q (.bool (bt i j)) s->ai (be prog w) A (i5 op a b) Q E s
section
def IW (W:WalksS prog w A.in1 I U m G n P St){E:df->Prop}(Y:∀i s,St i s->E s.heap)(bt:Nat->Nat->Bool)(kr:CmpOn prog w A.in1 .Lt E P bt)(S:bc)(H:S∉U):
  ∀(k j:Nat) (s:bb) (d:af) (c:Nat),n-(j+1)=k->j+1<=n->St (j+1) s->P (dq bt j) d->
  s.heap.get? S=some {cls:=.type "list",dict:=none,data:=.seq #[d,d] c,slots:=#[]}->
  (∀v s',P (dq bt (n-1)) v->Moved (S::m) G s s'->R (.ok (.ret v)) s')->gh (be prog w) A (.builtin "min.loop" ⟨[.ref I,.none,.ref S],[]⟩) R s:=by
 have J:S∉m:=λh=>H (W.sub _ h);have t:∀b∈m,b∈S::m:=λb a=>aAe _ a;have L:(toString "min"++toString ".loop":String)= "min.loop":=by decide
 have N:∀{b:bc},b∉S::m->S≠b:=λa h=>a (by rw[h];exact aAU);intro k;induction k with
 |zero=>
  intro j s d c hk hj u f p r;have O:j+1=n:=by omega
  refine aBl aFG ?_;rw[aAL aCN _];show ai _ A.in1 (seqItems? (.ref S)>>=_) _ _ s;refine aAa (aBu p rfl ?_);show ai _ A.in1 (tryCatch (fT<|.ref I) _>>=_) _ _ s;refine aAa (aCT<|W.done s _ _ (O▸u) λs' l=>?_);have q:=l.heap S _ J p;show ai _ A.in1 (gW S (λ_=>#[])>>=_) _ _ _;refine aAa ?_;refine aBD q rfl (aAa<|aCS<|aAb ?_);exact r d _ (by rw[<-O];exact f) ((l.mono t).then_heap (tk:=s'.toks) (aAh _) λb o a e=>(aAw _ _<|N a).trans e)
 |succ k Q=>
  intro j s d c hk hj u f p r;have x:j+1<n:=by omega
  refine aBl aFG ?_;rw[aAL aCN _];show ai _ A.in1 (seqItems? (.ref S)>>=_) _ _ s;refine aAa (aBu p rfl ?_);show ai _ A.in1 (tryCatch (fT<|.ref I) _>>=_) _ _ s;refine aAa (aCT<|W.item (j+1) s _ _ x u λv s' T y l=>?_);have q:=l.heap S _ J p;show ai _ A.in1 (tryCatch (gn [v,v]<|i5 .Lt v d>>=_) _>>=_) _ _ _;refine aAa (aCT<|aAK<|aAa<|kr (j+1) (dq bt j) v d _ _ _ (Y _ _ y) T f ?_);refine aAa (aAK<|aBH ?_);refine aAa (aCS<|aAb ?_);cases a:bt (j+1) (dq bt j)with
  |true=>
   simp only[if_true];refine aAa ?_;refine aBD q rfl (aAa<|aCS ?_);rw[L];refine aAb ⟨aBs aCN _,Q (j+1) _ v _ (by omega) x (W.frame _ s' _ s'.toks y (aAh _) λb yf o e=>?_) (by simp only[dq,a,if_true];exact T) (aAT _ q rfl)
    λz g B C=>?_⟩
   .exact(aAw _ _ (λh:S=b=>H (by rw[h];exact yf))).trans e
   .exact r z g B (aDP W.gtrans ((l.mono t).then_heap (aAh _) λb o a e=>(aAw _ _<|N a).trans e) C)
  |false=>simp only[aAt,if_false];refine aAa (aCS ?_);rw[L];refine aAb ⟨aBs aCN _,Q (j+1) _ d c (by omega) x y (by simp only[dq,a,aAt,if_false];exact f) q λz g B C=>?_⟩;exact r z g B (aDP W.gtrans (l.mono t) C)
def BB (W:WalksS prog w A.in1 I r a G n P St){k:df->Prop}(t:∀i s,St i s->k s.heap)(bt:Nat->Nat->Bool)(u:CmpOn prog w A.in1 .Lt k P bt)(S:bc)(f:S∉r)(l:0<n)(x:St 0 s)(m:s.heap.get? S=some {cls:=.type "list",dict:=none,data:=.seq #[] c,slots:=#[]})(y:∀v s',P (dq bt (n-1)) v->Moved (S::a) G s s'->R (.ok (.ret v)) s'):gh (be prog w) A (.builtin "min.loop" ⟨[.ref I,.none,.ref S],[]⟩) R s:=by
 have z:S∉a:=λh=>f (W.sub _ h);have B:∀b∈a,b∈S::a:=λb d=>aAe _ d;have C:(toString "min"++toString ".loop":String)= "min.loop":=by decide
 have E:∀{b:bc},b∉S::a->S≠b:=λd h=>d (by rw[h];exact aAU);refine aBl aFG ?_;rw[aAL aCN _];show ai _ A.in1 (seqItems? (.ref S)>>=_) _ _ s;refine aAa (aBu m rfl ?_);show ai _ A.in1 (tryCatch (fT<|.ref I) _>>=_) _ _ s;refine aAa (aCT<|W.item 0 s _ _ l x λv s' H J p=>?_);have q:=p.heap S _ z m;show ai _ A.in1 (gW S (λ_=>#[v,v])>>=_) _ _ _;refine aAa ?_;refine aBD q rfl ?_;rw[C];refine aAb ⟨aBs aCN _,IW W t bt u S f _ 0 _ v _ rfl l (W.frame _ s' _ s'.toks J (aAh _) λb L o e=>?_) H (aAT _ q rfl) λN g O Q=>?_⟩
 .exact(aAw _ _ (λh:S=b=>f (by rw[h];exact L))).trans e
 .exact y N g O (aDP W.gtrans ((p.mono B).then_heap (aAh _) λb o d e=>(aAw _ _<|E d).trans e) Q)
def call_minH {E:B4}{Q:B4}(h:ai (be prog w) A.in1 (pyIter x) (λit a=>∃I c d G n P St f bt,it=.ref I/\WalksS prog w A.in1 I c d G n P St/\St 0 a/\(∀b∈c,b<a.heap.objs.size)/\0<n/\(∀i s,St i s->f s.heap)/\CmpOn prog w A.in1 .Lt f P bt/\
   ∀v s',P (dq bt (n-1)) v->Moved d G a s'->Q v s') E s):
  ai (be prog w) A (call (.builtin "min") [x]) Q E s:=by
 have k:(toString "min"++toString ".loop":String)= "min.loop":=by decide
 refine call_function_tree F.kind_min F.plain_min F.entry_min (F.args_min1 _) ?_;show ai _ A.in1 (aCJ "min" ["key", "default"] 0 ⟨[],[]⟩>>=_) _ _ s;refine aAa (aFw (show aCJ "min" ["key", "default"] 0 ⟨[],[]⟩=pure [none,none]from rfl) ?_);refine aAa (aAb ?_);refine aAa (aCu h (λit a l=>?_) λ_ _ e=>e);obtain⟨I,c,d,G,n,P,St,f,bt,rfl,W,m,p,q,r,t,u⟩:=l;refine aAa (aAW ?_);have y:a.heap.objs.size∉c:=λg=>aBc _ (p _ g);rw[k];refine aAb ⟨aBs aCN _,BB W r bt t a.heap.objs.size y q (W.frame 0 a _ a.toks m (aAh _) λb _ o e=>aAc _ e) (aAq _ rfl) λv s' z g=>?_⟩;exact u v s' z (Moved.drop_new (tk:=a.toks) g<|aAh _)
def IX (W:WalksS prog w A.in1 I U m G n P St){E:df->Prop}(Y:∀i s,St i s->E s.heap)(bt:Nat->Nat->Bool)(kr:CmpOn prog w A.in1 .Gt E P bt)(S:bc)(H:S∉U):
  ∀(k j:Nat) (s:bb) (d:af) (c:Nat),n-(j+1)=k->j+1<=n->St (j+1) s->P (dq bt j) d->
  s.heap.get? S=some {cls:=.type "list",dict:=none,data:=.seq #[d,d] c,slots:=#[]}->
  (∀v s',P (dq bt (n-1)) v->Moved (S::m) G s s'->R (.ok (.ret v)) s')->gh (be prog w) A (.builtin "max.loop" ⟨[.ref I,.none,.ref S],[]⟩) R s:=by
 have J:S∉m:=λh=>H (W.sub _ h);have t:∀b∈m,b∈S::m:=λb a=>aAe _ a;have L:(toString "max"++toString ".loop":String)= "max.loop":=by decide
 have N:∀{b:bc},b∉S::m->S≠b:=λa h=>a (by rw[h];exact aAU);intro k;induction k with
 |zero=>
  intro j s d c hk hj u f p r;have O:j+1=n:=by omega
  refine aBl aFH ?_;rw[aAL aCO _];show ai _ A.in1 (seqItems? (.ref S)>>=_) _ _ s;refine aAa (aBu p rfl ?_);show ai _ A.in1 (tryCatch (fT<|.ref I) _>>=_) _ _ s;refine aAa (aCT<|W.done s _ _ (O▸u) λs' l=>?_);have q:=l.heap S _ J p;show ai _ A.in1 (gW S (λ_=>#[])>>=_) _ _ _;refine aAa ?_;refine aBD q rfl (aAa<|aCS<|aAb ?_);exact r d _ (by rw[<-O];exact f) ((l.mono t).then_heap (tk:=s'.toks) (aAh _) λb o a e=>(aAw _ _<|N a).trans e)
 |succ k Q=>
  intro j s d c hk hj u f p r;have x:j+1<n:=by omega
  refine aBl aFH ?_;rw[aAL aCO _];show ai _ A.in1 (seqItems? (.ref S)>>=_) _ _ s;refine aAa (aBu p rfl ?_);show ai _ A.in1 (tryCatch (fT<|.ref I) _>>=_) _ _ s;refine aAa (aCT<|W.item (j+1) s _ _ x u λv s' T y l=>?_);have q:=l.heap S _ J p;show ai _ A.in1 (tryCatch (gn [v,v]<|i5 .Gt v d>>=_) _>>=_) _ _ _;refine aAa (aCT<|aAK<|aAa<|kr (j+1) (dq bt j) v d _ _ _ (Y _ _ y) T f ?_);refine aAa (aAK<|aBH ?_);refine aAa (aCS<|aAb ?_);cases a:bt (j+1) (dq bt j)with
  |true=>
   simp only[if_true];refine aAa ?_;refine aBD q rfl (aAa<|aCS ?_);rw[L];refine aAb ⟨aBs aCO _,Q (j+1) _ v _ (by omega) x (W.frame _ s' _ s'.toks y (aAh _) λb yf o e=>?_) (by simp only[dq,a,if_true];exact T) (aAT _ q rfl)
    λz g B C=>?_⟩
   .exact(aAw _ _ (λh:S=b=>H (by rw[h];exact yf))).trans e
   .exact r z g B (aDP W.gtrans ((l.mono t).then_heap (aAh _) λb o a e=>(aAw _ _<|N a).trans e) C)
  |false=>simp only[aAt,if_false];refine aAa (aCS ?_);rw[L];refine aAb ⟨aBs aCO _,Q (j+1) _ d c (by omega) x y (by simp only[dq,a,aAt,if_false];exact f) q λz g B C=>?_⟩;exact r z g B (aDP W.gtrans (l.mono t) C)
def CH (W:WalksS prog w A.in1 I r a G n P St){k:df->Prop}(t:∀i s,St i s->k s.heap)(bt:Nat->Nat->Bool)(u:CmpOn prog w A.in1 .Gt k P bt)(S:bc)(f:S∉r)(l:0<n)(x:St 0 s)(m:s.heap.get? S=some {cls:=.type "list",dict:=none,data:=.seq #[] c,slots:=#[]})(y:∀v s',P (dq bt (n-1)) v->Moved (S::a) G s s'->R (.ok (.ret v)) s'):gh (be prog w) A (.builtin "max.loop" ⟨[.ref I,.none,.ref S],[]⟩) R s:=by
 have z:S∉a:=λh=>f (W.sub _ h);have B:∀b∈a,b∈S::a:=λb d=>aAe _ d;have C:(toString "max"++toString ".loop":String)= "max.loop":=by decide
 have E:∀{b:bc},b∉S::a->S≠b:=λd h=>d (by rw[h];exact aAU);refine aBl aFH ?_;rw[aAL aCO _];show ai _ A.in1 (seqItems? (.ref S)>>=_) _ _ s;refine aAa (aBu m rfl ?_);show ai _ A.in1 (tryCatch (fT<|.ref I) _>>=_) _ _ s;refine aAa (aCT<|W.item 0 s _ _ l x λv s' H J p=>?_);have q:=p.heap S _ z m;show ai _ A.in1 (gW S (λ_=>#[v,v])>>=_) _ _ _;refine aAa ?_;refine aBD q rfl ?_;rw[C];refine aAb ⟨aBs aCO _,IX W t bt u S f _ 0 _ v _ rfl l (W.frame _ s' _ s'.toks J (aAh _) λb L o e=>?_) H (aAT _ q rfl) λN g O Q=>?_⟩
 .exact(aAw _ _ (λh:S=b=>f (by rw[h];exact L))).trans e
 .exact y N g O (aDP W.gtrans ((p.mono B).then_heap (aAh _) λb o d e=>(aAw _ _<|E d).trans e) Q)
def call_maxH {E:B4}{Q:B4}(h:ai (be prog w) A.in1 (pyIter x) (λit a=>∃I c d G n P St f bt,it=.ref I/\WalksS prog w A.in1 I c d G n P St/\St 0 a/\(∀b∈c,b<a.heap.objs.size)/\0<n/\(∀i s,St i s->f s.heap)/\CmpOn prog w A.in1 .Gt f P bt/\
   ∀v s',P (dq bt (n-1)) v->Moved d G a s'->Q v s') E s):
  ai (be prog w) A (call (.builtin "max") [x]) Q E s:=by
 have k:(toString "max"++toString ".loop":String)= "max.loop":=by decide
 refine call_function_tree F.kind_max F.plain_max F.entry_max (F.args_max1 _) ?_;show ai _ A.in1 (aCJ "max" ["key", "default"] 0 ⟨[],[]⟩>>=_) _ _ s;refine aAa (aFw (show aCJ "max" ["key", "default"] 0 ⟨[],[]⟩=pure [none,none]from rfl) ?_);refine aAa (aAb ?_);refine aAa (aCu h (λit a l=>?_) λ_ _ e=>e);obtain⟨I,c,d,G,n,P,St,f,bt,rfl,W,m,p,q,r,t,u⟩:=l;refine aAa (aAW ?_);have y:a.heap.objs.size∉c:=λg=>aBc _ (p _ g);rw[k];refine aAb ⟨aBs aCO _,CH W r bt t a.heap.objs.size y q (W.frame 0 a _ a.toks m (aAh _) λb _ o e=>aAc _ e) (aAq _ rfl) λv s' z g=>?_⟩;exact u v s' z (Moved.drop_new (tk:=a.toks) g<|aAh _)
end
def walks_more {P:Nat->af->Prop}{St:Nat->df->Prop}(W:Walks prog w A I m g n P St)(more:N2)(q:∀p∈more,p.1∉g):
  Walks prog w A I (m++more.map (·.1)) g n P (λi h=>St i h/\∀p∈more,h.get? p.1=some p.2)where
 sub:=λb d=>aBK _ (W.sub b d)
 frame:=λi h f st k=>⟨W.frame i h f st.1 λb d o e=>k b (aBK _ d) o e,λp a=>k p.1 (aAI _<|aBA a) _ (st.2 p a)⟩
 item:=λi s Q E r st c=>W.item i s Q E r st.1 λv f t u x l=>c v f t u ⟨x,λp a=>l p.1 p.2 (q p a) (st.2 p a)⟩ l
 done:=λs Q E st c=>W.done s Q E st.1 c
 self:=λi s Q E st c=>W.self i s Q E st.1 c
end MM
namespace DL
open PySem PySem.Spec L2
open PyProof.Rows hiding St
section
variable [Tabs]
section
def JT {x:Str}{a:bc}{b:Option bc}{its:Array af}{n:Nat}{sl:Array (Option af)}{ns:List Int}(c:X.mg x=some (.ref a))(d:X.K.lookup a=some ⟨.type "tuple",b,.seq its n,sl⟩)(e:l7 (ns.map V.int) its.toList)(hz:its.size<=sizeLine)(f:Gl X x:=by rfl)(g:(x==lM)=false:=by decide):
 PD X (.Name x h) (WF (.tup (ns.map D.int))):=wN (UI f c (show RelV (.ref a) _ from rfl) g) λH O=>.tup (.inr ⟨_,its,n,d,rfl,rfl,hz,e⟩) (Reps.ints ns)
def OG:D->D->R D
 |.non,.non=>.ok (.bl true)
 |_,.non=>.ok (.bl false)
 |_,_=>.bad
def QL:mF X (eY .Is) OG:=by
 intro H O x y d e Q h c f q;refine⟨_,YE,?_⟩;cases e with
 |non=>
  refine⟨f.ac1,?_⟩;cases d with
  |non=>rw[c.ac1];exact q _ H (Same.refl _) .bl
  |bl b=>rw[c.blI];exact q _ H (Same.refl _) .bl
  |int i=>rw[c.aa6];exact q _ H (Same.refl _) .bl
  |str z=>rw[c.ac4];exact q _ H (Same.refl _) .bl
  |tup g=>obtain⟨a,_,rfl,_⟩:=c.tupI;exact q _ H (Same.refl _) .bl
  |lst g=>obtain⟨a,_,rfl,_⟩:=c.aa5;exact q _ H (Same.refl _) .bl
  |dct=>obtain⟨a,_,rfl,_⟩:=c.af9;exact q _ H (Same.refl _) .bl
 |_=>cases d<;>exact aAi q
def LP (g:PD X e f)(h:fh e none a.line X.env=pure false:=by rfl):mG X (.Expr e a) (λρ=>(f ρ).bind λ_=>.ok (.nx ρ)):=λk l=>
 yC (mT g h) λD σ H O ρ E m q=>⟨k,l,O,ρ,E,by
  cases b:f ρ with
  |ok d=>rw[b]at q;exactλv c s r=>q _ c O (E.grow s) m (Kp.of s)
  |ex x=>rw[b]at q;exactλc s=>q c (E.same.trans s)
  |bad=>rw[b]at q;exact q⟩
def dF:List D->Option (List Bool)
 |[]=>some []
 |.bl b::a=>(dF a).map (b::·)
 |_::_=>none
theorem qA:∀{ds:List D} {bs:List Bool},dF ds=some bs->ds=bs.map D.bl
 |[],bs,h=>by cases h;rfl
 |.bl b::ds,bs,h=>by
  unfold dF at h;cases e:dF ds with
  |none=>rw[e]at h;cases h
  |some l=>rw[e]at h;have a:b::l=bs:=aAn h;subst a;rw[qA e];rfl
 |.non::_,_,h|.int _::_,_,h|.str _::_,_,h|.tup _::_,_,h|.lst _::_,_,h|.dct::_,_,h=>by cases h
def anyR:List D->R D
 |[.lst a]=>match dF a with
  |some bs=>.ok (.bl (bs.any id))
  |none=>.bad
 |_=>.bad
def DN {K:lr}{H:Hp}{O:bc->Prop}{ws:List V}{bs:List Bool}{its:List af}(r:Reps K H O ws (bs.map D.bl))(v:l7 ws its):its=bs.map aDn:=by
 induction bs generalizing ws its with
 |nil=>cases r;cases v;rfl
 |cons b bs a=>
  cases r with
  |cons r t=>
   cases v with
   |cons c d=>cases r;have:_=aDn b:=c;rw[this,a t d];rfl
def HS (bs:List Bool):(aBF bs.length).any (λi=>bs.getD i false)=bs.any id:=by
 rw[aDa,aEt,aEt];constructor
 .rintro⟨i,a,e⟩;have c:i<bs.length:=by simpa using a
  refine⟨bs[i],aBV c,?_⟩;simpa[aAo,aAg c]using e
 .rintro⟨b,d,e⟩;obtain⟨i,a,rfl⟩:=aBj d;exact⟨i,by simpa using a,by simpa[aAo,aAg a]using e⟩
def ax (y:X.calm=true):aU X (.builtin "any") anyR:=by
 intro H O h A Q fr r q;match A,q with
 |[.lst Y],q=>
  obtain⟨v,rfl,z⟩:=BF r;obtain⟨p,ws,rfl,B,k⟩:=z.aa5;simp only[anyR]at q;cases e:dF Y with
  |none=>rw[e]at q;exact q.elim
  |some bs=>
   rw[e]at q;rw[qA e]at k;refine⟨λh l m=>h=[.ref p]/\l=H/\m=Q,λn s σ l Y us m I C ⟨J,L,N⟩=>?_,rfl,rfl,rfl⟩;subst J L N;obtain⟨u,rfl,T⟩:=vals1 C;cases T;obtain⟨a,f,⟨U,nL,t,cL,dL,sL⟩,zL⟩:=I.list B;have w:=DN k f;have x:s.heap.IsList p a.toArray:=⟨U,t,cL,nL,sL⟩;refine call_any_walk (aDE x ⟨s.heap.objs.size,_,_,a.toArray.size,_,_,λi=>bs.getD i false,rfl,Walks.list (by simp[I.ok.hd y]) s.heap.objs.size p (aAm<|aAf t) a.toArray,⟨⟨_,aAq _ rfl,rfl,rfl⟩,x.push _⟩,λi v s' Q E c d=>?_,λh' tk kp=>?_⟩)
   .have c:a.toArray[i]?=some v:=c;have d:Q (bs.getD i false) s':=d;rw[aBY,w,aAG]at c;cases g:bs[i]? with
    |none=>rw[g]at c;cases c
    |some b=>rw[g]at c;have:aDn b=v:=aAn c;subst this;rw[aAo,g]at d;exact aBH d
   .have I2:=I.kept (h':=h') (t':=tk) λb o e=>kp b o (by simp only[aBh];exact aAm (aAf e)) (aAc _ e);refine⟨.bl (bs.any id),_,I2,?_,q _ _ (Same.refl _) .bl⟩;show aDn _=aDn _;rw[aAp,w,aAj,HS]
end
def LJ (ds:List D)(i j:Nat):Bool:=HT.lexLt (flat<|ds.getD i .non) (flat<|ds.getD j .non)
def LY:List D->R D
 |[.lst a]=>if a≠[]/\a.all N4=true then .ok (a.getD (dq (LJ a) (a.length-1)) .non)else .bad
 |_=>.bad
def kX (h:df)(its:List af):List (bc×Obj):=its.filterMap λv=>match v with
 |.ref b=>(h.get? b).map λo=>(b,o)
 |_=>none
def nH (a:aDz b∈its)(e:h.get? b=some o):(b,o)∈kX h its:=
 aBZ.mpr ⟨_,a,by show(h.get? b).map _=_;rw[e];rfl⟩
def O6 (a:p∈kX h its):h.get? p.1=some p.2:=by
 obtain⟨v,_,e⟩:=aBZ.mp a;cases v with
 |ref b=>
  have e:(h.get? b).map (λo=>(b,o))=some p:=e;cases q:h.get? b with
  |none=>rw[q]at e;cases e
  |some o=>rw[q]at e;cases e;exact q
 |_=>cases e
section
def VZ (hc:X.calm=true)(hu:X.A.units+300<ee):aU X (.builtin "min") LY:=by
 intro H O vs ds Q fr r q;match ds,q with
 |[.lst Y],q=>
  obtain⟨v,rfl,z⟩:=BF r;obtain⟨p,ws,rfl,h1,h2⟩:=z.aa5;simp only[LY]at q;by_cases x:Y≠[]/\Y.all N4=true
  .rw[kd x]at q;obtain⟨ag,x⟩:=x;have pt:∀d∈Y,N4 d=true:=aBp.mp x;refine⟨λvs N Q'=>vs=[.ref p]/\N=H/\Q'=Q,λpins s σ N xs' us Q' I rv z9=>?_,rfl,rfl,rfl⟩;obtain⟨e1,e2,e3⟩:=z9;subst e1 e2 e3;obtain⟨u,rfl,ru⟩:=vals1 rv;cases ru;obtain⟨f,y,⟨oL,nL,T,cL,dL,sL⟩,zL⟩:=I.list h1;have hl:s.heap.IsList p f.toArray:=⟨oL,T,cL,nL,sL⟩;have st:u5 X.K N O f Y:=u5.of y h2;have l:f.toArray.size=Y.length:=by rw[aAp,<-y.length,h2.length]
   have pf:0<Y.length:=aDi.mpr ag;have W:=MM.walks_more (Walks.list (prog:=X.prog) (w:=X.w) (A:=X.A.in1) (by simp[I.ok.hd hc]) s.heap.objs.size p (aAm<|aAf T) f.toArray) (kX s.heap f)
    (λq t=>by simp only[aBh];exact aAm (aAf<|O6 t))
   refine MM.call_minH (aDE hl ⟨s.heap.objs.size,_,_,_,f.toArray.size,_,_,λh=>∀q∈kX s.heap f,h.get? q.1=some q.2,LJ Y,rfl,W.toS,⟨⟨⟨_,aAq _ rfl,rfl,rfl⟩,hl.push _⟩,λq t=>aAc _ (O6 t)⟩,λb k=>?_,by rw[l];exact pf,λi s h=>h.2,λi j vi vj m Q2 E2 hh B hj t=>?_,λv m E J=>?_⟩)
   .rw[aBt];rcases aAN.mp k with k|k
    .rcases aAd.mp k with rfl|k
     .exact aDj _
     .rcases aAd.mp k with rfl|k
      .exact aBo (aAf T)
      .cases k
    .obtain⟨q,t,rfl⟩:=aAl.mp k;exact aBo (aAf<|O6 t)
   .have one:∀i v,f.toArray[i]?=some v->∃b a,v=.ref b/\IsTup m.heap b a/\IntsAre a.toList (flat<|Y.getD i .non):=λi v B=>by
     rw[aBY]at B;obtain⟨d,L,w,U,rp⟩:=B6 st B;have nu:Y.getD i .non=d:=by rw[aAo,L];rfl
     rw[nu];have C:=pt d (aAk L);obtain⟨b,a,rfl,⟨o,g,c,n,dd⟩,hia⟩:=G0 C (N8 I rp (A6 C) U);exact⟨b,a,rfl,⟨o,hh _ (nH (aAk B) g),c,n,dd⟩,hia⟩
    obtain⟨b,a,rfl,t1,i1⟩:=one i vi B;obtain⟨b',uf,rfl,t2,i2⟩:=one j vj hj;exact HT.lt_tupInts t1 t2 i1 i2 (by rw[t6];lia) t
   .have E:f.toArray[dq (LJ Y) (f.toArray.size-1)]?=some v:=E;rw[aBY,l]at E;obtain⟨d,L,w,U,rp⟩:=B6 st E;have nu:Y.getD (dq (LJ Y)<|Y.length-1) .non=d:=by rw[aAo,L];rfl
    rw[nu]at q;have I2:=I.kept (h':=m.heap) (t':=m.toks) λb o e=>J.heap b o (by simp only[aBh];exact aAm (aAf e)) (aAc _ e);have es:m={s with heap:=m.heap,toks:=m.toks}:=by have g1:=J.gens;have g2:=J.drawn;have g3:=J.os;cases m;simp only at g1 g2 g3;subst g1 g2 g3;rfl
    rw[es];exact⟨w,_,I2,U,q _ _ (Same.refl _) rp⟩
  .rw[kz x]at q;exact q.elim
def VV (h:QC ds)(n:Nat)(a:n<ds.length):dq (LJ ds) n=0:=by
 induction n with
 |zero=>rfl
 |succ k b=>
  have e:=b (by lia);unfold dq;rw[e];have:LJ ds (k+1) 0=false:=by
   unfold LJ;rw[aAo,aAo,aAg a,aAg (by lia:0<ds.length)];have:=aCm.mp h 0 (k+1) (by lia) a (by lia);cases q:HT.lexLt (flat<|(some ds[k+1]).getD .non) (flat ((some (ds[0]'(by lia))).getD .non))with
   |false=>rfl
   |true=>have z:HT.lexLt (flat (ds[0]'(by lia))) (flat (ds[0]'(by lia)))=true:=TS.lex_trans _ _ _ this q;rw[TS.lex_irrefl]at z;cases z
  rw[this];rfl
end
end
section
variable [Tabs]
end
end DL
namespace DL
open PySem PySem.Spec L2
open PyProof.Rows hiding St sub_tuple_tuple sub_list_list sub_tuple_list sub_list_tuple
section
open PySem.MeetsSeq PySem.MeetsSeq2 PySem.MeetsSeq3 PySem.AutoSeq1
def RE (l:bc)(Y:Array af)(n:Nat)(b:bc)(a:Array af)(n2:Nat)(sl:Array (Option af))(f:¬(!Y.isEmpty&&aCZ (Y.size+a.size))=true)(h:Y.size<=sizeLine)(k:Y.size+a.size<=sizeLine+1):
  Meets (Builtin.«list.extend» ⟨[.ref l,.ref b],[]⟩) (λ_ R s=>s.heap.get? l=some ⟨.type "list",none,.seq Y n,#[]⟩/\s.heap.get? b=some ⟨.type "list",none,.seq a n2,sl⟩/\R (.ok (.ret Value.none)) {s with heap:=s.heap.update l (aBG λx=>x++a),toks:=s.toks}):=
 .of_wp λc w A R s q=>by
  obtain⟨p,g,d,r,os⟩:=s;obtain⟨e,m,o⟩:=q;have t:=idx_int;have u:=sub_tuple_tuple;have v:=sub_list_list;have y:=sub_tuple_list;have B:=sub_list_tuple;have z:(Y++a).size<=sizeLine+1:=by rw[Array.size_append];exact k
  wp_walk using(aBD e rfl (hz:=h) (_hz':=z)),aDA e,aDA m
  exact⟨_,rfl,o⟩
end
section
def mj (K:lr):V->List V->Hp->VK->Prop:=λx c H Q=>∃l b Y a,x=.ref l/\c=[.ref b]/\H l=some (.lst Y)/\K8 K H b a/\Y.length+a.length<=sizeLine/\Q .non (upd H l<|.lst (Y++a))
def fw:MtM X "list.extend" (mj X.K):=by
 intro g s σ H x O v T Q I w y h;obtain⟨l,b,Y,U,rfl,rfl,k,A,hz,q⟩:=h;cases w;obtain⟨u,rfl,B⟩:=y.one;cases B;obtain⟨z,a,n,r,hl,e⟩:=I.af2 k;obtain⟨d,m,⟨⟨C,sv,E,J⟩,L,N,o,p,t⟩,z2⟩:=I.list A;simp only at o p t;subst o p t;have lb:=m.length;have f:a.toArray.size+d.toArray.size<=sizeLine:=by rw[aAp,aAp];lia
 have c:¬(!a.toArray.isEmpty&&aCZ (a.toArray.size+d.toArray.size))=true:=by rw[QR f,aGg];exact aAQ
 refine call_meets F.slot_list_extend ⟨_,e,rfl⟩ F.entry_list_extend (F.args_list_extend_2 _ _) (RE l a.toArray n b d.toArray L J c (by rw[aAp];lia) (by lia)) ⟨e,N,?_⟩;refine⟨.non,_,I.af6 (its':=a++d) k e (by simp) (r.append m) ?_,rfl,q⟩;rw[aAD]
 lia
end
variable [Tabs]
section
def DJ (i:Nat)(B:PD X e f)(I:X.N[i]?=some x:=by rfl)(J:xU X.env.scope x:=by first|exact aCy rfl|exact aBP (aCy rfl)|exact aBP (aBP rfl))(L:(x==lM)=false:=by decide)(Q:(x==ma)=false:=by decide)(T:ia (.Name x p) "extend" X.env (ek (.Name x p) X.env)=ek (.Name x p) X.env:=by rfl)(xa:((d3 g (a9 [e] X.env)).all (λx=>!x.1)&&(backToKw g (keywordEach [] X.env)).all (λx=>x.1.isSome)
   &&decide ([e].length+([]:List Keyword).length+(if([]:List Keyword).isEmpty then 0 else 1)<30))=true:=by rfl) (dg:(b.endLine==g.line)=true:=by rfl) (s:a9 [e] X.env=(false,ek e X.env)::a9 [] X.env:=by rfl) (kn:(d3 g (a9 [] X.env)).any (·.1)=false:=by rfl) (xf:fh (.Call (.Attribute (.Name x p) "extend" b) [e] [] g) none n.line X.env=pure false:=by rfl):
  mG X (.Expr (.Call (.Attribute (.Name x p) "extend" b) [e] [] g) n) (λρ=>(f ρ).bind (ZX i ρ)):=λH9 O0=>
 yC (mT (XE PySem.F.plainAttrs_list PySem.F.slot_list_extend PySem.F.type_list_extend fw (L8 I J L Q) (i7 B p5 s) T xa dg s kn) xf) λD σ H O ρ E fk q=>by
 cases k:f ρ with
 |ok d=>
  rw[k,R.aa0]at q;unfold ZX at q;cases h:ρ[i]? with
  |none=>rw[h]at q;exact aAi q
  |some t=>
   rw[h]at q;cases t with
   |x C=>exact aAi q
   |c m φ=>exact aAi q
   |d U=>exact aAi q
   |no=>exact aAi q
   |v d=>exact aAi q
   |o Y=>
    cases d with
    |lst ys=>
     dsimp only at q;split at q
     .rename_i hz;obtain⟨a,u,w,h2,h3,y,z⟩:=E.own i Y h;refine⟨_,w,.inl ⟨rfl,u,K8.of y⟩,H9,O0,O,ρ,E,?_⟩;show KB X H O ((f ρ).bind λd=>(R.ok []).bind λds=>.ok (d::ds)) _;rw[k];intro us H1 l r;cases r with
      |cons r rn=>
       cases rn;have E1:=E.grow l;cases r with
       |lst hb nb A=>refine⟨a,_,u,_,rfl,rfl,l _ _ y,hb,by rw[z.length,A.length];exact hz,?_⟩;obtain⟨E2,k2⟩:=E1.write h w ((z.same l).append A);exact q σ _ O E2 fk ((Kp.of l).trans k2)
     .exact aAi q
    |_=>exact aAi q
 |ex x=>
  rw[k]at q;cases h:ρ[i]? with
  |none=>exact(q H E.same).elim
  |some t=>exact(q H E.same).elim
 |bad=>rw[k]at q;exact aAi q
end
end DL
namespace TS
open PySem PyProof.Rows HT
section
def GE (A:cv)(s:bb)(x y:af)(b:Bool):Prop:=∀(a:cp) (w:cy) (E:B4) (Q:xC),Q b s->ai (be a w) A (oneLt' false x y) Q E s
def lt_two {Q:xC}(e:IsTup s.heap l #[p,r])(g:IsTup s.heap b #[a,c])(h:f=false)(k:SeqAt.EqAt A s p a e1)(m:e1=false->GE A s p a b1)(t:e1=true->SeqAt.EqAt A s r c e2)(u:e1=true->e2=false->GE A s r c b2)(q:Q (bif e1 then(bif e2 then false else b2)else b1) s):ai (be prog w) A (keyLt' (tupK f) (.ref l) (.ref b)) Q E s:=by
 obtain⟨o,v,z,n,x⟩:=e;obtain⟨B,y,C,H,d⟩:=g;subst h;rw[tL];refine aAa (aEp v x<|aAa<|aEp y d ?_);show ai _ _ (forIn [((p,a),0),((r,c),1)] _ _>>=_) _ _ _;rw[aDb];refine aAa (aAa ?_);refine aAa (k _ _ _ _ ?_);cases e1 with
 |false=>refine aAa (m rfl _ _ _ _ ?_);exact aAb (aAb<|aAb q)
 |true=>
  refine aAb ?_;dsimp only;rw[aDb];refine aAa ?_;refine aAa (t rfl _ _ _ _ ?_);cases e2 with
  |false=>refine aAa (u rfl rfl _ _ _ _ ?_);exact aAb (aAb<|aAb q)
  |true=>refine aAb ?_;dsimp only;rw[aEk];exact aAb (aAb q)
def PR (h:∀(prog:cp) (w:cy) (E:B4) (Q:B4),Q (.bool b) s->ai (be prog w) A (i5 .Lt x y) Q E s):GE A s x y b:=λprog w E Q q=>by rw[oneLt'_eq];simp only[aAt,if_false];exact aAa (h prog w _ _<|aBH q)
def oneLt_tup (c:IsTup s.heap l items)(d:IsTup s.heap b e)(f:IntsAre items.toList ns)(g:IntsAre e.toList h)(k:A.units<ee):GE A s (.ref l) (.ref b) (HT.lexLt ns h):=
 PR λa w E Q q=>HT.lt_tupInts c d f g k q
end
end TS
namespace DL
open PySem PySem.Spec L2
open PyProof.Rows hiding St
section
def wH (k:D->List Int)(d:D):List D->List D
 |[]=>[d]
 |x::Y=>if HT.lexLt (k d) (k x)=true then d::x::Y else x::wH k d Y
def cD (k:D->List Int)(ds:List D):List D:=ds.foldr (wH k) []
def gT (k:D->List Int)(ds:List D):Prop:=ds.Pairwise λx y=>HT.lexLt (k x) (k y)=true
theorem kK (k:D->List Int)(d:D):∀Y:List D,(wH k d Y).Perm (d::Y)
 |[]=>.refl _
 |x::Y=>by
  unfold wH;split
  .exact .refl _
  .exact((kK k d Y).cons x).trans (.swap d x Y)
theorem D1 (k:D->List Int):∀ds:List D,(cD k ds).Perm ds
 |[]=>.refl _
 |d::ds=>(kK k d (cD k ds)).trans ((D1 k ds).cons d)
theorem AK:∀{Y:List D},gT k Y->(∀x∈Y,k x≠k d)->gT k (wH k d Y)
 |[],_,_=>aDW _ _
 |x::Y,h,n=>by
  have b:=aAx.mp h;unfold wH;split
  .rename_i lt;refine aAx.mpr ⟨λy a=>?_,h⟩;rcases aAd.mp a with rfl|a
   .exact lt
   .exact TS.lex_trans _ _ _ lt (b.1 y a)
  .rename_i c;refine aAx.mpr ⟨λy a=>?_,AK b.2 λz e=>n z (.tail _ e)⟩;rcases aAd.mp ((kK k d Y).mem_iff.mp a)with rfl|a
   .cases q:HT.lexLt (k x) (k y)with
    |true=>rfl
    |false=>exact absurd (TS.lex_total _ _ q (by simpa using c)) (n x<|.head _)
   .exact b.1 y a
theorem aR:∀{ds:List D},(ds.map k).Nodup->gT k (cD k ds)
 |[],_=>.nil
 |d::ds,h=>by rw[aAz,aAF]at h;refine AK (aR h.2) λx a e=>h.1 ?_;rw[<-e];exact aBA ((D1 k ds).mem_iff.mp a)
theorem aF:∀{Y a:List D},gT k Y->gT k a->Y.Perm a->Y=a
 |[],a,_,_,p=>(List.nil_perm.mp p).symm
 |x::Y,[],_,_,p=>by have:=p.length_eq;simp at this
 |x::Y,y::a,f,g,p=>by
  have d:=aAx.mp f;have e:=aAx.mp g;have b:x=y:=by
   rcases aAd.mp (p.mem_iff.mp<|.head _)with q|q
   .exact q
   .rcases aAd.mp (p.mem_iff.mpr<|.head _)with c|c
    .exact c.symm
    .have:=TS.lex_trans _ _ _ (e.1 x q) (d.1 y c);rw[TS.lex_irrefl]at this;cases this
  subst b;rw[aF d.2 e.2 ((List.perm_cons x).mp p)]
def GG [Tabs]{R:af->D->Prop}{key:af->List Int}{k:D->List Int}{a:List af}{ds:List D}(st:Paired R a ds)(c:a.Pairwise λx y=>HT.lexLt (key y) (key x)=false)(p:(ds.map k).Nodup)(f:∀u d,R u d->d∈ds->key u=k d):gT k ds:=by
 induction st with
 |nil=>exact .nil
 |@cons u d a ds r t q=>
  have g:=aAF.mp p;have m:=aAx.mp c;refine aAx.mpr ⟨λe s=>?_,q m.2 g.2 λu d h v=>f u d h (.tail _ v)⟩;obtain⟨j,b,rfl⟩:=aBj s;have n:j<a.length:=by rw[t.length];exact b
  obtain⟨A,o,w⟩:=B6 t (aAg n);rw[aAg b]at o;cases o;have l:=m.1 a[j] (aBV n);rw[f _ _ w (.tail _ (aBV b)),f u d r (.head _)]at l;cases z:HT.lexLt (k d) (k ds[j])with
  |true=>rfl
  |false=>exact absurd (aAl.mpr ⟨ds[j],aBV b,(TS.lex_total _ _ z l).symm⟩) g.1
def kj:D->Bool
 |.tup [p,.lst _]=>N4 p
 |_=>false
def S5:D->List Int
 |.tup (p::_)=>flat p
 |_=>[]
def fx (h:kj d=true):∃p r,d=.tup [p,.lst r]/\N4 p=true/\S5 d=flat p:=by
 unfold kj at h;split at h
 .exact⟨_,_,rfl,h,rfl⟩
 .cases h
def zy:D->R (List D)
 |.lst a=>if a.all kj=true/\(a.map S5).Nodup/\a.length<=63 then .ok (cD S5 a)else .bad
 |_=>.bad
variable [Tabs]
def FV (h:df)(u:af)(l:List Int):Prop:=∃b p r d,u=.ref b/\IsTup h b #[p,r]/\N4 d=true/\HV h p d/\flat d=l
def FV.inj (x:FV h u l)(y:FV h u m):l=m:=by obtain⟨b,p,r,d,rfl,⟨o,g,_,n,q⟩,_,s,rfl⟩:=x;obtain⟨v,w,z,A,e,⟨B,c,_,C,f⟩,_,a,rfl⟩:=y;cases e;rw[g]at c;cases c;rw[q]at f;injection f with t _;have k:=ll aFR t;simp only[aEe]at k;obtain⟨rfl,_⟩:=k;rw[HV.inj s a]
def JI (h:df) (u:af):List Int:=open Classical in if p:∃l,FV h u l then p.choose else[]
def iV (x:FV h u l):JI h u=l:=by unfold JI;rw[dif_pos ⟨l,x⟩];exact FV.inj (Exists.choose_spec (⟨l,x⟩:∃l,FV h u l)) x
section
def LV (I:Inv X c σ H s)(r:Rep X.K H O v d)(h:kj d=true)(f:RelV v u):FV s.heap u (S5 d):=by
 obtain⟨p,ring,rfl,e,g⟩:=fx h;cases r with
 |tup q a=>
  cases f;obtain⟨k,b,l,_⟩:=I.tuple q;cases a with
  |cons m a=>
   cases a with
   |cons n a=>
    cases a;cases b with
    |cons v1 b=>
     cases b with
     |cons o b=>cases b;exact⟨_,_,_,p,rfl,l,e,N8 I m (A6 e) v1,g.symm⟩
end
section
def DU (ha:PB X e f)(hh:X.calm=true)(hu:X.A.units+300<ee)(hg:Gl X "sorted":=by rfl)(hm:X.mg "sorted"=none:=by assumption)(hv:dm "sorted"=some (.builtin "sorted"):=by decide+kernel)(he:a9 [e] X.env=(false,ek e X.env)::a9 [] X.env:=by rfl)(bh:(d3 pos (a9 [] X.env)).any (·.1)=false:=by rfl):
  PF X (.Call (.Name "sorted" p) [e] [] pos) (λρ=>(f ρ).bind zy):=by
 refine uI λpins s σ H Q I H9 O0 O ρ E q=>?_;dsimp only at q;refine aAR (J8 I hg hm hv ?_ (by decide) (by decide));have mh:PA X [e] _:=G2 ha Z7 he;refine aBx (E9 (mh pos pins s σ H (λvs H1=>∃v t,vs=[v]/\f ρ=.ok (.lst t)/\Same H H1/\B5 X.K H1 O v (.lst t)) I ⟨H9,O0,O,ρ,E,?_⟩) λus J z9=>?_) he bh
 .cases e1:f ρ with
  |ex z=>rw[e1]at q;exact q
  |bad=>rw[e1]at q;exact q.elim
  |ok d=>
   rw[e1,R.aa0]at q;cases d with
   |lst t=>exactλv H1 J r1=>⟨v,t,rfl,rfl,J,r1⟩
   |_=>exact aAi q
 .obtain⟨vs,H1,I1,r1,v,t,ev,ef,sm,rb⟩:=z9;subst ev;rw[ef,R.aa0]at q;obtain⟨a,ws,rfl,hS,rr⟩:=rb.aa5;obtain⟨u,rfl,ru⟩:=vals1 r1;cases ru;obtain⟨m,rv,⟨oL,nL,gL,cL,dL,sL⟩,zL⟩:=I1.list hS;have hl:J.heap.IsList a m.toArray:=⟨oL,gL,cL,nL,sL⟩;simp only[zy]at q;by_cases hc:t.all kj=true/\(t.map S5).Nodup/\t.length<=63
  .rw[kd hc]at q;obtain⟨og,nd,rf⟩:=hc;have fc:∀d∈t,kj d=true:=aBp.mp og;have st:u5 X.K H1 O m t:=u5.of rv rr;have hlen:m.length=t.length:=st.length;have B:∀u∈m,∃i d,m[i]?=some u/\t[i]?=some d/\FV J.heap u (S5 d):=λu hu=>by obtain⟨i,hi,rfl⟩:=aBj hu;obtain⟨d,Y,w,lh,rp⟩:=B6 st (aAg hi);exact⟨i,d,aAg hi,Y,LV I1 rp (fc d<|aAk Y) lh⟩
   have keq:∀u∈m,∀u'∈m,JI J.heap u=JI J.heap u'->u=u':=λu hu u' av e=>by
    obtain⟨i,d,hi,Y,fv⟩:=B u hu;obtain⟨j,d',hj,nu,fv'⟩:=B u' av;rw[iV fv,iV fv']at e;have eij:i=j:=by obtain⟨li,ei⟩:=aAy.mp Y;obtain⟨lj,ej⟩:=aAy.mp nu;refine(List.getElem_inj (xs:=t.map S5) (i:=i) (j:=j) (h₀:=by simpa using li) (h₁:=by simpa using lj) nd).mp ?_;rw[aEx,aEx,ei,ej];exact e
    subst eij;rw[hi]at hj;cases hj;rfl
   refine TS.sorted_keys (vs:=m) (f:=false) (key:=JI J.heap) (C:=λs'=>∃h',s'={J with heap:=h'}/\∀b o,J.heap.get? b=some o->h'.get? b=some o)
    (λ{Q'} hq=>collect_list hl (hq _ ⟨_,rfl,λb o e=>?_⟩) (by rw[hlen];exact aAr rf (by decide)))
    (λs' ⟨h',U,k⟩ s6 k6 x hx y hy prog w A E hA {Q} qq=>?_) (λh2 s' ⟨h',U,k⟩ s6 k6 A {Q} qq=>?_) (by rw[hlen];lia) λs' gm h' l ⟨h1,U,k⟩ pm srt k2 hl ⟨n,gl⟩=>?_
   .exact(aAw _ _<|aCk<|aAm<|aAf e).trans (aAc _ e)
   .subst U;have kk:∀b o,J.heap.get? b=some o->s6.heap.get? b=some o:=λb o e=>k6 b o (k b o e);obtain⟨i,d,hi,Y,fv⟩:=B x hx;obtain⟨j,d',hj,nu,fv'⟩:=B y hy;have kx:=iV fv;have ky:=iV fv';have eqk:=keq x hx y hy;rw[kx,ky]at qq;rw[kx,ky]at eqk;obtain⟨b,p1,r1,d1,rfl,⟨o,g,c,n,dd⟩,N,hv1,e1⟩:=fv;obtain⟨b',p2,r2,d2,rfl,⟨o',g',c',n',zv⟩,hp2,hv2,e2⟩:=fv';have L:HV s6.heap p1 d1:=hv1.keeps λb o e _=>kk b o e;have hv2':HV s6.heap p2 d2:=hv2.keeps λb o e _=>kk b o e;have hA':A.units+8<ee:=by lia
    obtain⟨c1,i1,rfl,t1,ia1⟩:=G0 N L;obtain⟨c2,i2,rfl,t2,ia2⟩:=G0 hp2 hv2';rw[<-e1,<-e2]at qq eqk;refine TS.lt_two (e1:=u7 d1 d2) (e2:=true) (b1:=HT.lexLt (flat d1) (flat d2)) (b2:=false) ⟨o,kk _ _ g,c,n,dd⟩ ⟨o',kk _ _ g',c',n',zv⟩ rfl (sJ L hv2' (by have:=mY N;lia)) (λ_=>TS.oneLt_tup t1 t2 ia1 ia2 (by lia)) (λeq=>?_) (λ_ z=>by cases z) ?_
    .have ed:=bA (A6 N) (A6 hp2) eq;have er:=eqk (by rw[ed]);cases er;rw[g]at g';cases g';rw[dd]at zv;injection zv with e3 _;have e4:=ll aFR e3;simp only[aEe]at e4;rw[e4.2.1];exact aEb _
    .cases z:u7 d1 d2 with
     |false=>exact qq
     |true=>have ed:=bA (A6 N) (A6 hp2) z;rw[ed,TS.lex_irrefl]at qq;exact qq
   .subst U;have kk:∀b o,J.heap.get? b=some o->s6.heap.get? b=some o:=λb o e=>k6 b o (k b o e);have sg:∀x∈m,∃p,∃b r,x=.ref b/\IsTup s6.heap b r/\r[0]?=some p/\s6.TypeIs p "tuple":=λx hx=>by obtain⟨i,d,hi,Y,fv⟩:=B x hx;obtain⟨b,p1,r1,d1,rfl,⟨o,g,c,n,dd⟩,N,hv1,e1⟩:=fv;have L:HV s6.heap p1 d1:=hv1.keeps λb o e _=>kk b o e;obtain⟨c1,i1,rfl,⟨o1,g1,cc1,_⟩,ia1⟩:=G0 N L;exact⟨_,b,_,rfl,⟨o,kk _ _ g,c,n,dd⟩,rfl,⟨o1,g1,cc1⟩⟩
    obtain⟨gf,hgf⟩:∃gf:af->af,∀x∈m,∃b r,x=.ref b/\IsTup s6.heap b r/\r[0]?=some (gf x)/\s6.TypeIs (gf x) "tuple":=by refine⟨λx=>open Classical in if z:x∈m then(sg x z).choose else .none,λx hx=>?_⟩;dsimp only;rw[dif_pos hx];exact(sg x hx).choose_spec
    exact TS.kind_tuples (T:= "tuple") gf hgf (λz=>by rw[z]at h2;simp at h2) (by decide) qq
   .subst U;obtain⟨ml,p2,km⟩:=Y4 pm st;have hk:∀u d,(∃v,RelV v u/\Rep X.K H1 O v d)->d∈t->JI J.heap u=S5 d:=by rintro u d ⟨v,rv,rp⟩ Y;exact iV (LV I1 rp (fc d Y) rv)
    have rh:(ml.map S5).Nodup:=(p2.map S5).nodup_iff.mpr nd;have uh:gT S5 ml:=GG (R:=λu d=>∃v,RelV v u/\Rep X.K H1 O v d) km srt rh λu d h Y=>hk u d h (p2.mem_iff.mp Y);have e2:ml=cD S5 t:=aF uh (aR nd) (p2.trans (D1 S5 t).symm);subst e2;obtain⟨wv,lh,lg⟩:=u5.ac0 km;have I2':=I1.kept (h':=h1) (t':=J.toks) k;have I3:=I2'.laid (a:=l) (o:=.lst wv) (h':=h') (t':=J.toks) k2 hl ⟨by rw[lg.length,(D1 S5 t).length_eq];exact aAr rf (by decide),gm,n,lh,gl⟩;exact⟨.ref l,_,I3,rfl,q wv _ l sm (I2'.hok.fresh hl) lg⟩
  .rw[kz hc]at q;exact q.elim
end
end
section
def qP:List Int->Int
 |[]=>0
 |a::l=>l.foldl max a
def rQ:List Int->Int
 |[]=>0
 |a::l=>l.foldl min a
theorem T9:∀(l:List Int) (a:Int),(l.foldl max a=a\/l.foldl max a∈l)/\a<=l.foldl max a/\∀b∈l,b<=l.foldl max a
 |[],a=>⟨.inl rfl,aCj _,λb h=>by cases h⟩
 |c::l,a=>by
  obtain⟨d,g,f⟩:=T9 l (max a c);rw[aDx];refine⟨?_,by lia,λb e=>?_⟩
  .rcases d with d|d
   .rw[d];rcases aGE a c with q|q
    .exact .inr (by rw[Int.max_eq_right q];exact .head _)
    .exact .inl (Int.max_eq_left q)
   .exact .inr (.tail _ d)
  .rcases aAd.mp e with rfl|e
   .lia
   .exact f b e
theorem T7:∀(l:List Int) (a:Int),(l.foldl min a=a\/l.foldl min a∈l)/\l.foldl min a<=a/\∀b∈l,l.foldl min a<=b
 |[],a=>⟨.inl rfl,aCj _,λb h=>by cases h⟩
 |c::l,a=>by
  obtain⟨d,g,f⟩:=T7 l (min a c);rw[aDx];refine⟨?_,by lia,λb e=>?_⟩
  .rcases d with d|d
   .rw[d];rcases aGE a c with q|q
    .exact .inl (Int.min_eq_left q)
    .exact .inr (by rw[Int.min_eq_right q];exact .head _)
   .exact .inr (.tail _ d)
  .rcases aAd.mp e with rfl|e
   .lia
   .exact f b e
def AN (h:ns≠[]):qP ns∈ns:=by
 cases ns with
 |nil=>exact absurd rfl h
 |cons a l=>
  rcases(T9 l a).1 with q|q
  .show l.foldl max a∈_;rw[q];exact .head _
  .exact .tail _ q
def vK (h:a∈ns):a<=qP ns:=by
 cases ns with
 |nil=>cases h
 |cons b l=>
  rcases aAd.mp h with rfl|h
  .exact(T9 l a).2.1
  .exact(T9 l b).2.2 a h
def zO (h:ns≠[]):rQ ns∈ns:=by
 cases ns with
 |nil=>exact absurd rfl h
 |cons a l=>
  rcases(T7 l a).1 with q|q
  .show l.foldl min a∈_;rw[q];exact .head _
  .exact .tail _ q
def uS (h:a∈ns):rQ ns<=a:=by
 cases ns with
 |nil=>cases h
 |cons b l=>
  rcases aAd.mp h with rfl|h
  .exact(T7 l a).2.1
  .exact(T7 l b).2.2 a h
def FJ:List D->R D
 |[.lst Y]=>match jM Y with
  |some a=>if a≠[]then .ok (.int (qP a))else .bad
  |none=>.bad
 |_=>.bad
def FC:List D->R D
 |[.lst Y]=>match jM Y with
  |some a=>if a≠[]then .ok (.int (rQ a))else .bad
  |none=>.bad
 |_=>.bad
variable [Tabs]
section
def vE (c:IntsAre its ns)(e:its.toArray=intItems b):∀i,ka b i=ns.getD i 0:=λi=>by have a:=nums_intItems b;rw[<-e]at a;have d:=c.numsOf;rw[show its.toArray.toList=its from rfl,d]at a;rw[a];unfold ka;rw[aAo,aAG,<-aAC]
def GT (B:X.calm=true):aU X (.builtin "max") FJ:=by
 intro H O h C Q fr r q;match C,q with
 |[.lst Y],q=>
  obtain⟨v,rfl,z⟩:=BF r;obtain⟨p,ws,rfl,k,l⟩:=z.aa5;simp only[FJ]at q;cases e:jM Y with
  |none=>rw[e]at q;exact q.elim
  |some c=>
   rw[e]at q;dsimp only at q;by_cases d:c≠[]
   .rw[kd d]at q;rw[kW e]at l;rw[kA l]at k;refine⟨λh m n=>h=[.ref p]/\m=H/\n=Q,λo s σ m E us n I J ⟨L,N,T⟩=>?_,rfl,rfl,rfl⟩;subst L N T;obtain⟨u,rfl,U⟩:=vals1 J;cases U;obtain⟨its,r',pl,hz⟩:=I.list k;have f:=DL.V6 r';obtain⟨a,g⟩:=f.allInts.items;have w:=pl.isList;rw[g]at w;have x:a.size=c.length:=by have:=ll Array.size g;rw[aAp,f.length]at this;simpa[intItems]using this.symm
    have pf:0<c.length:=aDi.mpr d;refine max_intList (I.ok.hd B) w (by lia) λv h' tk hv hk=>?_;obtain⟨t,rfl⟩:=intItems_at hv;obtain⟨g1,y⟩:=argBest_gt (ka a) (a.size-1);have em:ka a (dq (λi j=>decide (ka a i>ka a j))<|a.size-1)=qP c:=by
     generalize dq (λi j=>decide (ka a i>ka a j)) (a.size-1)=b at g1 y;have m1:ka a b∈c:=by rw[vE f g,aAo,aAg (by lia)];exact aBV _
     have m2:=vK m1;obtain⟨j,hj,ej⟩:=aBj (AN d);have A:=y j (by lia);rw[vE f g j,aAo,aAg hj]at A;have m4:c[j]<=ka a b:=A
     lia
    rw[em];exact⟨.int (qP c),_,I.kept hk,⟨t,rfl⟩,q _ _ (Same.refl _) .int⟩
   .rw[kz d]at q;exact q.elim
def FE (B:X.calm=true):aU X (.builtin "min") FC:=by
 intro H O h C Q fr r q;match C,q with
 |[.lst Y],q=>
  obtain⟨v,rfl,z⟩:=BF r;obtain⟨p,ws,rfl,k,l⟩:=z.aa5;simp only[FC]at q;cases e:jM Y with
  |none=>rw[e]at q;exact q.elim
  |some c=>
   rw[e]at q;dsimp only at q;by_cases d:c≠[]
   .rw[kd d]at q;rw[kW e]at l;rw[kA l]at k;refine⟨λh m n=>h=[.ref p]/\m=H/\n=Q,λo s σ m E us n I J ⟨L,N,T⟩=>?_,rfl,rfl,rfl⟩;subst L N T;obtain⟨u,rfl,U⟩:=vals1 J;cases U;obtain⟨its,r',pl,hz⟩:=I.list k;have f:=DL.V6 r';obtain⟨a,g⟩:=f.allInts.items;have w:=pl.isList;rw[g]at w;have x:a.size=c.length:=by have:=ll Array.size g;rw[aAp,f.length]at this;simpa[intItems]using this.symm
    have pf:0<c.length:=aDi.mpr d;refine min_intList (I.ok.hd B) w (by lia) λv h' tk hv hk=>?_;obtain⟨t,rfl⟩:=intItems_at hv;obtain⟨g1,y⟩:=argBest_lt (ka a) (a.size-1);have em:ka a (dq (λi j=>decide (ka a i<ka a j))<|a.size-1)=rQ c:=by
     generalize dq (λi j=>decide (ka a i<ka a j)) (a.size-1)=b at g1 y;have m1:ka a b∈c:=by rw[vE f g,aAo,aAg (by lia)];exact aBV _
     have m2:=uS m1;obtain⟨j,hj,ej⟩:=aBj (zO d);have A:=y j (by lia);rw[vE f g j,aAo,aAg hj]at A;have m4:ka a b<=c[j]:=A
     lia
    rw[em];exact⟨.int (rQ c),_,I.kept hk,⟨t,rfl⟩,q _ _ (Same.refl _) .int⟩
   .rw[kz d]at q;exact q.elim
def KO (K:lr)(mg:cH)(x:Str)(ns:List Int):Prop:=∃a c b n d,mg x=some (.ref a)/\K.lookup a=some ⟨.type "tuple",c,.seq b n,d⟩/\l7 (ns.map V.int) b.toList/\b.size<=sizeLine
omit [Tabs]in
def YL {K:lr}{mg:cH}{x:Str}{a:bc}{b:Option bc}{n:Nat}{sl:Array (Option af)}{i j k:Int}{t u v:Tok}(c:mg x=some (.ref a))(d:K.lookup a=some ⟨.type "tuple",b,.seq #[.int i t,.int j u,.int k v] n,sl⟩):KO K mg x [i,j,k]:=
 ⟨a,b,_,n,sl,c,d,.cons ⟨t,rfl⟩ (.cons ⟨u,rfl⟩ (.cons ⟨v,rfl⟩ .nil)),show 3<=sizeLine by decide⟩
def wY (c:KO X.K X.mg x ns)(b:Gl X x:=by rfl)(d:(x==lM)=false:=by decide):PD X (.Name x e) (WF (.tup (ns.map D.int))):=by obtain⟨a,m,f,n,o,g,h,k,l⟩:=c;exact JT g h k l b d
end
end
section
variable [Tabs]
section
variable{K:lr}
structure FunC (K:PySem.W.Frag)(x qual:Str)(st:Stmt)(f:Addr)(fd:FuncData)(cd:Addr):Prop where
 ex:∃(oc:Value) (od:Option Addr) (kV doc pm:Value) (an:Option Addr) (ct:Value) (osl:Array (Option Value)),
  fd=PySem.W.fnOf x qual (C8 st) (p6 st) (c6 st) .none kV doc pm an (.ref cd) ct/\K.lookup f=some ⟨oc,od,.func fd,osl⟩/\PySem.W.codeIn K (.ref cd) qual=true
 kp:PySem.W.keepIn K (.ref f)=true
omit [Tabs]in
def FunC.fn {x qual:Str}{st:d9}{f:bc}{fd:eQ}{cd:bc}(F:FunC K x qual st f fd cd):Fun K x qual st f fd:=
 let⟨c,d,kV,a,e,g,h,b,k,l,m⟩:=F.ex
 ⟨⟨c,d,kV,a,e,g,.ref cd,h,b,k,l,m⟩,F.kp⟩
omit [Tabs]in
def VE {x qual:Str}{st:d9}{f cd:bc}{h:af}{m d:Option bc}{b:Array (Option af)}{kV a g L ct:af}(l:K.lookup f=some ⟨h,m,.func (PySem.W.fnOf x qual (C8 st) (p6 st) (c6 st) .none kV a g d L ct),b⟩)
  (e:L=.ref cd) (c:PySem.W.codeIn K L qual=true) (k:PySem.W.keepIn K (.ref f)=true):FunC K x qual st f (PySem.W.fnOf x qual (C8 st) (p6 st) (c6 st) .none kV a g d L ct) cd:=by
 subst e;exact⟨⟨h,m,kV,a,g,d,ct,b,rfl,l,c⟩,k⟩
def a1u {x qual:Str}{st:d9}{f cd:bc}{fd:eQ}{N ps:List Str}{k:Nat}{m:List D->R D}{F:Ev->R Out}(l:FunC K x qual st f fd cd)(S:FnScope N ps (c6 st))
  (n:∀(A:cv) (a:List Env) (s:bb) (H:Hp) (E:XK),Room k (A.deeper (envOfC qual (c6 st) s.heap.objs.size f (.ref cd)))->aW (RN P w K mg base N qual (c6 st) f (.ref cd) A a s H E) (p6 st) F)
  (p:∀ds d,ds.length=ps.length->m ds=.ok d->K3 (F (j4 N ds))=.ok d):FnOk P w K mg base sZ (k+1) f fd ps (jz K ps.length m):=by
 obtain⟨oc,od,kV,t,pm,an,ct,u,rfl,v,y⟩:=l.ex;refine XS v y S (by rintro z H Q E ⟨O,ds,d,r,c,_⟩;rw[r.length];exact c) λA a s H z Q E B C=>?_;obtain⟨O,ds,d,r,c,I,J,L,e,q⟩:=C;refine⟨_,uK.nox (n A a s H E B H O),O,_,lI r I J,L,?_⟩;have h:=p ds d c e;cases g:F (j4 N ds)with
 |ok o=>
  rw[g]at h;cases o with
  |rt T=>have b:R.ok T=R.ok d:=h;injection b with b;subst b;exact q
  |nx ρ=>have b:R.ok D.non=R.ok d:=h;injection b with b;subst b;exactλao U O' Y _ _=>q .non U Y.same .non
  |bk ρ=>cases h
  |ct ρ=>cases h
 |ex x=>rw[g]at h;cases h
 |bad=>rw[g]at h;cases h
def VW {x qual:Str}{st:d9}{f cd:bc}{fd:eQ}{N ps:List Str}{k:Nat}{m:List D->R D}{F:Ev->R Out}(b:FunC K x qual st f fd cd)(S:FnScope N ps (c6 st))(c:Binds K fd ps [])(e:mg x=some (.ref f))
  (g:∀(A:cv) (a:List Env) (s:bb) (H:Hp) (E:XK),Room k (A.deeper (envOfC qual (c6 st) s.heap.objs.size f (.ref cd)))->aW (RN P w K mg base N qual (c6 st) f (.ref cd) A a s H E) (p6 st) F)
  (h:∀ds d,ds.length=ps.length->m ds=.ok d->K3 (F (j4 N ds))=.ok d):w9 P w K mg base (k+1) x ps.length m:=
 ⟨f,fd,ps,a1u b S g h,c,b.kp,e⟩
def VR (P:cp)(w:cy)(K:lr)(mg:cH)(base:df)(k c:Nat)(x:Str)(M:D->(List D->R D)->(List D->R D)->R D):Prop:=
 ∃g b a,FnOk P w K mg base sZ k g b a (spF K (KN P w K mg base c 1) M)/\Binds K b a []/\PySem.W.keepIn K (.ref g)=true/\mg x=some (.ref g)/\a.length=3
def VA {x qual:Str}{st:d9}{f:bc}{fd:eQ}{N ps:List Str}{k b:Nat}{M:D->(List D->R D)->(List D->R D)->R D}{F:Ev->R Out}(c:Fun K x qual st f fd)(S:FnScope N ps (c6 st))(e:ps.length=3)(m:Binds K fd ps [])(n:mg x=some (.ref f))
  (o:∀(L:af) (A:cv) (a:List Env) (s:bb) (H:Hp) (E:XK),Room k (A.deeper (envOfC qual (c6 st) s.heap.objs.size f L))->aW (RN P w K mg base N qual (c6 st) f L A a s H E) (p6 st) F)
  (p:∀g h l d,M g h l=.ok d->K3 (F (kZ N (KN P w K mg base b 1) g h l))=.ok d):VR P w K mg base (k+1) b x M:=
 ⟨f,fd,ps,fnF c S e o p,m,c.kp,n,e⟩
end
section
def zH (i:Nat){Φ:(List D->R D)->Hp->(bc->Prop)->bc->Prop}(a:KN X.prog X.w X.K X.mg X.base k n=Φ)(c:HN X (e::es) f)(d:DO f n)(g:Room k X.A)(h:X.N[i]?=some x:=by rfl)(l:xU X.env.scope x:=by first|exact aCy rfl|exact aBP (aCy rfl)|exact aBP (aBP rfl))(m:(x==lM)=false:=by decide)(o:(x==ma)=false:=by decide)(q:a9 (e::es) X.env=(false,ek e X.env)::a9 es X.env:=by rfl)(r:(d3 b (a9 es X.env)).any (·.1)=false:=by rfl):
  PD X (.Call (.Name x p) (e::es) [] b) (callC Φ i f):=by
 subst a;exact OM i c d g h l m o q r
def DX (s:NstOk X k n1)(t:NstOk X k n2)(u:ClosOk X n1 clos1)(v:ClosOk X n2 clos2)(z:∀x b,(x,b)∈clos1++clos2->X.env.cells.lookup x=some b)(B:jG X.mg X.base)(C:X.env.code=.ref c)(E:PySem.W.codeHdIn X.K c H=true)(l:(H,tb)∈Tabs.tbs)(m:(n1.pos,n1.qual)∈tb)(I:(n2.pos,n2.qual)∈tb)(J:∀p∈tb,p.1.line=n1.pos.line->p.1.col=n1.pos.col->p.2=n1.qual)(n:∀p∈tb,p.1.line=n2.pos.line->p.1.col=n2.pos.col->p.2=n2.qual)(L:n1.i≠n2.i)(O:X.N.Nodup)(Q:VR X.prog X.w X.K X.mg X.base T (k+1) x M)(U:Room T X.A)(Y:PD X e f)(ya:∀y,X.fn y=true)(hg:Gl X x:=by rfl)(ib:(x==lM)=false:=by decide)(ze:a9 [e,.Name n1.name h,.Name n2.name a] X.env=(false,ek e X.env)::a9 [.Name n1.name h,.Name n2.name a] X.env:=by rfl)(zu:a9 [.Name n1.name h,.Name n2.name a] X.env=(false,ek (.Name n1.name h) X.env)::a9 [.Name n2.name a] X.env:=by rfl)(o:a9 [.Name n2.name a] X.env=(false,ek (.Name n2.name a) X.env)::a9 [] X.env:=by rfl)(bh:(d3 q (a9 [.Name n1.name h,.Name n2.name a] X.env)).any (·.1)=false:=by rfl):
  aW X [n1.stmt,n2.stmt,.Return (some (.Call (.Name x p) [e,.Name n1.name h,.Name n2.name a] [] q)) r] (λρ=>((f ((ρ.set n1.i .no).set n2.i .no)).bind λd1=>(cN n1.js ((ρ.set n1.i .no).set n2.i .no)).bind λw1=>(cN n2.js ((ρ.set n1.i .no).set n2.i .no)).bind λw2=>M d1 (n1.mm w1) (n2.mm w2)).bind λd=>.ok (.rt d)):=by
 obtain⟨g,gd,ps,FF,hb,hk,hm,h3⟩:=Q;exact IQ s t u v z B C E l m I J n L O FF U hm hk hb h3 Y ya hg ib ze zu o bh
end
end
end DL
namespace DL
open PySem L2
def _root_.L2.Room.ae4 (r:Room k A):A.units+130<ee:=by have:=r.un;lia
def _root_.L2.Room.ad6 (r:Room k A)(h:7<=k):A.units+300<ee:=by have:=r.un;lia
def HW {y:Str}{c:bc}{a:List (Str×bc)}(h:a.lookup y=some c:=by rfl):∀(x:Str) (b:bc),(x,b)∈[(y,c)]++[(y,c)]->a.lookup x=some b:=λx b d=>by
 have:(x,b)=(y,c):=by simpa using d
 injection this with e f;subst e f;exact h
def FH {sc:kb}{fn:List Str}{x:Str}(h:sc.names.lookup x=some .free)(a:(sc.names.all λp=>p.2 !=.free||fn.contains p.1)=true:=by decide+kernel):x∈fn:=by have b:=aBp.mp a _ (PySem.mem_of_lookup h);simpa using b
def FD:d9->Pos
 |.FunctionDef _ _ _ _ _ _ _ _ _ p=>p
 |_=>⟨0,0,0,0⟩
end DL
namespace M
open PySem L2 DL
def vZ:D->Option G.V
 |.tup [.int a,.int b,.int c]=>some ⟨a,b,c⟩
 |_=>none
@[simp]def wD (v:G.V):vZ (vd v)=some v:=rfl
def tR (h:vZ d=some v):d=vd v:=by
 unfold vZ at h;split at h
 .cases h;rfl
 .cases h
def I0:List D->Option (List G.V)
 |[]=>some []
 |d::a=>match vZ d,I0 a with
  |some v,some b=>some (v::b)
  |_,_=>none
@[simp]theorem u4:∀vs:List G.V,I0 (vs.map vd)=some vs
 |[]=>rfl
 |v::vs=>by rw[aAz,I0,wD,u4 vs]
theorem o9:∀{ds:List D} {vs:List G.V},I0 ds=some vs->ds=vs.map vd
 |[],vs,h=>by cases h;rfl
 |d::ds,vs,h=>by
  unfold I0 at h;split at h
  .rename_i v c a b;cases h;rw[tR a,o9 b];rfl
  .cases h
def BH (h:vd u=vd v):u=v:=by
 have:vZ (vd u)=vZ (vd v):=by rw[h]
 simpa using this
def TY {u v:List G.V}(h:u.map vd=v.map vd):u=v:=by
 have:I0 (u.map vd)=I0 (v.map vd):=by rw[h]
 simpa using this
def R5 (n:Nat)(J:List G.V):Prop:=(∀P∈J,Sz n P)/\J.length<=1000
def BY:Option G.V->D
 |some v=>vd v
 |none=>.non
def A1:List D->R D
 |[.lst Y]=>match I0 Y with
  |some a=>.ok (BY (G.A8 a))
  |none=>.bad
 |_=>.bad
open Classical in
def C1:List D->R D
 |[.lst Y]=>match I0 Y with
  |some J=>if J≠[]/\R5 1000 J then .ok (.int (G.T5 J))else .bad
  |none=>.bad
 |_=>.bad
open Classical in
def D8:List D->R D
 |[.lst Y]=>match I0 Y with
  |some J=>if R5 1000 J/\G.T5 J=3 then .ok .non else .bad
  |none=>.bad
 |_=>.bad
open Classical in
def z7:List D->R D:=v4 λa b c d=>RQ λY=>qM (match I0 Y with
 |some J=>if Sz 10000 ⟨a,b,c⟩/\R5 1000 J then .ok (.lst ((G.w8 ⟨a,b,c⟩ d J).map vd))else .bad
 |none=>.bad)
open Classical in
def D6:List D->R D:=RU λg=>RQ λY=>qM ((v1 λa b c=>v1 λd e f=>qM (match I0 Y with
 |some J=>if Sz 1000 ⟨a,b,c⟩/\Sz 1000 ⟨d,e,f⟩/\R5 1000 J/\G.cV (G.b7 ⟨a,b,c⟩ ⟨d,e,f⟩ J).1 then .ok (xA (G.b7 ⟨a,b,c⟩ ⟨d,e,f⟩ J).1 (G.b7 ⟨a,b,c⟩ ⟨d,e,f⟩ J).2)else .bad
 |none=>.bad)) g)
abbrev u8 (p:G.V×G.V):D:=.tup [vd p.1,vd p.2]
structure Land (J:List G.V)(m:G.V):Prop where
 good:G.Good J m
 sz:R5 900 J
 few:J.length<=63
 head:J.head?=some m
open Classical in
def G6:List D->R D
 |[.lst Y]=>match I0 Y with
  |some (m::J)=>if Land (m::J) m then .ok (u8 (G.f6 m (m::J)))else .bad
  |_=>.bad
 |_=>.bad
open Classical in
def fH:List D->R D:=v1 λa b c=>v1 λd e f=>v1 λg h i=>v1 λj k l=>qM (
 if Sz 10000 ⟨a,b,c⟩/\Sz 1000 ⟨d,e,f⟩/\Sz 1000 ⟨g,h,i⟩/\Sz 1000 ⟨j,k,l⟩then .ok (.int (G.turn ⟨a,b,c⟩ ⟨d,e,f⟩ ⟨g,h,i⟩ ⟨j,k,l⟩))else .bad)
open Classical in
def U4:List D->R D:=v1 λa b c=>RQ λY=>qM (match I0 Y with
 |some J=>if Sz 10000 ⟨a,b,c⟩/\R5 1000 J then .ok (.lst ((G.x4 ⟨a,b,c⟩ J).reverse.map vd))else .bad
 |none=>.bad)
open Classical in
def O7:List D->R D:=v1 λa b c=>RQ λY=>qM (match I0 Y with
 |some J=>if Sz 10000 ⟨a,b,c⟩/\R5 1000 J then .ok (.lst ((G.k5 ⟨a,b,c⟩ J).map vd))else .bad
 |none=>.bad)
def w5:List D->R D
 |[.lst Y]=>match I0 Y with
  |some J=>if J.length<=3000 then .ok (.lst ((G.N1 J).map u8))else .bad
  |none=>.bad
 |_=>.bad
abbrev m6 (J:List G.V)(f:G.V×Int):D:=.tup [xA f.1 f.2,.lst ((G.j9 J f).map vd)]
def dN (J:List G.V)(fs:List (G.V×Int)):Prop:=(∀f,f∈fs↔G.IsFace J f.1 f.2)/\gT S5 (fs.map<|m6 J)
open Classical in
def j1 (J:List G.V):List (G.V×Int):=if h:∃fs,dN J fs then h.choose else[]
def J1:List D->List D->R D
 |[w],[_]=>.ok w
 |_,_=>.bad
def D3:List D->List D->R D
 |[w],[p]=>z7 [p,w]
 |_,_=>.bad
open Classical in
def G3 (d:D) (a b:List D->R D):R D:=match a [.non]with
 |.ok (.lst Y)=>match I0 Y with
  |some (m::J)=>if Land (m::J) m/\(m::J).length<=14/\d=u8 (G.f6 m (m::J))/\a=J1 [.lst Y]/\b=D3 [.lst Y]then .ok (.lst ((j1 (m::J)).map (m6 (m::J))))else .bad
  |_=>.bad
 |_=>.bad
def c9 (J:List G.V):List G.V:=(S9<|J.map vd).filterMap vZ
open Classical in
def V9:List D->R D
 |[.lst Y]=>match I0 Y with
  |some J=>if R5 900 J/\G.j7 J/\(c9 J).length<=14 then .ok (.lst ((j1 (c9 J)).map (m6 (c9 J))))else .bad
  |none=>.bad
 |_=>.bad
def t8 (J:List G.V):List G.V:=c9 ((j1<|c9 J).flatMap (G.j9<|c9 J))
def ne0 (v:G.V):IE (vd v) (.tup [.int 0,.int 0,.int 0])=.ok (.bl (!decide (v=0))):=by rw[jQ];congr 3;rw[aDa];simp only[aAH,beq_iff_eq,decide_eq_true_eq,G.pR];exact⟨λh=>h,λh=>h⟩
def eq0 (v:G.V):KJ (vd v) (.tup [.int 0,.int 0,.int 0])=.ok (.bl (decide (v=0))):=by rw[YH];congr 2;rw[aDa];simp only[aAH,beq_iff_eq,decide_eq_true_eq,G.pR];exact⟨λh=>h,λh=>h⟩
def U3 (b:G d ρ=.ok a)(c:F a=.ok (.nx ρ2)):F6 G F (d::ds) ρ=F6 G F ds ρ2:=by rw[F6,b];dsimp only;rw[c]
def iP (b:G d ρ=.ok a)(c:F a=.ok (.rt x)):F6 G F (d::ds) ρ=.ok (.rt x):=by rw[F6,b];dsimp only;rw[c]
theorem O9 {α:Type}(rep:α->D)(p:α->Bool)(g:α->D):∀(l:List α),(∀a∈l,∃c,G (rep a) ρ=.ok c/\ft c=.ok (p a)/\(p a=true->fe c=.ok (g a)))->u6 G ft fe ρ (l.map rep)=.ok ((l.filter p).map g)
 |[],_=>rfl
 |a::l,h=>by
  obtain⟨c,e,f,k⟩:=h a (.head _);have m:=O9 rep p g l λb n=>h b (.tail _ n);rw[aAz,u6,e];dsimp only;rw[f,R.aa0,m];cases d:p a with
  |false=>rw[kz (by decide),aFy (by simp[d])]
  |true=>rw[kd rfl,k d,R.aa0,R.aa0,aFz d];rfl
def G1 {α:Type}(rep:α->D)(g:α->D)(l:List α)(h:∀a∈l,∃b,G (rep a) ρ=.ok b/\fe b=.ok (g a)):u6 G (λ_=>.ok true) fe ρ (l.map rep)=.ok (l.map g):=by
 have:=O9 rep (G:=G) (ft:=λ_=>.ok true) (fe:=fe) (ρ:=ρ) (λ_=>true) g l λa c=>let⟨b,d,e⟩:=h a c;⟨b,d,rfl,λ_=>e⟩
 rw[this,List.filter_eq_self.mpr λ_ _=>rfl]
def small (h:n<=1000):n<=sizeLine:=aAr h (by decide)
def az (h:n<=3000):n<=sizeLine:=aAr h (by decide)
def R5.sub (h:R5 n J)(b:∀P∈a,P∈J)(c:a.length<=J.length):R5 n a:=⟨λP d=>h.1 P (b P d),aAr c h.2⟩
def R5.mono (h:R5 m J)(a:m<=n:=by decide):R5 n J:=⟨λP b=>(h.1 P b).mono a,h.2⟩
def a1a (t:Int):(sgn t==0)=decide (t=0):=by
 unfold sgn;by_cases h:0<t
 .rw[kd h];simp;lia
 .rw[kz h];by_cases a:t<0
  .rw[kd a];simp;lia
  .rw[kz a];simp;lia
def jJ (a:Sz 10000 n)(b:R5 1000 J):z7 [xA n d,.lst (J.map vd)]=.ok (.lst ((G.w8 n d J).map vd)):=by simp only[z7,v4,RU,AV,RQ,qM,u4];exact kd ⟨a,b⟩
def OP (a:J≠[])(b:R5 1000 J):C1 [.lst (J.map vd)]=.ok (.int (G.T5 J)):=by simp only[C1,u4];exact kd ⟨a,b⟩
def CY (ws:List G.V):A1 [.lst (ws.map vd)]=.ok (BY (G.A8 ws)):=by simp only[A1,u4]
def BI (bs:List Bool):dF (bs.map D.bl)=some bs:=by
 induction bs with
 |nil=>rfl
 |cons b bs a=>rw[aAz,dF,a];rfl
def gk (bs:List Bool):anyR [.lst (bs.map D.bl)]=.ok (.bl (bs.any id)):=by simp only[anyR,BI]
def RV (Y:List D):LA (.lst Y) none (some (-1))=.ok (.lst Y.dropLast):=by
 show R.ok (D.lst<|cutD Y none<|some (-1))=_;unfold cutD HT.sIx;rw[aEr];simp;congr 1
 lia
def UB (Y:List D):LA (.lst Y) (some 1) none=.ok (.lst Y.tail):=by
 show R.ok (D.lst<|cutD Y (some 1) none)=_;unfold cutD HT.sIx;cases Y with
 |nil=>rfl
 |cons a l=>simp
def YS (Y:List D):LA (.lst Y) none (some 1)=.ok (.lst (Y.take 1)):=by
 show R.ok (D.lst<|cutD Y none<|some 1)=_;unfold cutD HT.sIx;cases Y with
 |nil=>rfl
 |cons a l=>simp
def WG (Y:List D)(a b:D):qO (Y++[a,b]) (-1)=some b:=by
 have c:(Y++[a,b]).length=Y.length+2:=by simp
 unfold qO JE;rw[c,kz (by decide),kd (by lia)];show(Y++[a,b])[((-1:Int)+((Y.length+2:Nat):Int)).toNat]?=_;have:((-1:Int)+((Y.length+2:Nat):Int)).toNat=Y.length+1:=by lia
 rw[this,aAB (by lia),show Y.length+1-Y.length=1 by lia];rfl
def WH (Y:List D)(a b:D):qO (Y++[a,b]) (-2)=some a:=by
 have c:(Y++[a,b]).length=Y.length+2:=by simp
 unfold qO JE;rw[c,kz (by decide),kd (by lia)];show(Y++[a,b])[((-2:Int)+((Y.length+2:Nat):Int)).toNat]?=_;have:((-2:Int)+((Y.length+2:Nat):Int)).toNat=Y.length:=by lia
 rw[this,aAB (by lia),Nat.sub_self];rfl
def a0b (a:D)(Y:List D):qO (a::Y) 0=some a:=by rw[Z4 (by decide)];rfl
def tw (a b:D)(Y:List D):qO (a::b::Y) 1=some b:=by rw[Z4 (by decide)];rfl
def TM {P Q R:G.V}(h:G.cV (G.d5 P Q R).1):G.cr (Q-P) (R-P)≠0:=λe=>by
 have:(G.d5 P Q R).1=0:=by show G.cG (G.cr (Q-P)<|R-P) _=0;rw[e];rfl
 rw[this]at h;unfold G.cV at h;exact absurd h (by decide)
theorem xJ:∀{c:List G.V},(G.Y1 n P c).length<=c.length
 |[]=>aAh _
 |[a]=>aAh _
 |b::a::r=>by
  unfold G.Y1;split
  .exact aAr (xJ (c:=a::r)) (by simp)
  .exact aAh _
theorem qH:∀(a c:List G.V),(a.foldl (λc P=>P::G.Y1 n P c) c).length<=a.length+c.length
 |[],c=>by simp
 |P::a,c=>by refine aAr (qH a _) ?_;have:=xJ (n:=n) (P:=P) (c:=c);simp;lia
def uB (n:G.V)(ps:List G.V):(G.x4 n ps).length<=ps.length:=by simpa[G.x4]using qH (n:=n) ps []
theorem rS {α β:Type}(f:α->D):∀(Y a:List α),kF (Y.map f) (a.map f)=(Y.zip a).map λp=>D.tup [f p.1,f p.2]
 |[],_=>by simp[kF]
 |_::_,[]=>by simp[kF]
 |x::Y,y::a=>by have:=rS (β:=β) f Y a;simp only[kF]at this⊢;simp[this]
def WJ (a:Sz 10000 n)(b:R5 1000 J):U4 [vd n,.lst (J.map vd)]=.ok (.lst ((G.x4 n J).reverse.map vd)):=by simp only[U4,v1,RU,AV,RQ,qM,u4];exact kd ⟨a,b⟩
def FZ {n P Q R:G.V}(h:Sz 10000 n)(a:Sz 1000 P)(b:Sz 1000 Q)(c:Sz 1000 R):fH [vd n,vd P,vd Q,vd R]=.ok (.int (G.turn n P Q R)):=kd ⟨h,a,b,c⟩
def X7 (a:Sz 1000 A)(b:Sz 1000 B)(c:R5 1000 J)(d:G.cV (G.b7 A B J).1):D6 [.tup [vd A,vd B],.lst (J.map vd)]=.ok (xA (G.b7 A B J).1 (G.b7 A B J).2):=by simp only[D6,v1,RU,AV,RQ,qM,u4];exact kd ⟨a,b,c,d⟩
def TH (a:Sz 10000 n)(b:R5 1000 J):O7 [vd n,.lst (J.map vd)]=.ok (.lst ((G.k5 n J).map vd)):=by simp only[O7,v1,RU,AV,RQ,qM,u4];exact kd ⟨a,b⟩
def AF (h:J.length<=3000):w5 [.lst (J.map vd)]=.ok (.lst ((G.N1 J).map u8)):=by simp only[w5,u4];exact kd h
def GS (h:a.length+b.length<=sizeLine):jY (.lst a) (.lst b)=.ok (.lst (a++b)):=kd h
def NZ (a b:G.V):HT.lexLt (flat (vd a)) (flat (vd b))=true↔G.e9 (b-a):=by
 show HT.lexLt [a.x,a.y,a.z] [b.x,b.y,b.z]=true↔_;unfold G.e9;simp only[HT.lexLt,G.XF,G.XM,G.XQ];by_cases c:a.x=b.x
 .by_cases d:a.y=b.y
  .by_cases e:a.z=b.z
   .simp[c,d,e]
   .simp[c,d,e];try lia
  .simp[c,d];try lia
 .simp[c];try lia
def EI {J:List G.V}(h:J.Pairwise λa b=>G.e9 (b-a)):QC (J.map vd):=aBf.mpr (h.imp λ{a b} q=>(NZ a b).mpr q)
def ZP {J:List G.V}(h:QC (J.map vd)):J.Pairwise λa b=>G.e9 (b-a):=(aBf.mp h).imp λ{a b} q=>(NZ a b).mp q
def PC (J:List G.V):(J.map vd).all N4=true:=aBp.mpr λd a=>by obtain⟨v,_,rfl⟩:=aAl.mp a;rfl
def iz [Tabs]{m:G.V}{J:List G.V}(h:(m::J).Pairwise λa b=>G.e9 (b-a)):LY [.lst ((m::J).map vd)]=.ok (vd m):=by show(if(m::J).map vd≠[]/\((m::J).map vd).all N4=true then _ else _)=_;rw[kd ⟨by simp,PC _⟩,VV (EI h) _ (by simp)];rfl
def oO {P Q R:G.V}(p:Sz 1000 P)(q:Sz 1000 Q)(r:Sz 1000 R):Sz 2003 (G.d5 P Q R).1:=by
 have a:=(q.sub p).cr (r.sub p);by_cases c:G.cr (Q-P) (R-P)=0
 .have:(G.d5 P Q R).1=0:=by show G.cG (G.cr (Q-P)<|R-P) _=0;rw[c];rfl
  rw[this];exact⟨by decide,by decide,by decide⟩
 .obtain⟨g,h,k⟩:=G.fB c;have d:=bits_fdiv (b:=(G.o7 (G.cr (Q-P)<|R-P):Int)) a.1;have e:=bits_fdiv (b:=(G.o7 (G.cr (Q-P)<|R-P):Int)) a.2.1;have f:=bits_fdiv (b:=(G.o7 (G.cr (Q-P)<|R-P):Int)) a.2.2;rw[cQ g]at d e f;exact⟨d,e,f⟩
def AL {A B:G.V}{J:List G.V}(p:Sz 1000 A)(q:Sz 1000 B)(r:R5 1000 J):Sz 2003 (G.b7 A B J).1:=by
 unfold G.b7;rcases G.kU (a:=B-A) (A:=A) J 0 A with h|h
 .exact oO p q (r.1 _ h)
 .rw[h];exact oO p q p
def rz (m:G.V):vd (m+G.kk)=.tup [.int m.x,.int m.y,.int (m.z+1)]:=by simp[G.kk]
def MP (h:Sz 900 m):Sz 1000 (m+G.kk):=(h.add (v:=G.kk) ⟨by decide,by decide,by decide⟩).mono
def NL (h:R5 k J):R5 k (G.w8 n d J):=h.sub (λP a=>(G.d4.mp a).1) (List.length_filter_le _ _)
def NU {α:Type}{l:List α}{a b:α}(c:a∈l)(d:b∈l)(h:a≠b):∃x y r,l=x::y::r:=by
 match l,c,d with
 |[x],c,d=>exact absurd ((aBh.mp c).trans (aBh.mp d).symm) h
 |x::y::r,_,_=>exact⟨x,y,r,rfl⟩
open Classical in
def V8 {U:List (D×D)}{k v a:D}:a∈(Y2 U k v).map (·.1)↔a∈U.map (·.1)\/a=k:=by
 unfold Y2;split
 .rename_i h;rw[aBJ];have:((λx=>x.1)∘λp:D×D=>if p.1=k then(p.1,v)else p)=λp=>p.1:=by funext p;simp only[Function.comp];split<;>rfl
  rw[this];exact⟨.inl,λq=>q.elim id λe=>by rw[e];exact h⟩
 .rw[aCs,aAN];simp
def QF {U:List (D×D)}{k v:D}:(Y2 U k v).length<=U.length+1:=by
 unfold Y2;split
 .simp
 .simp
def UT {p q:G.V×G.V}(h:u8 p=u8 q):p=q:=by injection h with h;injection h with b a;injection a with a _;exact aFs (BH b) (BH a)
def CV (p:G.V×G.V):R9 7 (u8 p)=true/\IN (u8 p)=true:=⟨rfl,rfl⟩
def ffC:Ev->R Bool:=λρ=>((((rO 5 ρ).bind λd=>R.ok [d]).bind HI).bind λx=>WS x (D.int 0)).bind qN
def ffS:Ev->R Out:=λρ=>
 B7 ((T1 9 ρ).bind λa=>sS 4 ρ a (D.bl true)) λρ=>((((rO 9 ρ).bind λx=>U8 x (D.int 1)).bind λd=>(((rO 9 ρ).bind λx=>U8 x (D.int 0)).bind λd=>R.ok [d]).bind λb=>R.ok (d::b)).bind bK).bind (qQ 5 ρ)
theorem FG {a0 a1 a2 a3 a6 a7 a8:Sl}:∀(a:List (G.V×G.V)) (U:List (D×D)) (W:List (G.V×G.V)) (f:Sl),U.length+a.length<=10000->W.length+a.length<=10000->
  ∃c b,F6 (λd ρ=>R.ok (aCM ρ 9 (Sl.v d))) ffS (a.map u8) [a0,a1,a2,a3,.d U,.o (W.map u8),a6,a7,a8,f]=.ok (.nx [a0,a1,a2,a3,.d c,.o ((W++a.map λq=>(q.2,q.1)).map u8),a6,a7,a8,b])/\
   (∀e:G.V×G.V,u8 e∈c.map (·.1)↔u8 e∈U.map (·.1)\/e∈a)/\c.length<=U.length+a.length
 |[],U,W,f,_,_=>⟨U,f,by simp,λe=>by simp,by simp⟩
 |q::a,U,W,f,g,n=>by
  simp only[aAv]at g n;have w:=QF (U:=U) (k:=u8 q) (v:=.bl true);obtain⟨c,b,e,m,l⟩:=FG a (Y2 U (u8 q)<|.bl true) (W++[(q.2,q.1)]) (.v (u8 q)) (by lia) (by simp;lia);refine⟨c,b,?_,λx=>?_,by simp;lia⟩
  .rw[aAz];refine(U3 (ρ2:=[a0,a1,a2,a3,.d (Y2 U (u8 q)<|.bl true),.o ((W++[(q.2,q.1)]).map u8),a6,a7,a8,.v (u8 q)]) rfl ?_).trans ?_
   .have p:U.length<=sizeLine:=aAr (show U.length<=10000 by lia) (by decide);have r:(W.map u8).length<sizeLine:=by rw[aAj];exact aCt (show W.length<=10000 by lia) (by decide)
    have s:sS 4 [a0,a1,a2,a3,.d U,.o (W.map u8),a6,a7,a8,.v (u8 q)] (u8 q) (.bl true)=.ok (.nx [a0,a1,a2,a3,.d (Y2 U (u8 q)<|.bl true),.o (W.map u8),a6,a7,a8,.v (u8 q)]):=by show(if _ then _ else _)=_;rw[kd ⟨(CV q).1,(CV q).2,p⟩];rfl
    have t:qQ 5 [a0,a1,a2,a3,.d (Y2 U (u8 q)<|.bl true),.o (W.map u8),a6,a7,a8,.v (u8 q)] (u8 (q.2,q.1))=.ok (.nx [a0,a1,a2,a3,.d (Y2 U (u8 q)<|.bl true),.o ((W++[(q.2,q.1)]).map u8),a6,a7,a8,.v (u8 q)]):=by show(if _ then _ else _)=_;rw[kd r,aCs];rfl
    show B7 ((R.ok<|u8 q).bind λu=>sS 4 [a0,a1,a2,a3,.d U,.o (W.map u8),a6,a7,a8,.v (u8 q)] u (D.bl true)) _=_;rw[R.aa0,s];exact t
   .rw[e];simp
  .rw[m x,V8,aAd];constructor
   .rintro((h|h)|h)
    .exact .inl h
    .exact .inr (.inl (UT h))
    .exact .inr (.inr h)
   .rintro(h|h|h)
    .exact .inl (.inl h)
    .exact .inl (.inr (by rw[h]))
    .exact .inr h
section
variable(Φ:(List D->R D)->Hp->(bc->Prop)->bc->Prop)
def ffB:Ev->R Out:=λρ=>
 B7 ((CU 5 ρ).bind λz=>R.ok (Out.nx<|aCM z.snd 6<|Sl.v z.fst)) λρ=>
  ((T1 6 ρ).bind (pU 4 ρ)).bind λt=>
   if t=true then
    B7
     ((((T1 6 ρ).bind λd=>((callC Φ 1 (o6 (λρ=>(rO 6 ρ).bind λx=>U8 x (D.int 0)) R0) ρ).bind λd=>R.ok [d]).bind λa=>R.ok (d::a)).bind D6).bind λd=>R.ok (Out.nx<|aCM ρ 7<|Sl.v d))
     λρ=>
     B7
      (((((rO 7 ρ).bind λx=>LA x none (some 3)).bind λd=>((callC Φ 2 (o6 (T1 7) R0) ρ).bind λd=>R.ok [d]).bind λa=>R.ok (d::a)).bind O7).bind λd=>R.ok (Out.nx<|aCM ρ 8<|Sl.v d))
      λρ=>
      B7 ((((T1 7 ρ).bind λd=>((T1 8 ρ).bind λd=>R.ok [d]).bind λa=>R.ok (d::a)).bind bK).bind (qQ 3 ρ))
       λρ=>((((T1 8 ρ).bind λd=>R.ok [d]).bind w5).bind M6).bind λa=>F6 (λd ρ=>R.ok (aCM ρ 9<|Sl.v d)) ffS a ρ
   else R.ok (Out.nx ρ)
def zP (L:D) (e:G.V×G.V) (fs:List D) (U:List (D×D)) (W:List (G.V×G.V)) (a b c d:Sl):Ev:=
 [Sl.v (u8 e),Sl.c (J1 [L]) (Φ<|J1 [L]),Sl.c (D3 [L]) (Φ<|D3 [L]),.o fs,.d U,.o (W.map u8),a,b,c,d]
end
def yJ {Φ:(List D->R D)->Hp->(bc->Prop)->bc->Prop}{i:Nat}{f:Ev->R (List D)}{ρ:Ev}{m:List D->R D}{ds:List D}(h:ρ[i]?=some (.c m (Φ m)))(a:f ρ=.ok ds):callC Φ i f ρ=m ds:=by unfold callC;rw[h];dsimp only;rw[kd rfl,a];rfl
def gU (J:List G.V)(fs:List (G.V×Int)):Nat:=(fs.map λf=>(G.j9 J f).length).sum
def fK (J:List G.V)(fs:List (G.V×Int))(f:G.V×Int):gU J (fs++[f])=gU J fs+(G.j9 J f).length:=by simp[gU]
def KZ {J:List G.V}{m:G.V}(h:Land J m):Sz 1000 (G.f6 m J).1/\Sz 1000 (G.f6 m J).2:=by
 have a:Sz 900 m:=h.sz.1 m h.good.mem;obtain⟨k,d,e,f,g⟩:=G.AJ h.good.solid h.good.mem h.good.least;unfold G.f6;dsimp only;split
 .exact⟨a.mono,MP a⟩
 .obtain⟨x,y,r,b⟩:=NU d f g;rw[b];have q:∀z∈x::y::r,Sz 1000 z:=λz c=>by rw[<-b]at c;exact(h.sz.1 z (G.d4.mp c).1).mono
  exact⟨q x (.head _),q y (.tail _ (.head _))⟩
def TD {J:List G.V}{m:G.V}(h:Land J m){fs:List (G.V×Int)}{b:G.V×G.V->Prop}{W:List (G.V×G.V)}(L:G.LInv J (G.f6 m J) fs b W){p:G.V×G.V}(c:p∈W):Sz 1000 p.1/\Sz 1000 p.2:=by
 rcases L.wt p c with⟨f,d,g⟩|⟨_,e⟩
 .have S:=(L.face f d).aa2 h.good.ord;have a:=S.aa1.mp g;exact⟨(h.sz.1 _ (G.d4.mp a.q).1).mono,(h.sz.1 _ (G.d4.mp a.p).1).mono⟩
 .rw[e];exact KZ h
def OA {J:List G.V}{m:G.V}(h:Land J m){f:G.V×Int}(a:G.IsFace J f.1 f.2):(G.j9 J f).length<=J.length:=by have S:=a.aa2 h.good.ord;exact G.z8 S.aa4 λx b=>(G.d4.mp<|S.aa3 b).1
def xW {J:List G.V}{f g:G.V×Int}(h:S5 (m6 J f)=S5 (m6 J g)):f=g:=by have h:[f.1.x,f.1.y,f.1.z,f.2]=[g.1.x,g.1.y,g.1.z,g.2]:=h;simp only[aEe,and_true]at h;exact aFs (G.ext h.1 h.2.1 h.2.2.1) h.2.2.2
def rE {α β:Type}{f:α->β}(c:∀a b,f a=f b->a=b){l:List α}(h:l.Nodup):(l.map f).Nodup:=aBf.mpr (h.imp λ{a b} n e=>n (c a b e))
def VP {Φ:(List D->R D)->Hp->(bc->Prop)->bc->Prop}{J:List G.V}{m:G.V}(hz:Land J m){fs:List (G.V×Int)}{U:List (D×D)}{W:List (G.V×G.V)}{a b c d:Sl}(L:G.LInv J (G.f6 m J) fs (λe=>u8 e∈U.map (·.1)) W)
  (hk:U.length<=gU J fs) (hW:W.length<=1+gU J fs) {n:Nat} (hn:W.length+(J.length*J.length-gU J fs)<n+1) (ag:W≠[]):
  ∃r s W' a' b' c' d',ffB Φ (zP Φ (.lst (J.map vd)) (G.f6 m J) (fs.map (m6 J)) U W a b c d)=.ok (.nx (zP Φ (.lst (J.map vd)) (G.f6 m J) (r.map (m6 J)) s W' a' b' c' d'))/\
   G.LInv J (G.f6 m J) r (λe=>u8 e∈s.map (·.1)) W'/\s.length<=gU J r/\W'.length<=1+gU J r/\W'.length+(J.length*J.length-gU J r)<n:=by
 obtain⟨rest,p,rfl⟩:∃rest p,W=rest++[p]:=⟨W.dropLast,W.getLast ag,(List.dropLast_concat_getLast ag).symm⟩;have t:=G.aI hz.good.solid hz.good.ord L.nd L.face;have few:=hz.few;have nn:J.length*J.length<=63*63:=aEm few few;have hsum:gU J fs+J.length<=J.length*J.length:=t;have H:(rest++[p]).length=rest.length+1:=by simp
 rw[H]at hW hn;have I:CU 5 (zP Φ (.lst (J.map vd)) (G.f6 m J) (fs.map<|m6 J) U (rest++[p]) a b c d)=.ok (u8 p,zP Φ (.lst (J.map vd)) (G.f6 m J) (fs.map<|m6 J) U rest a b c d):=by show(match((rest++[p]).map u8)[((rest++[p]).map u8).length-1]? with|some d=>_|none=>_:R (D×Ev))=_;rw[aCs];simp;rfl
 have N:pU 4 (zP Φ (.lst (J.map vd)) (G.f6 m J) (fs.map<|m6 J) U rest (.v (u8 p)) b c d) (u8 p)=.ok (!(open Classical in decide (u8 p∈U.map (·.1)))):=by unfold pU;rw[show(zP Φ (.lst (J.map vd)) (G.f6 m J) (fs.map<|m6 J) U rest (.v (u8 p)) b c d)[4]?=some (.d U)from rfl];dsimp only;rw[kd (CV p)]
 have C:R5 1000 J:=hz.sz.mono;unfold ffB;rw[I];show∃r s W' a' b' c' d',B7 (R.ok<|Out.nx<|zP Φ (.lst (J.map vd)) (G.f6 m J) (fs.map<|m6 J) U rest (.v (u8 p)) b c d) _=_/\_;rw[A4];rw[show T1 6 (zP Φ (.lst (J.map vd)) (G.f6 m J) (fs.map<|m6 J) U rest (.v (u8 p)) b c d)=.ok (u8 p)from rfl,R.aa0,N,R.aa0];by_cases u:u8 p∈U.map (·.1)
 .refine⟨fs,U,rest,.v (u8 p),b,c,d,?_,G.OU hz.good L rfl u,hk,by lia,by lia⟩;rw[decide_eq_true u];rfl
 .have w:p∈rest++[p]:=by simp
  obtain⟨E,n2,n3⟩:=G.zR hz.good L w u;obtain⟨y,A⟩:=TD hz L w;have ab:=X7 y A C E.prim;have k:=AL y A C;obtain⟨f,ef⟩:∃f,G.b7 p.1 p.2 J=f:=⟨_,rfl⟩;rw[ef]at E n2 n3 ab k;have po:=jJ (d:=f.2) k.mono C;have O:=TH (n:=f.1) (J:=G.w8 f.1 f.2 J) k.mono (NL C);have rl:=OA hz E;have O:O7 [vd f.1,.lst ((G.w8 f.1 f.2 J).map vd)]=.ok (.lst ((G.j9 J f).map vd)):=O;have pr:=AF (J:=G.j9 J f) (by lia);have Q:=λ{wk'} {W'} h1 h2=>G.QS hz.good L (rest:=rest) (p:=p) rfl u (walked':=wk') (waiting':=W') h1 h2;rw[ef]at Q;have T:(fs++[f]).Nodup:=by
   have:=(Q (wk':=λe=>u8 e∈U.map (·.1)\/e∈G.N1 (G.j9 J f)) (W':=rest++(G.N1<|G.j9 J f).map λq=>(q.2,q.1)) (λe=>Iff.rfl) (λq=>by
    rw[aAN,aAl];constructor
    .rintro(h|⟨x,Y,rfl⟩)
     .exact .inl h
     .exact .inr Y
    .rintro(h|h)
     .exact .inl h
     .exact .inr ⟨_,h,rfl⟩))
   exact this.nd
  have l:gU J (fs++[f])+J.length<=J.length*J.length:=G.aI hz.good.solid hz.good.ord T λg hg=>by
   rcases aAN.mp hg with z|z
   .exact L.face g z
   .rw[aBh.mp z];exact E
  rw[fK]at l;have clen:(G.N1<|G.j9 J f).length=(G.j9 J f).length:=by unfold G.N1;simp;lia
  obtain⟨s,a9',run,B,len'⟩:=FG (a0:=Sl.v (u8<|G.f6 m J)) (a1:=Sl.c (J1 [.lst (J.map vd)]) (Φ<|J1 [.lst (J.map vd)])) (a2:=Sl.c (D3 [.lst (J.map vd)]) (Φ<|D3 [.lst (J.map vd)])) (a3:=.o ((fs++[f]).map (m6 J))) (a6:=.v (u8 p)) (a7:=.v (xA f.1 f.2)) (a8:=.v (.lst ((G.j9 J f).map vd))) (G.N1<|G.j9 J f) U rest d (by lia) (by lia);refine⟨fs++[f],s,rest++(G.N1<|G.j9 J f).map (λq=>(q.2,q.1)),.v (u8 p),.v (xA f.1 f.2),.v (.lst ((G.j9 J f).map vd)),a9',?_,Q B (λq=>?_),?_,?_,?_⟩
  .have ap:qQ 3 (zP Φ (.lst (J.map vd)) (G.f6 m J) (fs.map<|m6 J) U rest (.v (u8 p)) (.v (xA f.1 f.2)) (.v (.lst ((G.j9 J f).map vd))) d) (m6 J f)=.ok (.nx (zP Φ (.lst (J.map vd)) (G.f6 m J) ((fs++[f]).map (m6 J)) U rest (.v (u8 p)) (.v (xA f.1 f.2)) (.v (.lst ((G.j9 J f).map vd))) d)):=by show(if(fs.map<|m6 J).length<sizeLine then _ else _)=_;have h3:=G.dJ hz.good.solid hz.good.ord L.face;have h3:3*fs.length<=gU J fs:=h3;rw[kd (by rw[aAj];exact aCt (show fs.length<=4000 by lia) (by decide)),aCs];rfl
   have ca:callC Φ 1 (o6 (λρ=>(rO 6 ρ).bind λx=>U8 x (D.int 0)) R0) (zP Φ (.lst (J.map vd)) (G.f6 m J) (fs.map<|m6 J) U rest (.v (u8 p)) b c d)=.ok (.lst (J.map vd)):=by exact(yJ (m:=J1 [.lst (J.map vd)]) (ds:=[vd p.1]) rfl rfl).trans rfl
   have ct:callC Φ 2 (o6 (T1 7) R0) (zP Φ (.lst (J.map vd)) (G.f6 m J) (fs.map<|m6 J) U rest (.v (u8 p)) (.v (xA f.1 f.2)) c d)=.ok (.lst ((G.w8 f.1 f.2 J).map vd)):=by exact(yJ (m:=D3 [.lst (J.map vd)]) (ds:=[xA f.1 f.2]) rfl rfl).trans po
   have sl:LA (xA f.1 f.2) none (some 3)=.ok (vd f.1):=rfl;rw[decide_eq_false u];simp only[Bool.not_false,if_true];rw[ca,R.aa0,R.aa0,R.aa0,R.aa0,ab,R.aa0];show B7 (R.ok<|Out.nx<|zP Φ (.lst (J.map vd)) (G.f6 m J) (fs.map<|m6 J) U rest (.v (u8 p)) (.v (xA f.1 f.2)) c d) _=_;rw[A4];rw[ct];show B7 ((((R.ok<|xA f.1 f.2).bind λx=>LA x none (some 3)).bind λd=>(R.ok [D.lst ((G.w8 f.1 f.2 J).map vd)]).bind λds=>R.ok (d::ds)).bind O7|>.bind λd=>R.ok (Out.nx<|aCM _ 8<|Sl.v d)) _=_;rw[R.aa0,sl,R.aa0,R.aa0,R.aa0,O,R.aa0];show B7 (R.ok<|Out.nx<|zP Φ (.lst (J.map vd)) (G.f6 m J) (fs.map<|m6 J) U rest (.v (u8 p)) (.v (xA f.1 f.2)) (.v (.lst ((G.j9 J f).map vd))) d) _=_;rw[A4];show B7 (qQ 3 (zP Φ (.lst (J.map vd)) (G.f6 m J) (fs.map<|m6 J) U rest (.v (u8 p)) (.v (xA f.1 f.2)) (.v (.lst ((G.j9 J f).map vd))) d)<|m6 J f) _=_;rw[ap,A4];show((w5 [.lst ((G.j9 J f).map vd)]).bind M6).bind _=_;rw[pr,R.aa0];exact run
  .rw[aAN,aAl];constructor
   .rintro(h|⟨x,Y,rfl⟩)
    .exact .inl h
    .exact .inr Y
   .rintro(h|h)
    .exact .inl h
    .exact .inr ⟨_,h,rfl⟩
  .rw[fK];lia
  .rw[fK,aAD,aAj];lia
  .rw[fK,aAD,aAj];lia
def UL (J:List G.V)(f:G.V×Int):List (G.V×Int)->List (G.V×Int)
 |[]=>[f]
 |x::Y=>if HT.lexLt (S5 (m6 J f)) (S5 (m6 J x))=true then f::x::Y else x::UL J f Y
def FA (J:List G.V)(fs:List (G.V×Int)):List (G.V×Int):=fs.foldr (UL J) []
theorem yU (J:List G.V)(f:G.V×Int):∀Y:List (G.V×Int),wH S5 (m6 J f) (Y.map (m6 J))=(UL J f Y).map (m6 J)
 |[]=>rfl
 |x::Y=>by
  unfold UL;rw[aAz,wH];split
  .rfl
  .rw[aAz,yU J f Y]
theorem fI (J:List G.V):∀fs:List (G.V×Int),cD S5 (fs.map (m6 J))=(FA J fs).map (m6 J)
 |[]=>rfl
 |f::fs=>by show wH S5 (m6 J f) (cD S5 (fs.map (m6 J)))=_;rw[fI J fs,yU];rfl
def jR (h:m6 J f=m6 J g):f=g:=xW (by rw[h])
theorem fO:∀{a b:List (G.V×Int)},a.map (m6 J)=b.map (m6 J)->a=b
 |[],[],_=>rfl
 |[],_::_,h=>by cases h
 |_::_,[],h=>by cases h
 |x::a,y::b,h=>by rw[aAz,aAz]at h;injection h with c d;rw[jR c,fO d]
def KA:f∈FA J fs↔f∈fs:=by
 have h:=(D1 S5<|fs.map<|m6 J).mem_iff (a:=m6 J f);rw[fI]at h;constructor
 .intro q;obtain⟨g,b,e⟩:=aAl.mp (h.mp<|aBA q);rw[<-jR e];exact b
 .intro q;obtain⟨g,b,e⟩:=aAl.mp (h.mpr<|aBA q);rw[<-jR e];exact b
def tY [Tabs]{J:List G.V}{fs:List (G.V×Int)}(h:fs.Nodup):((fs.map (m6 J)).map S5).Nodup:=by rw[aBJ];exact rE (λa b e=>xW (J:=J) e) h
def F1 (h:gT k l):l.Nodup:=h.imp λ{a b} q e=>by subst e;rw[TS.lex_irrefl]at q;cases q
def G5 {J:List G.V}{fs:List (G.V×Int)}(h:(fs.map (m6 J)).Nodup):fs.Nodup:=(aBf.mp h).imp λ{a b} n e=>n (by rw[e])
def AE {J:List G.V}{fs gs:List (G.V×Int)}(a:dN J fs)(b:dN J gs):fs=gs:=by
 have c:=G5 (F1 a.2);have d:=G5 (F1 b.2);have p:fs.Perm gs:=(aCi c d).mpr λf=>by rw[a.1,b.1]
 exact fO (aF a.2 b.2 (p.map _))
def qC (h:dN J fs):j1 J=fs:=by unfold j1;have q:∃fs,dN J fs:=⟨fs,h⟩;rw[dif_pos q];exact AE q.choose_spec h
def tN [Tabs]{J:List G.V}{fs:List (G.V×Int)}(a:fs.Nodup)(h:∀n d,(n,d)∈fs↔G.IsFace J n d):dN J (FA J fs):=by refine⟨λf=>by rw[KA];exact h f.1 f.2,?_⟩;rw[<-fI];exact aR (tY a)
def a0e [Tabs]{Φ:(List D->R D)->Hp->(bc->Prop)->bc->Prop}{J:List G.V}{m:G.V}(hz:Land J m)(l:J.length<=14):
  K3 (B7 (S4 ffC (ffB Φ) 5000 (zP Φ (.lst (J.map vd)) (G.f6 m J) [] [] [G.f6 m J] .no .no .no .no)) λρ=>(((rO 3 ρ).bind zy).bind λds=>R.ok (D.lst ds)).bind λd=>R.ok (Out.rt d))=.ok (.lst ((j1 J).map (m6 J))):=by
 refine IR (Iv:=λn ρ=>∃fs U W a b c d,ρ=zP Φ (.lst (J.map vd)) (G.f6 m J) (fs.map<|m6 J) U W a b c d/\G.LInv J (G.f6 m J) fs (λe=>u8 e∈U.map (·.1)) W/\U.length<=gU J fs/\W.length<=1+gU J fs/\W.length+(J.length*J.length-gU J fs)<n) ?_ ?_ ?_ (by rintro ρ ⟨_,_,_,_,_,_,_,_,_,_,_,h⟩;lia)
 .rintro n ρ ⟨fs,U,W,a,b,c,d,rfl,L,t,u,v⟩;by_cases g:W=[]
  .subst g;exact .inl rfl
  .refine .inr ⟨?_,?_⟩
   .have w:(0:Int)<((W.map u8).length:Int):=by have:=aDi.mpr g;rw[aAj];lia
    show(R.ok<|D.bl<|decide ((0:Int)<((W.map u8).length:Int))).bind qN=_;rw[decide_eq_true w];rfl
   .obtain⟨x,y,z,A,B,C,E,e,H,I,o,q⟩:=VP (Φ:=Φ) (a:=a) (b:=b) (c:=c) (d:=d) hz L t u v g;exact⟨_,e,x,y,z,A,B,C,E,rfl,H,I,o,q⟩
 .refine⟨[],[],[G.f6 m J],.no,.no,.no,.no,rfl,?_,aAh _,aAh _,?_⟩
  .have:=G.BO hz.good;refine⟨this.face,this.nd,λe=>?_,this.cl,this.wt,this.ne⟩;rw[<-this.wk e];simp
  .have N:J.length*J.length<=14*14:=aEm l l;show 1+(J.length*J.length-0)<5000
   lia
 .rintro n ρ ⟨fs,U,W,a,b,c,d,rfl,L,t,u,v⟩ k;have r:W=[]:=by
   cases W with
   |nil=>rfl
   |cons p W=>have k:(R.ok<|D.bl<|decide ((0:Int)<(((p::W).map u8).length:Int))).bind qN=.ok false:=k;rw[decide_eq_true (by simp;try lia)]at k;cases k
  subst r;obtain⟨g,O⟩:=G.OT hz.good L;have Q:=tN L.nd O;rw[qC Q];have few:=G.aI hz.good.solid hz.good.ord L.nd L.face;have s:=G.dJ hz.good.solid hz.good.ord L.face;have N:J.length*J.length<=14*J.length:=aDI _ l;have T:(fs.map<|m6 J).length<=63:=by rw[aAj];lia
  have Y:zy (.lst (fs.map<|m6 J))=.ok ((FA J fs).map (m6 J)):=by show(if _ then _ else _)=_;rw[kd ⟨aBp.mpr λd hd=>by obtain⟨f,_,rfl⟩:=aAl.mp hd;rfl,tY L.nd,T⟩,fI]
  show K3 ((((R.ok<|D.lst<|fs.map<|m6 J).bind zy).bind λds=>R.ok (D.lst ds)).bind λd=>R.ok (Out.rt d))=_;rw[R.aa0,Y];rfl
theorem FM:∀{ds:List D},(∀d∈ds,∃v,d=vd v)->(ds.filterMap vZ).map vd=ds
 |[],_=>rfl
 |d::ds,h=>by obtain⟨v,rfl⟩:=h d (.head _);rw[List.filterMap_cons_some (wD v),aAz,FM λd a=>h d (.tail _ a)]
section
variable [Tabs]
def KW (J:List G.V):∀d∈J.map vd,N4 d=true:=λd a=>by obtain⟨v,_,rfl⟩:=aAl.mp a;rfl
def X1 (J:List G.V):S9 (J.map vd)=(c9 J).map vd:=by unfold c9;refine(FM λd a=>?_).symm;obtain⟨v,_,rfl⟩:=aAl.mp ((G8 (KW J) d).mp a);exact⟨v,rfl⟩
def q9 (J:List G.V):(c9 J).Pairwise λa b=>G.e9 (b-a):=ZP (by rw[<-X1];exact N9 _)
def LB {v:G.V}{J:List G.V}:vd v∈J.map vd↔v∈J:=by rw[aAl];exact⟨by rintro⟨u,a,e⟩;rw[<-BH e];exact a,λh=>⟨v,h,rfl⟩⟩
def t5 {J:List G.V}{v:G.V}:v∈c9 J↔v∈J:=by rw[<-LB,<-X1,G8 (KW J),LB]
def T4 (J:List G.V):(c9 J).Nodup:=(q9 J).imp λ{a b} h e=>by subst e;exact G.G9 h
def dI {a b:List G.V}(f:a.Pairwise λa b=>G.e9 (b-a))(g:b.Pairwise λa b=>G.e9 (b-a))(h:∀v,v∈a↔v∈b):a=b:=by refine TY (eJ (EI f) (EI g) λd=>?_);rw[aAl,aAl];exact⟨λ⟨v,c,e⟩=>⟨v,(h v).mp c,e⟩,λ⟨v,c,e⟩=>⟨v,(h v).mpr c,e⟩⟩
def OW (h:(c9 J).length<=63):my (.lst (J.map vd))=.ok ((c9 J).map vd):=by show(if _ then _ else _)=_;rw[kd ⟨PC J,by rw[X1,aAj];exact h⟩,X1]
def kQ (h:G.j7 a)(c:∀v,v∈a->v∈b):G.j7 b:=by obtain⟨A,d,B,f,C,g,D,k,e⟩:=h;exact⟨A,c A d,B,c B f,C,c C g,D,c D k,e⟩
def ZZ (h:G.j7 J):G.T5 J=3:=by
 by_cases e:G.T5 J=3
 .exact e
 .exact absurd h (G.MX e)
def EH (J:List G.V):(c9 J).length<=J.length:=G.z8 (T4 J) λv a=>t5.mp a
def U9 (d:R5 900 J)(f:G.j7 J)(c:(c9 J).length<=63):∃m r,c9 J=m::r/\Land (m::r) m:=by
 have a:G.j7 (c9 J):=kQ f λv g=>t5.mpr g;cases e:c9 J with
 |nil=>rw[e]at a;obtain⟨A,k,_⟩:=a;cases k
 |cons m r=>
  refine⟨m,r,rfl,?_⟩;have b:=q9 J;rw[e]at a c b;refine⟨⟨a,b,.head _,λX l=>?_⟩,⟨λP n=>d.1 P (t5.mp (by rw[e];exact n)),by lia⟩,c,rfl⟩;rcases aAd.mp l with h|h
  .exact .inl h
  .exact .inr ((aAx.mp b).1 X h)
def VN (a:R5 1000 J)(b:G.j7 J):D8 [.lst (J.map vd)]=.ok .non:=by simp only[D8,u4];exact kd ⟨a,ZZ b⟩
def qz (h:Land (m::J) m):G6 [.lst ((m::J).map vd)]=.ok (u8 (G.f6 m (m::J))):=by simp only[G6,u4];exact kd h
def cx (h:Land (m::J) m)(a:(m::J).length<=14):G3 (u8 (G.f6 m (m::J))) (J1 [.lst ((m::J).map vd)]) (D3 [.lst ((m::J).map vd)])=.ok (.lst ((j1 (m::J)).map (m6 (m::J)))):=by simp only[G3,show J1 [.lst ((m::J).map vd)] [.non]=.ok (.lst ((m::J).map vd))from rfl,u4];exact kd ⟨h,a,rfl,rfl,rfl⟩
def RF (a:R5 900 J)(b:G.j7 J)(c:(c9 J).length<=14):V9 [.lst (J.map vd)]=.ok (.lst ((j1 (c9 J)).map (m6 (c9 J)))):=by simp only[V9,u4];exact kd ⟨a,b,c⟩
omit [Tabs]in
theorem xk {α:Type}:∀l:List α,∃b:List α,b.Nodup/\∀x,x∈b↔x∈l
 |[]=>⟨[],aDm,λ_=>Iff.rfl⟩
 |a::l=>by
  obtain⟨b,c,h⟩:=xk l;by_cases d:a∈l
  .exact⟨b,c,λx=>by rw[h,aAd];exact⟨.inr,λq=>q.elim (λe=>by rw[e];exact d) id⟩⟩
  .exact⟨a::b,aAF.mpr ⟨λz=>d ((h a).mp z),c⟩,λx=>by rw[aAd,aAd,h]⟩
def C7 (h:Land J m)(p:J.length<=14):dN J (j1 J):=by
 classical
 obtain⟨fs,b,c⟩:=xk ((G.cands J).filter λf=>decide (G.IsFace J f.1 f.2));have g:∀n d,(n,d)∈fs↔G.IsFace J n d:=λn d=>by
  rw[c,aBQ];constructor
  .intro q;exact of_decide_eq_true q.2
  .intro q;refine⟨?_,decide_eq_true q⟩;obtain⟨A,k,B,l,C,o,_,e⟩:=G.lE q;unfold G.cands;rw[<-e];exact aBg.mpr ⟨A,k,aBg.mpr ⟨B,l,aAl.mpr ⟨C,o,rfl⟩⟩⟩
 have a:=tN b g;rw[qC a];exact a
def oM (c:J.Pairwise λa b=>G.e9 (b-a))(d:G.IsFace J f.1 f.2)(h:X∈G.j9 J f):X∈J:=(G.d4.mp<|(d.aa2 c).aa3 h).1
def jN (d:R5 900 J)(g:G.j7 J)(a:(c9 J).length<=14)(h:X∈t8 J):X∈J:=by obtain⟨m,r,e,L⟩:=U9 d g (by lia);unfold t8 at h;rw[t5,aBg]at h;obtain⟨f,b,c⟩:=h;rw[e]at b c a;have k:=C7 L a;have:=oM L.good.ord ((k.1 f).mp b) c;rw[<-e,t5]at this;exact this
def JZ (L:Land J m)(a:J.length<=14):((j1 J).flatMap (G.j9 J)).length<=200/\(c9 ((j1 J).flatMap (G.j9 J))).length<=14:=by
 have b:=C7 L a;have e:=G5 (F1 b.2);have few:=G.aI L.good.solid L.good.ord e λf c=>(b.1 f).mp c;have h:J.length*J.length<=14*14:=aEm a a;constructor
 .rw[List.length_flatMap]
  lia
 .refine aAr (G.z8 (T4 _) λv d=>?_) a;rw[t5,aBg]at d;obtain⟨f,c,g⟩:=d;exact oM L.good.ord ((b.1 f).mp c) g
end
def aP (h:0<b):X3 (.int a) (.int b)=.ok (.int (a.fmod b)):=nN (by omega)
def sE (h:0<b)(c:b<1000000000000000):N6 (.int a) (.int b)=.ok (.int (a.fdiv b)):=V5 ⟨by omega,v7 (K7 (n:=60) (by omega) (by omega))⟩
def pH {a b:Int}(h:0<b):0<=a.fmod b/\a.fmod b<b:=by have f:=PyProof.Rows.fdiv_fmod_facts a b;have g:=f.2.2.1 h;omega
def Q9 (a:r=.ok (.nx ρ))(b:K3 (F ρ)=x):K3 (B7 r F)=x:=by rw[a];exact b
def rj {n:Nat}(h:n<=1000000):cM [.int (n:Int)]=.ok ((aBF n).map λ(k:Nat)=>D.int (k:Int)):=by
 show(if nG 0 (n:Int) 1 then R.ok (uT 0 1<|gD 0 n 1)else R.bad)=_;rw[kd ⟨by decide,by decide,by decide,by decide,by omega,by omega⟩];have e:gD 0 (n:Int) 1=n:=by
  unfold gD;split
  .simp
  .omega
 rw[e];unfold uT;congr 1;refine aED λk _=>?_;simp
section
variable [Tabs]
def iU {J:List G.V}(g:R5 900 J)(h:G.j7 J)(c:(c9 J).length<=14):∀X,X∈t8 J↔∃f:G.V×Int,G.IsFace (c9 J) f.1 f.2/\X∈G.j9 (c9 J) f:=λX=>by obtain⟨m,r,e,L⟩:=U9 g h (by lia);unfold t8;rw[t5,aBg];rw[e]at c⊢;have d:=C7 L c;exact⟨by rintro⟨f,a,b⟩;exact⟨f,(d.1 f).mp a,b⟩,by rintro⟨f,a,b⟩;exact⟨f,(d.1 f).mpr a,b⟩⟩
def yO {l:List G.V}(h:l.Pairwise λa b=>G.e9 (b-a)):c9 l=l:=dI (q9 _) h λv=>t5
def sD {J:List G.V}(l:R5 900 J)(o:G.j7 J)(p:(c9 J).length<=14):G.j7 (t8 J)/\R5 900 (t8 J)/\c9 (t8 J)=t8 J/\(t8 J).length<=14/\t8 (t8 J)=t8 J/\∀n d,G.IsFace (t8 J) n d↔G.IsFace (c9 J) n d:=by
 have s:=iU l o p;have c:(t8 J).Pairwise λa b=>G.e9 (b-a):=q9 _;have q:G.j7 (c9 J):=kQ o λv g=>t5.mpr g;have t:=q9 J;obtain⟨m,r,e,L⟩:=U9 l o (by lia);have u:dN (c9 J) (j1<|c9 J):=by have h:=p;rw[e]at h⊢;exact C7 L h
 have B:(t8 J).length<=14:=by have h:=p;unfold t8;rw[e]at h⊢;exact(JZ L h).2
 have C:j1 (c9 J)≠[]:=λz=>by
  obtain⟨A,O,_⟩:=q;have:∃f:G.V×Int,G.IsFace (c9 J) f.1 f.2:=by have k:=L;rw[<-e]at k;have:=G.gK k.good.solid k.good.ord k.good.mem k.good.least;exact⟨_,this⟩
  obtain⟨f,w⟩:=this;have:=(u.1 f).mpr w;rw[z]at this;cases this
 obtain⟨H,x⟩:=aFe _ C;have E:=G.ES q t c s ((u.1 H).mp x);have sz:R5 900 (t8 J):=⟨λP I=>l.1 P (jN l o p I),by lia⟩;have y:=yO c;refine⟨E,sz,y,B,?_,λn d=>G.SC q t c s _ C u.1⟩;refine dI (q9 _) c λv=>?_;have N:=iU sz E (by rw[y];exact B) v;show v∈t8 (t8 J)↔_;rw[N,y];constructor
 .rintro⟨f,w,g⟩;exact oM c w g
 .exactλg=>G.LM q t c s g
end
end M
namespace DL
open PySem PySem.Spec L2
def US {K:Params->lr}{P c:bc}{tb:List (Pos×Str)}{a:List bc}(b:P∈a)(d:∀w:cy,PySem.W.codeHdIn (K w.params) c P=true):∀p∈[(P,tb)],p.1∈a/\∃c,∀w:cy,PySem.W.codeHdIn (K w.params) c p.1=true:=λp e=>by rw[aBh.mp e];exact⟨b,c,d⟩
def Got (K:lr)(x:Str)(st:d9):Prop:=∃f a,PySem.W.nsIn K cq x=some (some<|.ref f)/\Fun K x x st f a
def TV (K:lr)(x:Str)(st:d9)(b:bc):Prop:=∃f c a,PySem.W.nsIn K cq x=some (some<|.ref f)/\PySem.W.codeHdIn K a b=true/\FunC K x x st f c a
def cP (K:lr)(mg:cH)(x:Str)(st:d9):Prop:=∃f a,mg x=some (.ref f)/\Fun K x x st f a
def yx (K:lr)(mg:cH)(x:Str)(st:d9)(b:bc):Prop:=∃f c a,mg x=some (.ref f)/\PySem.W.codeHdIn K a b=true/\FunC K x x st f c a
section
variable{kV doc pm L ct:af}
def ZO (a:PySem.W.nsIn K cq x=some (some (.ref f)))(l:K.lookup f=some ⟨d,e,.func (PySem.W.fnOf x x (C8 st) (p6 st) (c6 st) .none kV doc pm g L ct),b⟩)
 (c:PySem.W.codeIn K L x=true) (k:PySem.W.keepIn K (.ref f)=true):Got K x st:=⟨f,_,a,LF l c k⟩
def RZ (a:PySem.W.nsIn K cq x=some (some (.ref f)))(l:K.lookup f=some ⟨g,h,.func (PySem.W.fnOf x x (C8 st) (p6 st) (c6 st) .none kV doc pm m L ct),b⟩)
 (c:PySem.W.codeIn K L x=true) (k:PySem.W.keepIn K (.ref f)=true) (e:L=.ref cd) (n:PySem.W.codeHdIn K cd d=true):TV K x st d:=⟨f,_,cd,a,n,VE l e c k⟩
def Got.def (g:Got K x st)(X:K.In h)(G:h.Ns cq mg):cP K mg x st:=let⟨f,c,a,b⟩:=g;⟨f,c,PySem.W.mg_of X G a,b⟩
def TV.def (g:TV K x st c)(X:K.In h)(G:h.Ns cq mg):yx K mg x st c:=let⟨f,d,e,a,b⟩:=g;⟨f,d,e,PySem.W.mg_of X G a,b⟩
def G4 (a:sc.kind=.function:=by rfl)(b:sc.isCoroutine=false:=by rfl)(c:sc.isGenerator=false:=by rfl)(d:N.Nodup:=by decide+kernel)(e:N.take ps.length=ps:=by rfl)(f:∀x∈ps,sc.names.lookup x=some .local\/sc.names.lookup x=some .cell:=by decide+kernel)(g:∀y∈sc.names,y.2≠.free:=by decide+kernel):FnScope N ps sc:=⟨a,b,c,d,e,f,g⟩
variable [Tabs]
def m8 (g:cP K mg x st)(S:FnScope N ps (c6 st))(h:∀{f:bc} {L:af} {A:cv} {a:List Env} {s:bb} {H:Hp} {E:XK},Room k (A.deeper (aCK x (c6 st) s.heap.objs.size f L))->(A.deeper (aCK x (c6 st) s.heap.objs.size f L)).units+64<ee->(A.deeper (aCK x (c6 st) s.heap.objs.size f L)).units+130<ee->N.Nodup->
  aW (RN P w K mg base N x (c6 st) f L A a s H E) (p6 st) F) (l:∀ds d,ds.length=ps.length->m ds=.ok d->K3 (F (j4 N ds))=.ok d) (n:∀(kV doc pm:af) (o:Option bc) (L ct:af) (b:List af),b.length=ps.length->bindArgs (PySem.W.fnOf x x (C8 st) (p6 st) (c6 st) .none kV doc pm o L ct) ⟨b,[]⟩=pure (ps.zip b):=by
  intro _ _ _ _ _ _ b p;rcases b with _|⟨_,_|⟨_,_|⟨_,_|⟨_,_|⟨_,_|⟨_,_|⟨_,_⟩⟩⟩⟩⟩⟩⟩<;>first|rfl|exact absurd p (by simp)):w9 P w K mg base (k+1) x ps.length m:=by
 obtain⟨f,r,q,e⟩:=g;exact XZ e S (e.binds n) q (λL A a s H E c=>h c c.units c.ae4 S.nd) l
end
end DL
namespace DL
open PySem PySem.Spec PySem.Calls PySem.W Builtin Builtin.ObjectAttr Builtin.Getset_descriptor
open PyProof.Rows hiding St
section
variable{prog:cp} {w:cy} {A:cv} {E:B4} {K:Frag} {h:df} {g:Array GenState} {d:Drawn} {t:Nat} {os:OsState} {a C:bc} {o:Obj}
end
end DL
namespace DL
open PySem PySem.Spec L2
open PyProof.Rows hiding St
variable [Tabs]
section
variable{X:Cx} {pos:Pos}
end
section
variable{X:Cx} {pins:N2} {σ:St} {H H':Hp} {s s':bb}
end
section
variable{K:lr} {H9 H:Hp} {O0 O:bc->Prop} {σ:St} {ρ:Ev}
end
section
variable{X:Cx} {pos pf np:Pos}
end
section
variable{X:Cx} {pos:Pos}
end
section
variable{X:Cx} {pos:Pos}
end
section
end
section
end
section
abbrev AW (X:Cx)(e:dA)(es:List dA):Prop:=a9 (e::es) X.env=(false,ek e X.env)::a9 es X.env
def A7 {i:Int}{j}:PB X (.Constant (.int i) j a) (WF (.int i)):=d6.pb
def FU {e1:dA}{b:Ev->R D}(c:w9 X.prog X.w X.K X.mg X.base k x 1 m)(e:Room f X.A)(a1:PD X e1 b)(g:k<=f:=by decide)(d:AW X e1 []:=by rfl)(h:Gl X x:=by rfl)(l:(x==lM)=false:=by decide)(n:(d3 a (a9 [] X.env)).any (·.1)=false:=by rfl):
 PD X (.Call (.Name x p) [e1] [] a) (λρ=>((o6 b R0) ρ).bind m):=wQ c (e.mono g) (i7 a1 p5 d) (A0 V7) h l d n
def X9 {e1 e2:dA}{b d:Ev->R D}(c:w9 X.prog X.w X.K X.mg X.base k x 2 m)(f:Room g X.A)(a1:PD X e1 b)(a2:PD X e2 d)(h:k<=g:=by decide)(e:AW X e1 [e2]:=by rfl)(l:AW X e2 []:=by rfl)(n:Gl X x:=by rfl)(o:(x==lM)=false:=by decide)(q:(d3 a (a9 [e2] X.env)).any (·.1)=false:=by rfl):
 PD X (.Call (.Name x p) [e1,e2] [] a) (λρ=>((o6 b (o6 d R0)) ρ).bind m):=wQ c (f.mono h) (i7 a1 (i7 a2 p5 l) e) (A0<|A0 V7) n o e q
def pc3 {e1 e2 a:dA}{d e f:Ev->R D}(c:w9 X.prog X.w X.K X.mg X.base k x 3 m)(h:Room l X.A)(a1:PD X e1 d)(a2:PD X e2 e)(a3:PD X a f)(n:k<=l:=by decide)(g:AW X e1 [e2,a]:=by rfl)(o:AW X e2 [a]:=by rfl)(q:AW X a []:=by rfl)(r:Gl X x:=by rfl)(s:(x==lM)=false:=by decide)(t:(d3 b (a9 [e2,a] X.env)).any (·.1)=false:=by rfl):
 PD X (.Call (.Name x p) [e1,e2,a] [] b) (λρ=>((o6 d (o6 e (o6 f R0))) ρ).bind m):=wQ c (h.mono n) (i7 a1 (i7 a2 (i7 a3 p5 q) o) g) (A0<|A0<|A0 V7) r s g t
def pc4 {e1 e2 b a:dA}{e f g h:Ev->R D}(c:w9 X.prog X.w X.K X.mg X.base k x 4 m)(n:Room o X.A)(a1:PD X e1 e)(a2:PD X e2 f)(a3:PD X b g)(q:PD X a h)(r:k<=o:=by decide)(l:AW X e1 [e2,b,a]:=by rfl)(s:AW X e2 [b,a]:=by rfl)(t:AW X b [a]:=by rfl)(u:AW X a []:=by rfl)(v:Gl X x:=by rfl)(y:(x==lM)=false:=by decide)(z:(d3 d (a9 [e2,b,a] X.env)).any (·.1)=false:=by rfl):
 PD X (.Call (.Name x p) [e1,e2,b,a] [] d) (λρ=>((o6 e (o6 f (o6 g (o6 h R0)))) ρ).bind m):=wQ c (n.mono r) (i7 a1 (i7 a2 (i7 a3 (i7 q p5 u) t) s) l) (A0<|A0<|A0<|A0 V7) v y l z
def BP {e1 e2:dA}{a b:Ev->R D}{j}(a1:PD X e1 a)(a2:PD X e2 b)(c:AW X e1 [e2]:=by rfl)(d:AW X e2 []:=by rfl):PD X (.Tuple [e1,e2] j e) (λρ=>((o6 a (o6 b R0)) ρ).bind bK):=wC (i7 a1 (i7 a2 p5 d) c)
def JG {e1 e2 a:dA}{b c d:Ev->R D}{j}(a1:PD X e1 b)(a2:PD X e2 c)(a3:PD X a d)(e:AW X e1 [e2,a]:=by rfl)(f:AW X e2 [a]:=by rfl)(g:AW X a []:=by rfl):PD X (.Tuple [e1,e2,a] j h) (λρ=>((o6 b (o6 c (o6 d R0))) ρ).bind bK):=wC (i7 a1 (i7 a2 (i7 a3 p5 g) f) e)
def DQ {id:String}{g:List D->R D}{e:dA}{f:Ev->R D}(d:aU X (.builtin id) g)(a:PB X e f)(h:Gl X x:=by rfl)(k:X.mg x=none:=by assumption)(l:dm x=some (.builtin id):=by decide+kernel)(m:x≠ "__name__":=by decide)(n:(x==lM)=false:=by decide)(c:AW X e []:=by rfl)(o:(d3 b (a9 [] X.env)).any (·.1)=false:=by rfl):
 PD X (.Call (.Name x p) [e] [] b) (λρ=>(o6 f R0 ρ).bind g):=R1 d (m9 a x6 c) h k l m n c o
def KM {g:List Str}{a:kb}{m:Pos}{c:dA}{fe:Ev->R D}(h:∀b e k l C,PD (JS X b k l ([x]++g) a (dQ X a C) C e) c fe)(n:([x]++g).Nodup:=by decide+kernel)(o:Loc (relabel a X.env) x:=by first|exact aCy rfl|exact aBP rfl)(p:(a.names.lookup x==some .cell)=true\/(relabel a X.env).names.lookup x=some .local:=by first|exact .inl rfl|exact .inr rfl):
  ∀(b:N2) (e:List bc) (f:Cx),(∃q r C,f=JS X b q r ([x]++g) a (dQ X a C) C e)->MU f (.Name x m) (λd ρ=>.ok (ρ.set 0 (.v d)))/\XH f [] (λ_=>.ok true)/\PD f c fe:=by
 rintro b e s ⟨k,l,C,rfl⟩;exact⟨l4 0 n rfl o p,UJ,h b e k l C⟩
def zk {l:List Str}{a:kb}{n:Pos}{f c:dA}{fe:Ev->R D}{ft:Ev->R Bool}(h:∀b e g k C,AZ (JS X b g k ([x]++l) a (dQ X a C) C e) c ft/\PD (JS X b g k ([x]++l) a (dQ X a C) C e) f fe)(o:([x]++l).Nodup:=by decide+kernel)(p:Loc (relabel a X.env) x:=by first|exact aCy rfl|exact aBP rfl)(q:(a.names.lookup x==some .cell)=true\/(relabel a X.env).names.lookup x=some .local:=by first|exact .inl rfl|exact .inr rfl):
  ∀(b:N2) (e:List bc) (m:Cx),(∃r s C,m=JS X b r s ([x]++l) a (dQ X a C) C e)->MU m (.Name x n) (λd ρ=>.ok (ρ.set 0 (.v d)))/\XH m [c] ft/\PD m f fe:=by
 rintro b e t ⟨g,k,C,rfl⟩;exact⟨l4 0 o rfl p q,SX (h b e g k C).1,(h b e g k C).2⟩
end
end DL
namespace DL
open PySem L2
variable [Tabs]
end DL
namespace M
open PySem L2 DL
variable [Tabs]
def GJ (h:C4 d<=40):IE d d=.ok (.bl false):=by unfold IE;rw[kd ⟨h,h⟩,J6];rfl
def xM (k:Int):Int:=6*k*k+5*k+8
def bQ:List D->R D
 |[.lst Y,.int k]=>if 0<=k/\k<=1000 then .ok (sF xM Y k)else .bad
 |_=>.bad
def cJ (Y:List D)(k:Int):Int:=match sF xM Y k with
 |.int i=>i
 |_=>0
def MS (d:M1 1048576 Y)(k:Int)(h0:0<=k)(b:k<=100):bQ [.lst Y,.int k]=.ok (.int (cJ Y k))/\bits (cJ Y k)<=2000000:=by
 obtain⟨c,e,a⟩:=JH d xM k;have f:cJ Y k=c:=by unfold cJ;rw[e]
 rw[f];refine⟨(kd ⟨h0,by lia⟩).trans (ll R.ok e),?_⟩;rcases a with a|rfl
 .exact v7 a
 .unfold xM;have g:0<=k*k:=aBd h0 h0;have h:k*k<=100*100:=Int.mul_le_mul b b h0 (by decide);rw[aFq];exact k9 (K7 (n:=30) (by lia) (by lia)) (by decide)
def dw (c w:Int):G.V:=⟨c.fmod w-w.fdiv 2,(c.fdiv w).fmod w-w.fdiv 2,(c.fdiv<|w*w).fmod w-w.fdiv 2⟩
def tmA (c:Int)(at_ j:Nat):Int:=(c.fdiv<|5+7*(at_:Int)+(j:Int)).fmod 5-2
def YG (P:G.V)(t:Int)(w:G.V):G.V:=⟨P.x+t*w.x,P.y+t*w.y,P.z+t*w.z⟩
def ptA (c:Int)(b:G.V)(ws:List G.V)(at_:Nat):G.V:=match ws with
 |[]=>b
 |[u]=>YG b (tmA c at_ 0) u
 |u::v::_=>YG (YG b (tmA c at_ 0) u) (tmA c at_ 1) v
def rq (c:Int)(b:G.V)(ws:List G.V)(n:Nat):List G.V:=(aBF n).map (ptA c b ws)
structure Drawn (J:List G.V):Prop where
 ne:J≠[]
 len:J.length<=40
 sz:∀P∈J,Sz 100 P
 flat:¬G.j7 J
def WU (t:Int):Int:=(t*40009+6007).fmod 2147483647
def nB (s k:Int):Int:=(s*s+5003*k+11).fmod 2147483647
def uk (s:Int):Int:=s.fmod 2000000011-1000000000
def XN (t:Int):G.V:=⟨uk (nB (WU t) 0),uk (nB (nB (WU t) 0) 1),uk (nB (nB (nB (WU t) 0) 1) 2)⟩
def cC (way:Int):Int:=if way=0 then 3 else if way=1 then 5 else if way=2 then 9 else 2000000001
def WV (t way:Int):G.V:=if way=4 then XN t else dw t (cC way)
def ZH (t way:Int):Sz 40 (WV t way):=by
 unfold WV;split
 .have a:∀s,bits (uk s)<=40:=λs=>bits_sub (bits_fmod (by decide) (show bits 2000000011<=39 by decide)) (show bits 1000000000<=39 by decide);exact⟨a _,a _,a _⟩
 .have w:cC way≠0/\bits (cC way)<=39:=by
   unfold cC
   repeat' split
   all_goals decide
  have d:∀c:Int,bits (c.fmod (cC way)-(cC way).fdiv 2)<=40:=λc=>bits_sub (bits_fmod w.1 w.2) (bits_fdiv w.2);exact⟨d _,d _,d _⟩
open Classical in
def aN:List D->R D
 |[.int t,.int a]=>if bits t<=3000000/\0<=a/\a<=4 then .ok (vd (WV t a))else .bad
 |_=>.bad
def IU {t way:Int}(h:bits t<=3000000)(h0:0<=way)(a:way<=4):aN [.int t,.int way]=.ok (vd (WV t way)):=kd ⟨h,h0,a⟩
def OH (l:List Int):List D:=l.map D.int
def fP:List D->Option (List Int)
 |[]=>some []
 |.int i::r=>match fP r with
  |some l=>some (i::l)
  |none=>none
 |_=>none
@[simp]theorem uE:∀l:List Int,fP (OH l)=some l
 |[]=>rfl
 |i::l=>by have:=uE l;unfold OH at this;simp[OH,fP,this]
theorem nS:∀{ds:List D} {l:List Int},fP ds=some l->ds=OH l
 |[],l,h=>by simp[fP]at h;subst h;rfl
 |.int i::r,l,h=>by
  simp only[fP]at h;split at h
  .rename_i a e;injection h with h;subst h;rw[nS e];rfl
  .cases h
 |.tup _::_,_,h=>by simp[fP]at h
 |.lst _::_,_,h=>by simp[fP]at h
 |.bl _::_,_,h=>by simp[fP]at h
def yL (l:List Int):G.Sl:=⟨l.getD 0 0,l.getD 1 0,l.getD 2 0,⟨l.getD 3 0,l.getD 4 0,l.getD 5 0⟩,decide (l.getD 6 0=1)⟩
def bT (l:List Int):Prop:=l.length=7/\∀i∈l,bits i<=100
open Classical in
def J9:List D->R D
 |[p,.lst Y]=>match vZ p,fP Y with
  |some P,some l=>if bT l/\Sz 500 P then .ok (vd ((yL l).put P))else .bad
  |_,_=>.bad
 |_=>.bad
def xP {l:List Int}{P:G.V}(h:bT l)(a:Sz 500 P):J9 [vd P,.lst (OH l)]=.ok (vd ((yL l).put P)):=by simp only[J9,wD,uE];exact kd ⟨h,a⟩
def yX (c:Int):Int:=(c.fdiv 1029*271828182845904523536).fmod 200000000000000000001-100000000000000000000
def s7 (c k:Int):Int:=(c.fdiv k).fmod 7-3
def XA (c:Int):List Int:=(if c.fmod 3=2 then[s7 c 3*7654321,s7 c 21*7654321,s7 c 147*7654321]else[s7 c 3,s7 c 21,s7 c 147])++[yX c,0-(yX c).fdiv 7,(c.fdiv 1029).fmod 50,(c.fdiv 9).fmod 2]
def QK (c:Int):bT (XA c):=by
 have s:∀k,bits (s7 c k)<=4:=λk=>bits_sub (bits_fmod (by decide) (show bits 7<=3 by decide)) (show bits 3<=3 by decide);have m:∀k,bits (s7 c k*7654321)<=100:=λk=>k9 (bits_mul (s k) (show bits 7654321<=30 by decide)) (by decide);have a:∀k,bits (s7 c k)<=100:=λk=>k9 (s k) (by decide);have f:bits (yX c)<=99:=bits_sub (n:=98) (bits_fmod (by decide) (by decide)) (by decide);have r:∀x∈[yX c,0-(yX c).fdiv 7,(c.fdiv 1029).fmod 50,(c.fdiv 9).fmod 2],bits x<=100:=by simp only[aCe];exact⟨k9 f (by decide),bits_sub (show bits 0<=99 by decide) (bits_fdiv f),bits_fmod (by decide) (by decide),bits_fmod (by decide) (by decide),λ_ h=>by cases h⟩
 unfold XA;split
 .exact⟨rfl,aCe.mpr ⟨m _,aCe.mpr ⟨m _,aCe.mpr ⟨m _,r⟩⟩⟩⟩
 .exact⟨rfl,aCe.mpr ⟨a _,aCe.mpr ⟨a _,aCe.mpr ⟨a _,r⟩⟩⟩⟩
open Classical in
def V4:List D->R D
 |[.int c]=>if bits c<=3000000 then .ok (.lst (OH (XA c)))else .bad
 |_=>.bad
def CL {c:Int}(h:bits c<=3000000):V4 [.int c]=.ok (.lst (OH (XA c))):=kd h
def GI {J:List G.V}{n:G.V}{d:Int}(h:R5 900 J)(a:G.IsFace (c9 J) n d):Sz 2003 n:=by obtain⟨A,b,B,c,C,f,_,e⟩:=G.lE a;have z:∀X∈c9 J,Sz 1000 X:=λX g=>(h.1 X (t5.mp g)).mono;have:=oO (z A b) (z B c) (z C f);rw[e]at this;exact this
def V3 {J:List G.V}(d:R5 900 J)(g:G.j7 J)(b:(c9 J).length<=14):(∀f,f∈j1 (c9 J)↔G.IsFace (c9 J) f.1 f.2)/\j1 (c9 J)≠[]/\(j1 (c9 J)).length<=2744:=by obtain⟨m,r,e,L⟩:=U9 d g (by lia);have c:=b;rw[e]at c;have a:=C7 L c;rw[<-e]at a L;have h:=G5 (F1 a.2);have few:=G.IT h λf k=>(a.1 f).mp k;have l:(c9 J).length*((c9 J).length*(c9 J).length)<=14*(14*14):=aEm b (aEm b b);refine⟨a.1,λz=>?_,aAr few l⟩;have q:=G.gK L.good.solid L.good.ord L.good.mem L.good.least;have:=(a.1 (_,_)).mpr q;rw[z]at this;cases this
def intD:D->Int
 |.int i=>i
 |_=>0
def uF:Nat->List D->List D
 |_,[]=>[]
 |k,d::a=>.tup [.int (k:Int),d]::uF (k+1) a
theorem uA:∀(Y:List D) (k i:Nat),(uF k Y)[i]?=Y[i]?.map λd=>D.tup [.int ((k+i:Nat):Int),d]
 |[],_,_=>rfl
 |d::a,k,0=>rfl
 |d::a,k,i+1=>by rw[uF,aDf,aDf,uA a (k+1) i,Nat.add_right_comm];rfl
def SG (Y:List D):FX Y=uF 0 Y:=aDC λi=>by rw[lH,uA,aDR]
def AG (m:Nat):Nat->List D->List Int->List Int
 |_,[],a=>a
 |k,d::b,a=>AG m (k+1) b (a.set (k%m) (a.getD (k%m) 0+intD d))
def xQ (m:Nat):List Int:=(aBF m).map λ(k:Nat)=>5*(k:Int)*k+3*k
def x5 (Y:List D)(most:Int):Nat:=(4+(cJ Y 0).fmod (most-3)).toNat
def xN (Y:List D)(most:Int):List Int:=AG (x5 Y most) 0 ((Y.take 63).drop 2) (xQ<|x5 Y most)
def gB (Y:List D)(most:Int):List G.V:=(xN Y most).map λt=>WV t ((cJ Y 1).fmod 5)
theorem FY (m:Nat)(c:0<m):∀(ds:List D) (k:Nat) (ts:List Int),M1 1048576 ds->ts.length=m->(∀t∈ts,bits t<=1100000+k)->(AG m k ds ts).length=m/\∀t∈AG m k ds ts,bits t<=1100000+k+ds.length
 |[],k,ts,_,h,b=>⟨h,b⟩
 |d::ds,k,ts,e,h,b=>by
  have:=FY m c ds (k+1) (ts.set (k%m)<|ts.getD (k%m) 0+intD d) (λx g=>e x (.tail _ g)) (by simpa using h) (λt a=>by
   rcases List.mem_or_eq_of_mem_set a with a|rfl
   .exact k9 (b t a) (by lia)
   .have f:k%m<ts.length:=by rw[h];exact aDS _ c
    have l:bits (ts.getD (k%m) 0)<=1100000+k:=by rw[aAo,aAg f];exact b _ (aBV f)
    obtain⟨i,rfl,n⟩:=e d (.head _);exact bits_add l (k9 n (by lia)))
  refine⟨this.1,λt a=>k9 (this.2 t a) ?_⟩;simp only[aAv];lia
def gP (Y:List D){most:Int}(h0:4<=most):4<=x5 Y most/\(x5 Y most:Int)<=most/\(x5 Y most:Int)=4+(cJ Y 0).fmod (most-3):=by have:=pH (a:=cJ Y 0) (b:=most-3) (by lia);unfold x5;lia
def EM (m:Nat)(h:m<=20):(xQ m).length=m/\∀t∈xQ m,bits t<=1100000:=by
 unfold xQ;refine⟨by simp,λt a=>?_⟩;obtain⟨k,b,rfl⟩:=aAl.mp a;have c:k<m:=by simpa using b
 have d:(k:Int)*k<=20*20:=Int.mul_le_mul (by lia) (by lia) (by lia) (by decide);have e:0<=(k:Int)*k:=aBd (by lia) (by lia);rw[aFq];exact k9 (K7 (n:=30) (by lia) (by lia)) (by decide)
def RJ {Y:List D}{most:Int}(b:M1 1048576 Y)(h0:4<=most)(e:most<=20):(xN Y most).length=x5 Y most/\∀t∈xN Y most,bits t<=1100061:=by
 have f:=gP Y h0;have a:=EM (x5 Y most) (by lia);have:=FY (x5 Y most) (by lia) ((Y.take 63).drop 2) 0 (xQ<|x5 Y most) (λx c=>b x (aEz<|aDH c)) a.1 a.2;refine⟨this.1,λt d=>k9 (this.2 t d) ?_⟩;have:((Y.take 63).drop 2).length<=61:=by simp;lia
 lia
open Classical in
def fD:List D->R D
 |[.lst Y,.int a]=>if M1 1048576 Y/\Y.length<=63/\4<=a/\a<=20 then .ok (.lst ((gB Y a).map vd))else .bad
 |_=>.bad
def DC {Y:List D}{most:Int}(a:M1 1048576 Y)(b:Y.length<=63)(h0:4<=most)(c:most<=20):fD [.lst Y,.int most]=.ok (.lst ((gB Y most).map vd)):=kd ⟨a,b,h0,c⟩
def QU {Y:List D}{most:Int}(b:M1 1048576 Y)(h0:4<=most)(c:most<=20):(∀p∈gB Y most,Sz 40 p)/\4<=(gB Y most).length/\((gB Y most).length:Int)<=most:=by have t:=RJ b h0 c;have m:=gP Y h0;unfold gB;refine⟨λp d=>?_,by rw[aAj,t.1];lia,by rw[aAj,t.1];lia⟩;obtain⟨a,_,rfl⟩:=aAl.mp d;exact ZH ..
def cw (Y:List D):LA (.lst Y) (some 2) (some 63)=.ok (.lst ((Y.take 63).drop 2)):=by
 show R.ok (D.lst<|cutD Y (some 2)<|some 63)=_;rw[List.drop_take];show R.ok (D.lst<|List.take (min 63 Y.length-min 2 Y.length)<|List.drop (min 2 Y.length) Y)=_;by_cases h:Y.length<=2
 .rw[aFL (by lia),aFL (by lia)];simp
 .rw[aFQ (by lia:2<=Y.length)];by_cases a:Y.length<=63
  .rw[aEg (by simp;lia),aEg (by simp;lia)]
  .rw[aFQ (by lia)]
open Classical in
def fN (J:List G.V):List G.V:=if G.j7 J then J else match J with
 |[]=>[]
 |P::r=>(P::r)++[⟨P.x+1,P.y,P.z⟩,⟨P.x,P.y+1,P.z⟩,⟨P.x,P.y,P.z+1⟩]
open Classical in
def cK:List D->R D
 |[.lst a]=>match I0 a with
  |some J=>if J≠[]/\(∀p∈J,Sz 300 p)/\J.length<=1000 then .ok (.lst ((fN J).map vd))else .bad
  |_=>.bad
 |_=>.bad
def QI {α β:Type}{G:D->Ev->R Ev}{fe:Ev->R D}{ρ:Ev}(rep:α->D)(c:β->D)(g:α->β)(l:List α)(h:∀a∈l,∃b,G (rep a) ρ=.ok b/\fe b=.ok (c (g a))):u6 G (λ_=>.ok true) fe ρ (l.map rep)=.ok ((l.map g).map c):=by rw[aBJ];exact G1 rep _ l h
theorem pJ {α:Type}{G:D->Ev->R Ev}{F:Ev->R Out}{x:D}{Iv:Ev->Prop}(rep:α->D)(p:α->Prop)(g:Ev->Prop)(r:∀ρ,g ρ->Iv ρ):∀(l:List α) (ρ:Ev),g ρ->(∀a∈l,∀ρ,g ρ->(p a/\L0 G F (rep a) ρ=.ok (.rt x))\/(¬p a/\∃ρ2,L0 G F (rep a) ρ=.ok (.nx ρ2)/\g ρ2))->((∃a∈l,p a)/\F6 G F (l.map rep) ρ=.ok (.rt x))\/(¬(∃a∈l,p a)/\∃ρ2,F6 G F (l.map rep) ρ=.ok (.nx ρ2)/\Iv ρ2)
 |[],ρ,h,_=>.inr ⟨by rintro⟨a,q,_⟩;exact(by cases q),ρ,rfl,r ρ h⟩
 |a::l,ρ,h,s=>by
  have t:∀{o},L0 G F (rep a) ρ=.ok o->∃c,G (rep a) ρ=.ok c/\F c=.ok o:=λ{o} e=>by
   unfold L0 at e;cases d:G (rep a) ρ with
   |ok c=>rw[d]at e;exact⟨c,rfl,e⟩
   |ex z=>rw[d]at e;cases e
   |bad=>rw[d]at e;cases e
  rcases s a (.head _) ρ h with⟨k,e⟩|⟨k,ρ2,e,v⟩
  .obtain⟨c,d,m⟩:=t e;exact .inl ⟨⟨a,.head _,k⟩,iP d m⟩
  .obtain⟨c,d,m⟩:=t e;rw[aAz,U3 d m];rcases pJ rep p g r l ρ2 v (λb f=>s b (.tail _ f))with⟨⟨b,f,q⟩,n⟩|⟨q,n⟩
   .exact .inl ⟨⟨b,.tail _ f,q⟩,n⟩
   .exact .inr ⟨by
     rintro⟨b,f,u⟩;cases f with
     |head=>exact k u
     |tail _ f=>exact q ⟨b,f,u⟩,n⟩
def TC {α:Type}{G:D->Ev->R Ev}{F f:Ev->R Out}{x d:D}{l:List α}{ρ:Ev}(rep:α->D)(p:α->Prop)(b:Ev->Prop)(h:b ρ)(k:∀a∈l,∀ρ,b ρ->(p a/\L0 G F (rep a) ρ=.ok (.rt x))\/(¬p a/\∃ρ2,L0 G F (rep a) ρ=.ok (.nx ρ2)/\b ρ2))(c:(∃a∈l,p a)->x=d)(no:¬(∃a∈l,p a)->∀g,b g->K3 (f g)=.ok d):K3 (B7 (F6 G F (l.map rep) ρ) f)=.ok d:=by
 rcases pJ (Iv:=b) rep p b (λ_ h=>h) l ρ h k with⟨q,e⟩|⟨q,ρ2,e,m⟩
 .rw[e,<-c q];rfl
 .rw[e];exact no q ρ2 m
def yR (J:List G.V):C5 (J.map vd)<=5:=by
 induction J with
 |nil=>simp[C5]
 |cons v l a=>rw[aAz,C5];simp[C4,C5]at a⊢;lia
def UG (J:List G.V):IE (.lst (J.map vd)) (.lst [])=.ok (.bl (!J.isEmpty)):=by have:=yR J;unfold IE;rw[kd ⟨by rw[C4];lia,by simp[C4,C5]⟩];cases J<;>simp[u7,Y0]
def gw (W:List G.V)(u v:G.V):Prop:=G.cr u v≠0/\∃w∈W,G.c8 (G.cr u v) w≠0
def ck (W:List G.V)(u:G.V):Prop:=∃v∈W,gw W u v
def UN {P:G.V}{ps:List G.V}(h:∃u∈(P::ps).map (· -P),ck ((P::ps).map (· -P)) u):fN (P::ps)=P::ps:=by unfold fN;rw[kd];obtain⟨u,d,v,e,c,w,f,q⟩:=h;obtain⟨u,g,rfl⟩:=aAl.mp d;obtain⟨v,a,rfl⟩:=aAl.mp e;obtain⟨w,b,rfl⟩:=aAl.mp f;exact(G.nT<|.head _).mpr ⟨u,g,v,a,c,w,b,q⟩
def YY {P:G.V}{ps:List G.V}(h:¬∃u∈(P::ps).map (· -P),ck ((P::ps).map (· -P)) u):fN (P::ps)=(P::ps)++[⟨P.x+1,P.y,P.z⟩,⟨P.x,P.y+1,P.z⟩,⟨P.x,P.y,P.z+1⟩]:=by unfold fN;rw[kz];intro s;obtain⟨u,b,v,d,c,w,e,q⟩:=(G.nT<|aAU (a:=P)).mp s;exact h ⟨_,aBA b,_,aBA d,c,_,aBA e,q⟩
def KD {J:List G.V}(h:J≠[]):G.j7 (fN J):=by
 match J,h with
 |P::r,_=>
  unfold fN;split
  .assumption
  .exact G.zM P (.head _)
def HZ {J:List G.V}(h:J≠[])(a:∀p∈J,Sz 300 p)(b:J.length<=1000):cK [.lst (J.map vd)]=.ok (.lst ((fN J).map vd)):=by simp only[cK,u4];exact kd ⟨h,a,b⟩
def NM {J:List G.V}(c:∀p∈J,Sz 40 p):(∀p∈fN J,Sz 41 p)/\(fN J).length<=J.length+3:=by
 unfold fN;split
 .exact⟨λp a=>(c p a).mono,by lia⟩
 .match J,c with
  |[],c=>exact⟨λp a=>(nomatch a),aBb _⟩
  |P::r,c=>
   refine⟨λp a=>?_,by simp⟩;have b:=c P (.head _);have m:∀{i:Int},bits i<=40->bits i<=41:=λh=>k9 h (by lia);have d:∀{i:Int},bits i<=40->bits (i+1)<=41:=λh=>bits_add h (show bits 1<=40 by decide);rcases aAN.mp a with a|a
   .exact(c p a).mono
   .simp only[aAd,aAE,or_false]at a;rcases a with rfl|rfl|rfl
    .exact⟨d b.1,m b.2.1,m b.2.2⟩
    .exact⟨m b.1,d b.2.1,m b.2.2⟩
    .exact⟨m b.1,m b.2.1,d b.2.2⟩
end M
namespace DL
open PySem PySem.Spec L2
open PyProof.Rows hiding St st
variable [Tabs]
section
def RSF (X:Cx)(d:Hp)(e:bc->Prop)(r:R (List D))(D:Ends):Prop:=match r with
 |.ok f=>∀c b a,Same d b->b a=none->Reps X.K b e c f->D.rt (.ref a) (upd b a<|.lst c)
 |_=>False
def tSF (X:Cx)(a:Hp)(b:bc->Prop)(F:Ev->R (List D)):TS:=λD σ H=>∃O ρ,EnvOk X.K a b H O σ ρ/\aQ X.K O/\RSF X a b (F ρ) D
def UP (X:Cx)(st:List d9)(F:Ev->R (List D)):Prop:=∀a b,uK X st (tSF X a b F)
def MB (r:R Out)(F:Ev->R (List D)):R (List D):=match r with
 |.ok (.nx ρ)=>F ρ
 |_=>.bad
@[simp]def qx (ρ:Ev)(F:Ev->R (List D)):MB (.ok (.nx ρ)) F=F ρ:=rfl
def OD (c:PF X e f):UP X [.Return (some e) d] f:=λg h=>wZ (jB<|vV c)<|by rintro D σ H ⟨O,ρ,E,o,q⟩;exact⟨g,h,O,ρ,E,by
 cases b:f ρ with
 |ok p=>rw[b]at q;exactλk l a m n r=>q k l a (E.same.trans m) n (r.sub E.sub)
 |ex x=>rw[b]at q;exact q.elim
 |bad=>rw[b]at q;exact q⟩
def sM {st:d9}{rest:List d9}(d:mG X st F)(e:UP X rest G):UP X (st::rest) (λρ=>MB (F ρ) G):=λb c=>wZ (xE (d b c)<|e b c)<|by rintro D σ H ⟨O,ρ,E,f,q⟩;exact⟨O,ρ,E,f,by
 dsimp only at q;cases a:F ρ with
 |ok o=>
  rw[a]at q;cases o with
  |nx g=>exactλn p h l m k=>⟨h,g,l,m,q⟩
  |_=>exact aAi q
 |ex x=>rw[a]at q;exact aAi q
 |bad=>rw[a]at q;exact aAi q⟩
def spW (K:lr)(n:Nat)(m:List D->R D):Sp:=λf H Q _=>∃O c d,Reps K H O f c/\c.length=n/\(∀a,O a->∃o,H a=some o/\Mt o)/\Tb H/\aQ K O/\m c=.ok (.lst d)/\∀e b a,Same H b->b a=none->Reps K b O e d->Q (.ref a) (upd b a<|.lst e)
def QA (r:R (List D)):R D:=r.bind λa=>.ok (.lst a)
@[simp]def a0q (ds:List D):QA (.ok ds)=.ok (.lst ds):=rfl
def GY (h:QA r=.ok d):∃a,r=.ok a/\d=.lst a:=by
 cases r with
 |ok a=>cases h;exact⟨a,rfl,rfl⟩
 |ex x=>cases h
 |bad=>cases h
def unl (r:R D):R (List D):=match r with
 |.ok (.lst a)=>.ok a
 |.ex x=>.ex x
 |_=>.bad
@[simp]def a1s (ds:List D):unl (.ok (.lst ds))=.ok ds:=rfl
def DR (P:cp)(w:cy)(K:lr)(mg:cH)(base:df)(k:Nat)(x:Str)(n:Nat)(m:List D->R D):Prop:=
 (∃g a b,FnOk P w K mg base sZ k g a b (spW K n m)/\Binds K a b []/\PySem.W.keepIn K (.ref g)=true/\mg x=some (.ref g))/\∀c d,c.length=n->m c=.ok d->∃e,d=.lst e
def DR.cal {K:lr}(c:DR P w K mg base k x n m):w9 P w K mg base k x n m:=by obtain⟨⟨g,t,u,F,b,v,e⟩,y⟩:=c;refine⟨g,t,u,F.imp λL H Q E z=>?_,b,v,e⟩;obtain⟨O,h,d,r,l,p,A,B,e,q⟩:=z;obtain⟨C,rfl⟩:=y h d l e;refine⟨O,h,C,r,l,p,A,B,e,λN T a s f I=>q _ _ (s.trans<|j6 f _) (.lst (K8.of j3) (λz=>?_) (I.same<|j6 f _))⟩;obtain⟨o,J,_⟩:=p a z;rw[s _ _ J]at f;cases f
def MI {K:lr}{st:d9}(g:cP K mg x st)(S:FnScope N ps (c6 st))(u:∀{f:bc} {L:af} {A:cv} {a:List Env} {s:bb} {H:Hp} {E:XK},Room k (A.deeper (aCK x (c6 st) s.heap.objs.size f L))->(A.deeper (aCK x (c6 st) s.heap.objs.size f L)).units+64<ee->(A.deeper (aCK x (c6 st) s.heap.objs.size f L)).units+130<ee->N.Nodup->
   UP (RN P w K mg base N x (c6 st) f L A a s H E) (p6 st) F) (p:∀ds d,ds.length=ps.length->m ds=.ok d->QA (F (j4 N ds))=.ok d) (v:∀(kV l y:af) (B:Option bc) (L ct:af) (c:List af),c.length=ps.length->bindArgs (PySem.W.fnOf x x (C8 st) (p6 st) (c6 st) .none kV l y B L ct) ⟨c,[]⟩=pure (ps.zip c):=by
   intro _ _ _ _ _ _ c b;rcases c with _|⟨_,_|⟨_,_|⟨_,_|⟨_,_|⟨_,_|⟨_,_|⟨_,_⟩⟩⟩⟩⟩⟩⟩<;>first|rfl|exact absurd b (by simp)):DR P w K mg base (k+1) x ps.length m:=by
 obtain⟨f,C,I,n⟩:=g;refine⟨⟨f,C,ps,n.ok S (λJ H Q E z=>?_) (λL A a s H J Q E o z=>?_),n.binds v,n.kp,I⟩,λds d b e=>?_⟩
 .obtain⟨O,ds,d,r,b,_⟩:=z;rw[r.length];exact b
 .obtain⟨O,ds,d,r,b,T,U,Y,e,q⟩:=z;refine⟨_,u (L:=L) o o.units o.ae4 S.nd H O,O,_,lI r T U,Y,?_⟩;obtain⟨t,e1,h⟩:=GY (p ds _ b e);injection h with h;subst h;rw[e1];exact q
 .obtain⟨t,_,h⟩:=GY (p ds d b e);exact⟨t,h⟩
def cj (c:DR X.prog X.w X.K X.mg X.base k x n m)(B:Room k X.A)(r:HN X (e::es) f)(u:DO f n)(C:Gl X x:=by rfl)(J:(x==lM)=false:=by decide)(L:a9 (e::es) X.env=(false,ek e X.env)::a9 es X.env:=by rfl)(N:(d3 t (a9 es X.env)).any (·.1)=false:=by rfl):
  PF X (.Call (.Name x p) (e::es) [] t) (λρ=>(f ρ).bind λds=>unl (m ds)):=by
 obtain⟨⟨g,gd,ps,F,b,T,em⟩,U⟩:=c;refine uI λh s σ H Q I Y O0 O ρ E q=>?_;refine GB F B C em T b .nil WM r J L N h s σ H Q I ⟨Y,O0,O,ρ,E,?_⟩;dsimp only at q;cases l:f ρ with
 |ex z=>rw[l]at q;exact q
 |bad=>rw[l]at q;exact q
 |ok ds=>
  rw[l,R.aa0]at q;intro vs H1 v r1;rw[aBR];have y:=E.grow v;cases o:m ds with
  |ex z=>rw[o]at q;exact(q H<|Same.refl _).elim
  |bad=>rw[o]at q;exact aAi q
  |ok d=>rw[o]at q;obtain⟨rs,rfl⟩:=U ds d (u ρ ds l) o;exact⟨O,ds,rs,r1,u ρ ds l,y.trk,y.tab,qU I O E.trk,o,λws H2 a s2 r r2=>q ws H2 a (v.trans s2) r r2⟩
end
end DL
namespace SD
open PySem
def IsD (h:df)(d:bc)(es:Array jd)(ep:Nat):Prop:=∃o,h.get? d=some o/\o.ExactDict/\o.data=.dict es ep
def IsD.at (x:IsD h d es ep)(e:∀o,h.get? d=some o->h'.get? d=some o):IsD h' d es ep:=let⟨o,a,r⟩:=x;⟨o,e o a,r⟩
def IsD.type {s:bb}(x:IsD s.heap d es ep):s.TypeIs (.ref d) "dict":=let⟨o,a,r,_⟩:=x;⟨o,a,r.1⟩
section
variable{prog:cp} {w:cy} {A:cv} {E:B4} {s:bb} {d it:bc} {es:Array jd} {ep i:Nat}
def VQ {Q:B4}(f:(d==ij)=false)(c:IsD s.heap d es ep)
  (g:Q (.ref s.heap.objs.size) {s with heap:=s.heap.push {cls:=.type "dict_keyiterator",data:=.fields #[.ref d,.int 0 0,.int es.size 0,.int ep 0]}}):ai (be prog w) A (pyIter (.ref d)) Q E s:=by
 have b:=c.type;obtain⟨o,e,h,a⟩:=c;refine aEi b F.slot_dict_iter (aBn F.slot_dict_iter b F.entry_dict_iter (aAa ?_)<|F.args_dict_iter_1 _);unfold Builtin.Dict.dictSlotNone;refine aAa (wpAny_notOrdered_dict b<|aAb (?_:ai _ _ (aFU d>>=_) _ _ s));unfold aFU;rw[kz (by rw[f];decide)];refine aAa (aAb<|aAa<|wpAny_dictEntries e a<|aAa<|wpAny_dictEpoch e a<|aAa<|aAW<|aAb ⟨_,rfl, "dict_keyiterator",_,⟨_,aAq _ rfl,rfl⟩,aDs.lookup,?_⟩);simpa[et]using g
def EN {Q:Option af->bb->Prop}(q:A.handled=none)(g:s.heap.IsKeyIter it d i es.size ep)(r:IsD s.heap d es ep)
  (t:∀(e:i<es.size) h',h'.IsKeyIter it d (i+1) es.size ep->Heap.SameBut it s.heap h'->Q (some es[i].key) {s with heap:=h'}) (hE:es.size<=i->∀h',Heap.ExtBut it s.heap h'->Q none {s with heap:=h'}):ai (be prog w) A (fT (.ref it)) Q E s:=by
 have f:=g.typeIs;obtain⟨o,p,u,h⟩:=g;obtain⟨v,k,x,l⟩:=r;have n:Builtin.Dict_items.ownsTuple "dict_keyiterator"=false:=by decide
 unfold fT;refine aAa (aEa<|aCa (name:=aCD "__next__") f aDs<|aBn aDs f F.entry_dict_keyiterator_next (aAa<|aAb<|aAa<|aAa ?_)<|F.args_dict_keyiterator_next_1 _);refine aAa (aDl f<|aAb<|aAa<|aGi p h ?_);simp only[n,aAt,if_false];show ai _ _ (if(aDz d==Value.none)=true then _ else _) _ _ s;rw[kz (by intro z;cases z)];refine aAa (aAb<|aAa<|wpAny_dictEntries k l ?_);rw[kz (by simp)];refine aAa (aAb<|aAa<|wpAny_dictEpoch k l ?_);rw[kz (by simp)];refine aAb ?_;by_cases e:i<es.size
 .simp only[show¬((i:Int)<0)by lia,if_false,aBI,aAA e];refine aAa ?_;refine aAa (aDl f<|aAb<|aAa<|wpAny_isOneOf_keyiter f ?_);show ai _ _ (setField (.ref it) 1 (et<|(i:Int)+1)>>=_) _ _ s;refine aAa (aGj p h (by simp) ?_);have c:(s.heap.update it (Obj.mapFields (·.setIfInBounds 1 (et<|(i:Int)+1)))).IsKeyIter it d (i+1) es.size ep:=⟨_,aAT _ p (Obj.isFreed_of_fields<|Obj.data_mapFields h _),(Obj.cls_mapFields ..).trans u,by rw[Obj.data_mapFields h];simp[et]⟩;refine aAa (aAK (aAa (wpAny_isOneOf_keyiter (s:={s with heap:=s.heap.update it (Obj.mapFields (·.setIfInBounds 1 (et<|(i:Int)+1)))}) c.typeIs (?_:ai _ _ (pure es[i].key) _ _ _))));exact aAb (aAb ⟨_,rfl,aAb (t e _ c<|aEK ..)⟩)
 .have e:es.size<=i:=by lia
  simp only[show¬((i:Int)<0)by lia,if_false,aBI,aBM e];refine aAa ?_;refine aAa (aDl f<|aAb (?_:ai _ _ (setField (.ref it) 0 .none>>=_) _ _ s));refine aAa (aGj p h (by simp) (?_:ai _ _ (newExc (.type "StopIteration") []>>=_) _ _ _));refine aAa ?_;simp only[newExc,newTuple];refine aAa (aAW (aAa (m:=firstArgMember _ _) (aFw (a:=Value.none) (by first|rfl|(simp only[firstArgMember];rfl)) (aAW ?_ (by size_fits)))) (by size_fits));simp only[raiseNew];refine aAa (wpAny_handled ?_);rw[show A.in1.handled=none from q];refine aAa (aAb<|wpAny_throw ?_);refine aAa (aDk (T:= "StopIteration") (b:=true) ⟨_,aAq _ rfl,rfl⟩ aGk<|aAb<|hE e _<|((aEK ..).extBut.push _).push _)
end
def OR {prog:cp}{w:cy}{A:cv}(k:A.handled=none)(I d:bc)(p:d≠I)(es:Array jd)(ep:Nat):
  Walks prog w A I [I,d] [I] es.size (λi v=>∃e,es[i]?=some e/\v=e.key) (λi h=>h.IsKeyIter I d i es.size ep/\IsD h d es ep)where
 sub:=λb a=>by simp at a;simp[a]
 frame:=λ_ _ _ st l=>⟨Heap.IsKeyIter.at st.1 λo e=>l I (by simp) o e,st.2.at λo e=>l d (by simp) o e⟩
 item:=λi s Q E m st c=>EN k st.1 st.2 (hE:=λz=>by lia) λm f g n=>c _ f s.toks ⟨es[i],aAA m,rfl⟩ ⟨g,st.2.at λo e=>(n.2 d p).trans e⟩ λb o a e=>(n.2 b (λz=>a (by simp[z]))).trans e
 done:=λs Q E st c=>EN k st.1 st.2 (λz=>by lia) λ_ f q=>c f s.toks λb o a e=>q b o (λz=>a (by simp[z])) e
 self:=λ_ _ _ _ st c=>wpAny_pyIter_keyiter st.1 c
section
variable{prog:cp} {w:cy} {A:cv} {E:B4} {s:bb} {d:bc} {es:Array jd} {ep:Nat}
def YX (a:(d==ij)=false):PySem.W.KdlSrc prog w "dict" d d es.size (λi v=>∃e,es[i]?=some e/\v=e.key) (λh=>IsD h d es ep)where
 type:=λs h=>h.type
 there:=by rintro h ⟨o,g,_⟩;exact⟨aAf g,aAf g⟩
 keep:=λh c x k=>x.at λo e=>k d (.inl rfl) o e
 notList:=by decide
 notTuple:=by decide
 hint:=λA E s Q ok q=>PySem.W.kdl_hint_dict ok.type q
 iter:=λA s b ok=>⟨_,λi h=>h.IsKeyIter s.heap.objs.size d i es.size ep/\IsD h d es ep,λE Q q=>VQ a ok q,OR b _ d (by obtain⟨o,g,_⟩:=ok;exact aAm (aAf g)) es ep,⟨_,aAq _ rfl,rfl,rfl⟩,ok.at λo e=>aAc _ e⟩
def collect_dk {Q:List af->bb->Prop}(q:A.handled=none)(r:(d==ij)=false)(k:IsD s.heap d es ep)(t:es.size<=sizeLine)
  (u:∀h' tk,(∀b o,s.heap.get? b=some o->h'.get? b=some o)->Q (es.toList.map (·.key)) {s with heap:=h',toks:=tk}):ai (be prog w) A (collect (.ref d)) Q E s:=by
 have m:d<s.heap.objs.size:=by obtain⟨o,g,_⟩:=k;exact aAf g
 unfold collect;refine aAa (aGh<|aBl PySem.F.entry_proto_collect ?_);rw[aAL PySem.F.plain_proto_collect _];show ai _ A.in1 (newList []>>=λl=>again (.builtin "list.__iadd__" ⟨[l,.ref d],[]⟩)) _ _ s;have a:∀b o,s.heap.get? b=some o->(s.heap.push {cls:=.type "list",data:=.seq ([]:List af).toArray}).get? b=some o:=λb o e=>aAc _ e;have f:∀R:Result->bb->Prop,(∀h' tk n x,(∀b o,b≠s.heap.objs.size->(s.heap.push {cls:=.type "list",data:=.seq ([]:List af).toArray}).get? b=some o->h'.get? b=some o)->h'.get? s.heap.objs.size=some {cls:=.type "list",dict:=none,data:=.seq n x,slots:=#[]}->ItemsOf (λi v=>∃e,es[i]?=some e/\v=e.key) n es.size->R (.ok (.ret (.ref s.heap.objs.size))) {s with heap:=h',toks:=tk})->
   gh (be prog w) A (.builtin "list.__iadd__" ⟨[.ref s.heap.objs.size,.ref d],[]⟩) R {s with heap:=s.heap.push {cls:=.type "list",data:=.seq ([]:List af).toArray}}:=λR y=>aBl PySem.F.entry_list_iadd (by
  rw[aAL PySem.F.plain_list_iadd _];exact PySem.W.kdl_extend (s:={s with heap:=s.heap.push {cls:=.type "list",data:=.seq ([]:List af).toArray}}) (YX (es:=es) (ep:=ep) r) q (k.at λo e=>a d o e) s.heap.objs.size (aCC m) (aCC m) (.ref s.heap.objs.size) 0 (aAq _ rfl) y t)
 refine aAa (aAW<|aAb ⟨aBs PySem.F.plain_list_iadd _,f _ λh' tk B c z C h=>?_⟩);show ai _ A (load s.heap.objs.size>>=_) _ _ _;refine aAa (wpAny_load (s:={s with heap:=h',toks:=tk}) C<|aAb ?_);have H:B.toList=es.toList.map (·.key):=by
  apply aDC;intro i;rw[aAG,aAC,aAC];by_cases I:i<es.size
  .have p:i<B.size:=by rw[h.1];exact I
   obtain⟨e,J,L⟩:=h.2 i _ (aAA p);rw[J,aAA p,L];rfl
  .rw[aBM (by rw[h.1];lia),aBM (by lia)];rfl
 show Q B.toList _;rw[H];exact u h' tk λb o e=>z b o (aAm<|aAf e) (a b o e)
end
end SD
namespace DL
open PySem L2
section
variable [Tabs]
open Classical in
def sdR (i:Nat) (ρ:Ev):R (List D):=match ρ[i]? with
 |some (.d U)=>if(U.map (·.1)).all N4=true/\U.length<=63 then .ok (S9 (U.map (·.1)))else .bad
 |_=>.bad
theorem nR {K:lr}{H:Hp}{O:bc->Prop}:∀{es:List jd} {U:List (D×D)},mC K H O es U->u5 K H O (es.map (·.key)) (U.map (·.1))
 |[],[],_=>.nil
 |e::es,p::U,.cons h t=>by obtain⟨⟨a,b,r⟩,_⟩:=h;exact .cons ⟨.ref a,by show RelV (.ref a) e.key;rw[b];rfl,r⟩ (nR t)
def CD (i:Nat){x:Str}{p r t:Pos}(hh:X.calm=true)(hu:X.A.units+300<ee)(hN:X.N[i]?=some x:=by rfl)(hv:xU X.env.scope x:=by first|exact aCy rfl|exact aBP (aCy rfl)|exact aBP (aBP rfl))(h:(x==lM)=false:=by decide)(fm:(x==ma)=false:=by decide)
  (hg:Gl X "sorted":=by rfl) (hm:X.mg "sorted"=none:=by assumption) (hvb:dm "sorted"=some (.builtin "sorted"):=by decide+kernel) (he:a9 [.Name x r] X.env=(false,ek (.Name x r) X.env)::a9 [] X.env:=by rfl) (bh:(d3 t (a9 [] X.env)).any (·.1)=false:=by rfl):
  PF X (.Call (.Name "sorted" p) [.Name x r] [] t) (sdR i):=by
 refine uI λJ s σ H Q I H9 O0 O ρ E q=>?_;unfold sdR at q;cases e2:ρ[i]? with
 |none=>rw[e2]at q;exact aAi q
 |some sl=>
  rw[e2]at q;cases sl with
  |d U=>
   dsimp only at q;by_cases hc:(U.map (·.1)).all N4=true/\U.length<=63
   .rw[kd hc]at q;obtain⟨a,o,es,h1,_,_,h4,h5,h6,nd⟩:=E.slot i _ e2;refine aAR (J8 I hg hm hvb ?_ (by decide) (by decide));have mh:PA X [.Name x r] _:=G2 (L8 hN hv h fm) Z7 he;refine aBx (E9 (mh t J s σ H (λvs H1=>vs=[.ref a]/\H1=H) I ⟨_,h1,rfl,rfl⟩) λus z z9=>?_) he bh;obtain⟨vs,H1,L,r1,ev,eH⟩:=z9;subst ev eH;obtain⟨u,rfl,ru⟩:=vals1 r1;cases ru;obtain⟨og,rf⟩:=hc;obtain⟨T,Y,B,ep,hdat,ees⟩:=h5;have hD:SD.IsD z.heap a B ep:=⟨o,(L.hok a _ h4).1,Y,hdat⟩;have pt:∀d∈U.map (·.1),N4 d=true:=aBp.mp og;have st:u5 X.K H1 O (B.toList.map (·.key)) (U.map (·.1)):=by rw[ees];exact nR h6
    have hlen:(B.toList.map (·.key)).length=U.length:=by rw[st.length,aAj]
    have hsz:B.size=U.length:=by rw[<-hlen];simp
    have c:∀u∈B.toList.map (·.key),∃d,d∈U.map (·.1)/\N4 d=true/\HV z.heap u d:=λu hu=>by obtain⟨d,h,v,rv,rp⟩:=st.get hu;exact⟨d,h,pt d h,N8 L rp (A6<|pt d h) rv⟩
    refine TS.sorted_keys (vs:=B.toList.map (·.key)) (f:=true) (key:=JU z.heap) (C:=λs'=>∃h' m,s'={z with heap:=h',toks:=m}/\∀b o,z.heap.get? b=some o->h'.get? b=some o)
     (λ{Q'} hq=>SD.collect_dk (by simp[L.ok.hd hh]) T hD (by rw[hsz];exact aAr rf (by decide)) λh' m k=>hq _ ⟨h',m,rfl,k⟩)
     (λs' ⟨h',m,g,k⟩ s6 k6 x Y y hy prog w A E hA {Q} qq=>?_) (λh2 s' ⟨h',m,g,k⟩ s6 k6 A {Q} qq=>?_) (by rw[hlen];lia) λs' gm h' l ⟨h1,m,g,k⟩ pm srt k2 hl ⟨n,gl⟩=>?_
    .subst g;obtain⟨d,_,pd,ou⟩:=c x Y;obtain⟨d',_,pd',qh⟩:=c y hy;rw[fC pd ou,fC pd' qh]at qq;exact OJ pd pd' (ou.keeps λb o e _=>k6 b o (k b o e)) (qh.keeps λb o e _=>k6 b o (k b o e)) qq
    .subst g;refine AD (λx Y=>?_) h2 qq;obtain⟨d,_,pd,ou⟩:=c x Y;exact⟨d,pd,ou.keeps λb o e _=>k6 b o (k b o e)⟩
    .subst g;obtain⟨ml,za,r,uh⟩:=iJ (key:=JU z.heap) st pm srt (by rintro u d ⟨v,rv,rp⟩ h;exact fC (pt d h) (N8 L rp (A6<|pt d h) rv)) pt nd;have e3:ml=S9 (U.map (·.1)):=eJ uh (N9 _) λd=>by rw[r.mem_iff,G8 pt]
     subst e3;obtain⟨wv,lh,lg⟩:=za.ac0;have I2':=L.kept (h':=h1) (t':=m) k;have I3:=I2'.laid (a:=l) (o:=.lst wv) (h':=h') (t':=m) k2 hl ⟨by rw[lg.length,r.length_eq,aAj];exact aAr rf (by decide),gm,n,lh,gl⟩;exact⟨.ref l,_,I3,rfl,q wv _ l (Same.refl _) (I2'.hok.fresh hl) lg⟩
   .rw[kz hc]at q;exact aAi q
  |_=>exact aAi q
end
end DL
namespace M
open PySem L2 DL
variable [Tabs]
def lV (Y:List D) (most:Int):List G.V:=if((cJ Y 1).fdiv 5).fmod 3=0 then fN (gB Y most)else(fN<|gB Y most).map (yL<|XA<|(cJ Y 1).fdiv 5).put
open Classical in
def mU:List D->R D
 |[.lst Y,.int a]=>if M1 1048576 Y/\Y.length<=63/\4<=a/\a<=20 then .ok (.lst ((lV Y a).map vd))else .bad
 |_=>.bad
def RB {Y:List D}{most:Int}(a:M1 1048576 Y)(b:Y.length<=63)(h0:4<=most)(c:most<=20):mU [.lst Y,.int most]=.ok (.lst ((lV Y most).map vd)):=kd ⟨a,b,h0,c⟩
def dj {l:List Int}{P:G.V}(h:bT l)(a:Sz 50 P):Sz 300 ((yL l).put P):=by
 have g:∀k,bits (l.getD k 0)<=100:=λk=>by
  rw[aAo];cases e:l[k]? with
  |none=>exact(show bits 0<=100 by decide)
  |some i=>exact h.2 i (aAk e)
 have d:bits (P.x+l.getD 0 0*P.y)<=151:=bits_add (k9 a.1 (by decide)) (bits_mul (g 0) a.2.1);have m:bits (P.y+l.getD 1 0*P.z)<=151:=bits_add (k9 a.2.1 (by decide)) (bits_mul (g 1) a.2.2);have f:bits (P.z+l.getD 2 0*(P.x+l.getD 0 0*P.y))<=252:=bits_add (k9 a.2.2 (by decide)) (bits_mul (g 2) d);have ad:∀{x:Int} (k:Nat),bits x<=252->bits (x+l.getD k 0)<=300:=λk h=>k9 (bits_add h (k9 (g k) (by decide))) (by decide);have b:=k9 d (show 151<=252 by decide);have c:=k9 m (show 151<=252 by decide);unfold yL G.Sl.put;dsimp only;split
 .exact⟨ad 3 c,ad 4 b,ad 5 f⟩
 .exact⟨ad 3 b,ad 4 c,ad 5 f⟩
def JL (s:G.Sl){J:List G.V}(h:G.j7 J):G.j7 (J.map s.put):=G.NF s.unit (λX a=>by rw[<-s.ad8];exact aBA a) h
def SQ {Y:List D}{most:Int}(d:M1 1048576 Y)(h0:4<=most)(e:most<=20):G.j7 (lV Y most)/\(∀p∈lV Y most,Sz 300 p)/\((lV Y most).length:Int)<=most+3:=by
 obtain⟨f,b,h⟩:=QU d h0 e;have ne:gB Y most≠[]:=λz=>by rw[z]at b;simp at b
 have s:=KD ne;obtain⟨c,k⟩:=NM f;unfold lV;split
 .exact⟨s,λp a=>(c p a).mono,by lia⟩
 .refine⟨JL _ s,λp a=>?_,by rw[aAj];lia⟩;obtain⟨q,g,rfl⟩:=aAl.mp a;exact dj (QK _) (c q g).mono
def SV (c P:G.V):G.V×Int:=(G.cG c (G.o7 c),G.c8 (G.cG c<|G.o7 c) P)
def iS (A B C:G.V):SV (G.cr (B-A) (C-A)) A=G.d5 A B C:=rfl
def N0 (f:G.V×Int):D:=xA f.1 f.2
open Classical in
def iT:List D->R D:=v1 λa b c=>v1 λd e f=>qM (if(⟨a,b,c⟩:G.V)≠0/\Sz 2003 ⟨a,b,c⟩/\Sz 1000 ⟨d,e,f⟩then .ok (N0<|SV ⟨a,b,c⟩ ⟨d,e,f⟩)else .bad)
def tT {c P:G.V}(h:c≠0)(a:Sz 2003 c)(b:Sz 1000 P):iT [vd c,vd P]=.ok (N0 (SV c P)):=kd ⟨h,a,b⟩
open Classical in
def aT:List D->R D
 |[.lst a]=>match I0 a with
  |some J=>if R5 900 J/\G.j7 J/\(c9 J).length<=14 then .ok (.lst ((j1 (c9 J)).map N0))else .bad
  |_=>.bad
 |_=>.bad
def BZ {J:List G.V}(a:R5 900 J)(b:G.j7 J)(c:(c9 J).length<=14):aT [.lst (J.map vd)]=.ok (.lst ((j1 (c9 J)).map N0)):=by simp only[aT,u4];exact kd ⟨a,b,c⟩
def cE (a n:Nat):List D:=(List.range' a n).map λ(k:Nat)=>D.int (k:Int)
def pz {a b:Nat}(c:a<=1000000)(h:b<=1000000):cM [.int (a:Int),.int (b:Int)]=.ok (cE a (b-a)):=by
 show(if nG (a:Int) (b:Int) 1 then R.ok (uT a 1<|gD a b 1)else R.bad)=_;rw[kd ⟨by decide,by decide,by lia,by lia,by lia,by lia⟩];have e:gD (a:Int) (b:Int) 1=b-a:=by
  unfold gD;split
  .simp
  .lia
 rw[e];unfold uT cE;rw[List.range'_eq_map_range,aBJ];congr 1;refine aED λk _=>?_;simp
def WP {n:Nat}(h:n<=1000000):cM [.int (n:Int)]=.ok (cE 0 n):=by rw[rj h];unfold cE;rw[List.range_eq_range']
theorem qI {G:D->Ev->R Ev}{F:Ev->R Out}(Iv:Nat->Ev->Prop):∀{n a:Nat} {ρ:Ev},(∀i,a<=i->i<a+n->∀ρ,Iv i ρ->∃ρ2,L0 G F (.int (i:Int)) ρ=.ok (.nx ρ2)/\Iv (i+1) ρ2)->Iv a ρ->∃b,F6 G F (cE a n) ρ=.ok (.nx b)/\Iv (a+n) b
 |0,a,ρ,_,h=>⟨ρ,rfl,h⟩
 |n+1,a,ρ,d,h=>by
  obtain⟨ρ2,e,f⟩:=d a (aAh _) (by lia) ρ h;obtain⟨b,g,k⟩:=qI Iv (n:=n) (λi m f=>d i (by lia) (by lia)) f;refine⟨b,?_,by rw[show a+(n+1)=a+1+n by lia];exact k⟩;show F6 G F (.int (a:Int)::cE (a+1) n) ρ=_;unfold L0 at e;cases c:G (.int (a:Int)) ρ with
  |ok l=>rw[c]at e;exact(U3 c e).trans g
  |ex z=>rw[c]at e;cases e
  |bad=>rw[c]at e;cases e
def N5 (U:List (D×D)):List D:=U.map (·.1)
def HA (S:List G.V)(U:List (D×D)):Prop:=(N5 U).Nodup/\∀x∈N5 U,∃f:G.V×Int,x=N0 f/\G.IsFace S f.1 f.2
def Cov (S:List G.V)(U:List (D×D))(i j k:Nat):Prop:=∀A B C,S[i]?=some A->S[j]?=some B->S[k]?=some C->(G.Up S A B C->N0 (G.d5 A B C)∈N5 U)/\(G.Dn S A B C->N0 (G.d5 A C B)∈N5 U)
def U1 (S:List G.V)(U:List (D×D))(i j k:Nat):Prop:=∀b a c,b<a->a<c->(b<i\/(b=i/\(a<j\/(a=j/\c<k))))->Cov S U b a c
def HA.put {S:List G.V}{U:List (D×D)}{f:G.V×Int}{v:D}(h:HA S U)(b:G.IsFace S f.1 f.2):HA S (Y2 U (N0 f) v):=by
 refine⟨sT _ _ _ h.1,λx a=>?_⟩;rcases V8.mp a with a|rfl
 .exact h.2 x a
 .exact⟨f,rfl,b⟩
theorem qK {S:List G.V}:∀{l:List D},l.Nodup->(∀x∈l,∃f:G.V×Int,x=N0 f/\G.IsFace S f.1 f.2)->∃fs:List (G.V×Int),l=fs.map N0/\fs.Nodup/\∀f∈fs,G.IsFace S f.1 f.2
 |[],_,_=>⟨[],rfl,.nil,λf a=>by cases a⟩
 |x::l,c,h=>by
  obtain⟨f,rfl,a⟩:=h _ (.head _);obtain⟨d,e⟩:=aAF.mp c;obtain⟨fs,rfl,k,m⟩:=qK e λy n=>h y (.tail _ n);refine⟨f::fs,rfl,aAF.mpr ⟨λz=>d (aBA z),k⟩,λg b=>?_⟩;cases b with
  |head=>exact a
  |tail _ b=>exact m g b
def HA.few {S:List G.V}{U:List (D×D)}(d:G.j7 S)(f:S.Pairwise λa b=>G.e9 (b-a))(k:S.length<=14)(h:HA S U):U.length<=63:=by
 obtain⟨fs,e,l,g⟩:=qK h.1 h.2;have few:=G.aI d f l g;have c:=G.dJ d f g;have m:S.length*S.length<=14*S.length:=aDI _ k;have:U.length=fs.length:=by have:=ll aFr e;unfold N5 at this;rw[aAj,aAj]at this;exact this
 lia
def aG (S:List G.V)(c A:G.V):List Int:=S.map λX=>G.c8 c (X-A)
def IP (c A:G.V):G.c8 c (A-A)=0:=by simp[G.c8]
def GC {S:List G.V}{c A:G.V}(m:A∈S):(((∀X∈S,G.c8 c (X-A)<=0)/\∃X∈S,G.c8 c (X-A)<0)↔qP (aG S c A)=0/\rQ (aG S c A)<0)/\(((∀X∈S,0<=G.c8 c (X-A))/\∃X∈S,0<G.c8 c (X-A))↔rQ (aG S c A)=0/\0<qP (aG S c A)):=by
 have a:∀x,x∈aG S c A↔∃X∈S,G.c8 c (X-A)=x:=λx=>aAl;have d:(0:Int)∈aG S c A:=(a 0).mpr ⟨A,m,IP c A⟩;have ne:aG S c A≠[]:=λz=>by rw[z]at d;cases d
 have e:∀X∈S,G.c8 c (X-A)<=qP (aG S c A)/\rQ (aG S c A)<=G.c8 c (X-A):=λX b=>⟨vK ((a _).mpr ⟨X,b,rfl⟩),uS ((a _).mpr ⟨X,b,rfl⟩)⟩;have n:=vK d;have o:=uS d;obtain⟨Y,g,p⟩:=(a _).mp (AN ne);obtain⟨Z,k,q⟩:=(a _).mp (zO ne);refine⟨⟨λf=>?_,λh=>⟨λX b=>?_,Z,k,by lia⟩⟩,λf=>?_,λh=>⟨λX b=>?_,Y,g,by lia⟩⟩
 .obtain⟨h,X,b,l⟩:=f;have:=h Y g;have:=e X b
  lia
 .have:=e X b
  lia
 .obtain⟨h,X,b,l⟩:=f;have:=h Z k;have:=e X b
  lia
 .have:=e X b
  lia
open Classical in
def OK (S:List G.V) (U:List (D×D)) (A B C:G.V):List (D×D):=if G.Up S A B C then Y2 U (N0<|G.d5 A B C) (.bl true)else U
open Classical in
def VG (S:List G.V) (U:List (D×D)) (A B C:G.V):List (D×D):=if G.Dn S A B C then Y2 (OK S U A B C) (N0<|G.d5 A C B) (.bl true)else OK S U A B C
def OX {S:List G.V}{U:List (D×D)}{A B C:G.V}(b:A∈S)(c:B∈S)(d:C∈S)(h:HA S U):HA S (OK S U A B C)/\(∀x∈N5 U,x∈N5 (OK S U A B C))/\(G.Up S A B C->N0 (G.d5 A B C)∈N5 (OK S U A B C)):=by
 unfold OK;split
 .rename_i u;exact⟨h.put (G.mR b c d u),λx a=>V8.mpr (.inl a),λ_=>V8.mpr (.inr rfl)⟩
 .rename_i u;exact⟨h,λx a=>a,λz=>absurd z u⟩
def ZE {S:List G.V}{U:List (D×D)}{A B C:G.V}(a:A∈S)(b:B∈S)(c:C∈S)(h:HA S U):HA S (VG S U A B C)/\(∀x∈N5 U,x∈N5 (VG S U A B C))/\(G.Up S A B C->N0 (G.d5 A B C)∈N5 (VG S U A B C))/\(G.Dn S A B C->N0 (G.d5 A C B)∈N5 (VG S U A B C)):=by
 obtain⟨d,e,f⟩:=OX (B:=B) (C:=C) a b c h;unfold VG;split
 .rename_i u;exact⟨d.put (G.mR a c b<|G.GH.mp u),λx g=>V8.mpr (.inl (e x g)),λz=>V8.mpr (.inl (f z)),λ_=>V8.mpr (.inr rfl)⟩
 .rename_i u;exact⟨d,e,f,λz=>absurd z u⟩
def U1.step {S:List G.V}{U e:List (D×D)}{i j k:Nat}(h:U1 S U i j k)(g:∀x∈N5 U,x∈N5 e)(m:Cov S e i j k):U1 S e i j (k+1):=λc d f a b l=>by
 by_cases q:c<i\/(c=i/\(d<j\/(d=j/\f<k)))
 .intro A B C n o p;have:=h c d f a b q A B C n o p;exact⟨λu=>g _ (this.1 u),λu=>g _ (this.2 u)⟩
 .have:c=i/\d=j/\f=k:=by lia
  obtain⟨rfl,rfl,rfl⟩:=this;exact m
def U1.j {S:List G.V}{U:List (D×D)}{i j:Nat}(h:U1 S U i j S.length):U1 S U i (j+1) 0:=λe f c a b l A B C g k d=>by have:c<S.length:=(aAy.mp d).1;exact h e f c a b (by lia) A B C g k d
def U1.i {S:List G.V}{U:List (D×D)}{i:Nat}(h:U1 S U i S.length 0):U1 S U (i+1) 0 0:=λe c f a b l A B C g d k=>by have:c<S.length:=(aAy.mp d).1;exact h e c f a b (by lia) A B C g d k
def U1.j0 {S:List G.V}{U:List (D×D)}{i:Nat}(h:U1 S U i 0 0):U1 S U i (i+1) 0:=λc d e a b l=>h c d e a b (by lia)
def U1.k0 {S:List G.V}{U:List (D×D)}{i j:Nat}(h:U1 S U i j 0):U1 S U i j (j+1):=λc d e a b l=>h c d e a b (by lia)
def PJ {S:List G.V}{U:List (D×D)}(d:G.j7 S)(K:HA S U)(h:U1 S U S.length 0 0)(x:D):x∈N5 U↔∃f:G.V×Int,x=N0 f/\G.IsFace S f.1 f.2:=by
 refine⟨K.2 x,λg=>?_⟩;obtain⟨f,e,l⟩:=g;obtain⟨A,B,C,⟨i,j,k,a,b,c,m,n⟩,q⟩:=(G.IK d).mp l;have:=h i j k a b (.inl (aAy.mp c).1) A B C c m n;rw[e];rcases q with⟨u,q⟩|⟨u,q⟩
 .rw[<-show G.d5 A B C=f from q];exact this.1 u
 .rw[<-show G.d5 A C B=f from q];exact this.2 u
def rB {J:List G.V}{U:List (D×D)}(g:R5 900 J)(k:G.j7 J)(l:(c9 J).length<=14)(K:HA (c9 J) U)(h:U1 (c9 J) U (c9 J).length 0 0):S9 (N5 U)=(j1 (c9 J)).map N0:=by
 obtain⟨m,r,e,L⟩:=U9 g k (by lia);have c:=l;rw[e]at c;have a:=C7 L c;rw[<-e]at a L;have pt:∀d∈N5 U,N4 d=true:=λd n=>by obtain⟨f,rfl,_⟩:=K.2 d n;rfl
 refine eJ (N9 _) ?_ λd=>?_
 .have:=a.2;unfold gT at this;unfold QC;rw[aBf]at this⊢;exact this
 .rw[G8 pt,PJ L.good.solid K h,aAl];constructor
  .rintro⟨f,rfl,b⟩;exact⟨f,(a.1 f).mpr b,rfl⟩
  .rintro⟨f,b,rfl⟩;exact⟨f,rfl,(a.1 f).mp b⟩
def BE {G:D->Ev->R Ev}{F:Ev->R Out}{Post:Ev->Prop}{n a:Nat}{ρ:Ev}(Iv:Nat->Ev->Prop)(d:∀i,a<=i->i<a+n->∀ρ,Iv i ρ->∃ρ2,L0 G F (.int (i:Int)) ρ=.ok (.nx ρ2)/\Iv (i+1) ρ2)(h0:Iv a ρ)(c:∀b,Iv (a+n) b->Post b):∃ρ2,F6 G F (cE a n) ρ=.ok (.nx ρ2)/\Post ρ2:=by obtain⟨b,e,h⟩:=qI Iv d h0;exact⟨b,e,c b h⟩
def ER {G:D->Ev->R Ev}{F c:Ev->R Out}{d:D}{n a:Nat}{ρ:Ev}(Iv:Nat->Ev->Prop)(f:∀i,a<=i->i<a+n->∀ρ,Iv i ρ->∃ρ2,L0 G F (.int (i:Int)) ρ=.ok (.nx ρ2)/\Iv (i+1) ρ2)(h0:Iv a ρ)(g:∀b,Iv (a+n) b->K3 (c b)=.ok d):K3 (B7 (F6 G F (cE a n) ρ) c)=.ok d:=by obtain⟨b,e,h⟩:=qI Iv f h0;rw[e];exact g b h
def RG {r:R Out}{ρ:Ev}{F:Ev->R Out}{x:R Out}(a:r=.ok (.nx ρ))(b:F ρ=x):B7 r F=x:=by rw[a];exact b
def GK {U:List (D×D)}{f:G.V×Int}{v:D}{a b:Sl}{r:Ev}(h:U.length<=63):sS 2 (a::b::.d U::r) (N0 f) v=.ok (.nx (a::b::.d (Y2 U (N0 f) v)::r)):=kd ⟨rfl,rfl,aAr h (by decide)⟩
def qB {S:List G.V}{i:Nat}{A:G.V}(h:S[i]?=some A):U8 (.lst (S.map vd)) (.int (i:Int))=.ok (vd A):=N3 (by rw[Z4 (by lia),aBI,aAG,h];rfl)
def KP (A B C:G.V):(⟨0-(G.cr (B-A) (C-A)).x,0-(G.cr (B-A) (C-A)).y,0-(G.cr (B-A) (C-A)).z⟩:G.V)=G.cr (C-A) (B-A):=by rw[G.uW];apply G.ext<;>simp
def UY {S:List G.V}{c A:G.V}(h:S≠[]):FJ [.lst ((aG S c A).map D.int)]=.ok (.int (qP (aG S c A)))/\FC [.lst ((aG S c A).map D.int)]=.ok (.int (rQ (aG S c A))):=by
 have ne:aG S c A≠[]:=by unfold aG;simpa using h
 constructor
 .simp only[FJ,pZ];exact kd ne
 .simp only[FC,pZ];exact kd ne
def pv1 (p:D)(S:List G.V)(i:Nat)(ρ:Ev):Prop:=∃U a b c e f,ρ=[Sl.v p,Sl.v (.lst (S.map vd)),.d U,a,b,c,e,f]/\HA S U/\U1 S U i 0 0
def pv2 (p:D)(S:List G.V)(i j:Nat)(ρ:Ev):Prop:=∃U a b c e,ρ=[Sl.v p,Sl.v (.lst (S.map vd)),.d U,.v (.int (i:Int)),a,b,c,e]/\HA S U/\U1 S U i j 0
def pv3 (p:D)(S:List G.V)(i j k:Nat)(ρ:Ev):Prop:=∃U a b c,ρ=[Sl.v p,Sl.v (.lst (S.map vd)),.d U,.v (.int (i:Int)),.v (.int (j:Int)),a,b,c]/\HA S U/\U1 S U i j k
open Classical in
def pT:List D->R D:=v4 λa b c d=>v1 λx y z=>qM (if Sz 2003 ⟨a,b,c⟩/\Sz 1000 ⟨x,y,z⟩then .ok (.bl (decide (G.c8 ⟨a,b,c⟩ ⟨x,y,z⟩=d)))else .bad)
def CA {f:G.V×Int}{P:G.V}(h:Sz 2003 f.1)(a:Sz 1000 P):pT [N0 f,vd P]=.ok (.bl (decide (G.c8 f.1 P=f.2))):=kd ⟨h,a⟩
def PX {f:G.V×Int}{P:G.V}(h:Sz 2003 f.1)(a:Sz 1000 P):j5 [N0 f,vd P]=.ok (.int (G.c8 f.1 P)):=kd ⟨⟨v7 h.1,v7 h.2.1,v7 h.2.2⟩,v7 a.1,v7 a.2.1,v7 a.2.2⟩
def KF {α:Type}{l:List α}(d:l.Nodup):2<l.length↔∃a b c,a∈l/\b∈l/\c∈l/\a≠b/\a≠c/\b≠c:=by
 constructor
 .intro h;match l,h,d with
  |a::b::c::l,_,d=>
   refine⟨a,b,c,by simp,by simp,by simp,?_,?_,?_⟩
   .rintro rfl;simp at d
   .rintro rfl;simp at d
   .rintro rfl;simp at d
 .rintro⟨a,b,c,o,p,q,f,g,k⟩
  classical
  have n:[a,b,c].Nodup:=by simp[f,g,k]
  have:=G.z8 n (m:=l) λv e=>by simp only[aAd,aAE,or_false]at e;rcases e with rfl|rfl|rfl<;>assumption
  exact this
def UX (fs:List (G.V×Int)) (X:G.V):List (G.V×Int):=fs.filter λf=>decide (G.c8 f.1 X=f.2)
def wP {J:List G.V}(s:R5 900 J)(t:G.j7 J)(u:(c9 J).length<=14):((c9 J).filter λX=>decide (2<(UX (j1 (c9 J)) X).length))=t8 J:=by
 obtain⟨m,r,e,L⟩:=U9 s t (by lia);have v:=u;rw[e]at v;have k:=C7 L v;rw[<-e]at k L;have z:(j1<|c9 J).Nodup:=G5 (F1 k.2);have w:=L.good.solid;have n:=L.good.ord;refine dI ((q9 J).sublist aDQ) (q9 _) λX=>?_;rw[aBQ,decide_eq_true_eq,iU s t u,KF (l:=UX (j1<|c9 J) X) (z.sublist aDQ)];have d:∀f,f∈UX (j1<|c9 J) X↔G.IsFace (c9 J) f.1 f.2/\G.c8 f.1 X=f.2:=λf=>by unfold UX;rw[aBQ,decide_eq_true_eq,k.1]
 constructor
 .rintro⟨g,a,b,c,h,o,p,A,B,C⟩;rw[d]at h o p;exact⟨a,h.1,G.BL w n g h.1 o.1 p.1 h.2 o.2 p.2 A B C⟩
 .rintro⟨f,q,g⟩;obtain⟨x,y,E,H,I,N,O,Q,T,U⟩:=G.iH w n q g;have Y:=(G.d4.mp<|(q.aa2 n).aa3 g).1;exact⟨Y,f,x,y,(d f).mpr ⟨q,Q⟩,(d x).mpr ⟨E,T⟩,(d y).mpr ⟨H,U⟩,I,N,O⟩
open Classical in
def X5:List D->R D
 |[.lst a,.lst b]=>match I0 a with
  |some J=>if b=(j1 (c9 J)).map N0/\R5 900 J/\G.j7 J/\(c9 J).length<=14 then .ok (.lst ((t8 J).map vd))else .bad
  |_=>.bad
 |_=>.bad
def AT {J:List G.V}(a:R5 900 J)(b:G.j7 J)(c:(c9 J).length<=14):X5 [.lst (J.map vd),.lst ((j1 (c9 J)).map N0)]=.ok (.lst ((t8 J).map vd)):=by simp only[X5,u4];exact kd ⟨rfl,a,b,c⟩
end M
namespace DL
open PySem PySem.Spec L2
open PyProof.Rows hiding St
def VM (d:D):Bool:=N4 d&&(flat d).length==3
def qY:D->Bool
 |.tup [p,q]=>VM p&&VM q
 |_=>false
def P6:D->List Int
 |.tup [p,q]=>flat p++flat q
 |_=>[]
def nA (h:VM d=true):N4 d=true/\(flat d).length=3:=by unfold VM at h;rw[aAH,beq_iff_eq]at h;exact h
def kJ (h:qY d=true):∃p q,d=.tup [p,q]/\N4 p=true/\N4 q=true/\(flat p).length=3/\(flat q).length=3:=by
 unfold qY at h;split at h
 .rw[aAH]at h;exact⟨_,_,rfl,(nA h.1).1,(nA h.2).1,(nA h.1).2,(nA h.2).2⟩
 .cases h
def uN (h:qY d=true):nE d=true:=by obtain⟨p,q,rfl,a,b,_⟩:=kJ h;simp[nE,fM,A6 a,A6 b]
def xD (h:N4 d=true):C4 d<=3:=by
 rw[(dD h).2,C4];have:∀l:List Int,C5 (l.map D.int)<=2:=λl=>by
  induction l with
  |nil=>simp[C5]
  |cons i l a=>rw[aAz,C5];simp[C4];lia
 have:=this (flat d)
 lia
def SA (h:qY d=true):C4 d<8:=by
 obtain⟨p,q,rfl,a,b,_⟩:=kJ h;have:=xD a;have:=xD b;simp only[C4,C5]
 lia
theorem wA {b e:List Int}:∀{a c:List Int},a.length=c.length->HT.lexLt (a++b) (c++e)=if a=c then HT.lexLt b e else HT.lexLt a c
 |[],[],_=>by simp
 |x::a,y::c,h=>by
  have g:=wA (b:=b) (e:=e) (a:=a) (c:=c) (by simpa using h);rw[aBm,aBm,HT.lexLt_cons,HT.lexLt_cons,g];by_cases d:x=y
  .subst d;by_cases f:a=c
   .simp[f]
   .simp[f]
  .simp[d]
variable [Tabs]
def WC (h:df) (v:af):List Int:=open Classical in if p:∃d,qY d=true/\HV h v d then P6 p.choose else[]
def vO (b:qY d=true)(a:HV h v d):WC h v=P6 d:=by unfold WC;have q:∃d,qY d=true/\HV h v d:=⟨d,b,a⟩;rw[dif_pos q,HV.inj q.choose_spec.2 a]
def vW (c:qY d=true)(e:HV h v d):∃b u w p q,v=.ref b/\IsTup h b #[u,w]/\d=.tup [p,q]/\HV h u p/\HV h w q/\N4 p=true/\N4 q=true/\(flat p).length=3:=by
 obtain⟨p,q,rfl,f,g,k,_⟩:=kJ c;cases e with
 |@tup b a _ t r=>
  obtain⟨l⟩:=a;have r:HVs h l [p,q]:=r;cases r with
  |cons m r=>
   cases r with
   |cons n r=>cases r;exact⟨_,_,_,_,_,rfl,t,rfl,m,n,f,g,k⟩
def bx {prog:cp}{w:cy}{A:cv}{E:B4}{s:bb}{x y:af}{d e:D}{Q:xC}(hA:A.units+8<ee)(J:qY d=true)(L:qY e=true)(N:HV s.heap x d)(O:HV s.heap y e)(q:Q (HT.lexLt (P6 d) (P6 e)) s):ai (be prog w) A (keyLt' (TS.tupK false) x y) Q E s:=by
 obtain⟨b,u,w1,p,a,rfl,T,rfl,v1,H,k,l,U⟩:=vW J N;obtain⟨b',u',Y,r,f,rfl,m,rfl,g,h,n,I,lu⟩:=vW L O;obtain⟨c1,i1,rfl,s1,o⟩:=G0 k v1;obtain⟨c2,i2,rfl,s2,t⟩:=G0 n g;obtain⟨c3,i3,rfl,s3,v⟩:=G0 l H;obtain⟨c4,i4,rfl,s4,B⟩:=G0 I h;have d1:=mY k;have d2:=mY l;refine TS.lt_two (e1:=u7 p r) (e2:=u7 a f) (b1:=HT.lexLt (flat p) (flat r)) (b2:=HT.lexLt (flat a) (flat f)) T m rfl (sJ v1 g (by lia)) (λ_=>TS.oneLt_tup s1 s2 o t (by lia)) (λ_=>sJ H h (by lia)) (λ_ _=>TS.oneLt_tup s3 s4 v B (by lia)) ?_;have C:(bif u7 p r then(bif u7 a f then false else HT.lexLt (flat a) (flat f))else HT.lexLt (flat p) (flat r))=HT.lexLt (flat p++flat a) (flat r++flat f):=by
  rw[wA (by rw[U,lu])];cases z:u7 p r with
  |true=>
   have ep:=bA (A6 k) (A6 n) z;subst ep;rw[kd rfl];cases z2:u7 a f with
   |true=>have eq:=bA (A6 l) (A6 I) z2;subst eq;exact(TS.lex_irrefl _).symm
   |false=>rfl
  |false=>
   rw[kz λc=>?_]
   .rfl
   .have:=dZ k n c;subst this;rw[J6]at z;cases z
 rw[C];exact q
def QO {prog:cp}{w:cy}{A:cv}{E:B4}{s:bb}{vs:List af}{Q:SortKind->bb->Prop}(h:∀x∈vs,∃d,qY d=true/\HV s.heap x d)(k:2<=vs.length)(q:Q (TS.tupK false) s):ai (be prog w) A (keyKind' vs.toArray) Q E s:=by
 have l:∀x∈vs,∃p,∃b a,x=.ref b/\IsTup s.heap b a/\a[0]?=some p/\s.TypeIs p "tuple":=λx c=>by obtain⟨d,m,n⟩:=h x c;obtain⟨b,u,B,p,C,rfl,o,rfl,v1,H,r,_⟩:=vW m n;obtain⟨I,J,rfl,⟨t,v,f,_⟩,y⟩:=G0 r v1;exact⟨_,b,_,rfl,o,rfl,⟨t,v,f⟩⟩
 obtain⟨e,g⟩:∃e:af->af,∀x∈vs,∃b a,x=.ref b/\IsTup s.heap b a/\a[0]?=some (e x)/\s.TypeIs (e x) "tuple":=by refine⟨λx=>open Classical in if z:x∈vs then(l x z).choose else .none,λx c=>?_⟩;dsimp only;rw[dif_pos c];exact(l x c).choose_spec
 exact TS.kind_tuples (T:= "tuple") e g (λz=>by rw[z]at k;simp at k) (by decide) q
def RX (h:qY d=true)(h':qY e=true)(k:P6 d=P6 e):d=e:=by obtain⟨p,q,rfl,c,f,g,t⟩:=kJ h;obtain⟨l,m,rfl,n,o,r,s⟩:=kJ h';have k:flat p++flat q=flat l++flat m:=k;obtain⟨a,b⟩:=List.append_inj k (by rw[g,r]);rw[dZ c n a,dZ f o b]
open Classical in
def qV (ds:List D):List D:=ds.foldr (λd l=>if d∈l then l else d::l) []
def iL {ds:List D}{d:D}:d∈qV ds↔d∈ds:=by
 unfold qV;induction ds with
 |nil=>exact Iff.rfl
 |cons e ds a=>
  rw[List.foldr_cons,aAd,<-a];split
  .rename_i h;exact⟨.inr,λz=>z.elim (λq=>q▸h) id⟩
  .exact aAd
def kC (ds:List D):(qV ds).Nodup:=by
 unfold qV;induction ds with
 |nil=>exact .nil
 |cons e ds a=>
  rw[List.foldr_cons];split
  .exact a
  .rename_i h;exact aAF.mpr ⟨h,a⟩
def oI {ds:List D}(h:∀d∈ds,qY d=true)(b:ds.Nodup):(ds.map P6).Nodup:=by
 induction ds with
 |nil=>exact .nil
 |cons e ds c=>obtain⟨f,g⟩:=aAF.mp b;rw[aAz];refine aAF.mpr ⟨λz=>?_,c (λd a=>h d (.tail _ a)) g⟩;obtain⟨d,a,k⟩:=aAl.mp z;exact f (RX (h d<|.tail _ a) (h e<|.head _) k▸a)
def MK:D->R (List D)
 |.lst a=>if a.all qY=true/\(qV a).length<=63 then .ok (cD P6 (qV a))else .bad
 |_=>.bad
def rH {p T bu:Pos}{f:Ev->R D}(ha:PB X e f)(hh:X.calm=true)(hu:X.A.units+300<ee)(hg:Gl X "set":=by rfl)(hm:X.mg "set"=none:=by assumption)(yp:Gl X "sorted":=by rfl)(kh:X.mg "sorted"=none:=by assumption)
  (hv:dm "set"=some (.type "set"):=by decide+kernel) (hv2:dm "sorted"=some (.builtin "sorted"):=by decide+kernel)
  (he:a9 [e] X.env=(false,ek e X.env)::a9 [] X.env:=by rfl) (bh:(d3 bu (a9 [] X.env)).any (·.1)=false:=by rfl)
  (ki:a9 [.Call (.Name "set" T) [e] [] bu] X.env=(false,ek (.Call (.Name "set" T) [e] [] bu) X.env)::a9 [] X.env:=by rfl) (ug:(d3 pos (a9 [] X.env)).any (·.1)=false:=by rfl):
  PF X (.Call (.Name "sorted" p) [.Call (.Name "set" T) [e] [] bu] [] pos) (λρ=>(f ρ).bind MK):=by
 refine uI λpins s σ H Q I H9 O0 O ρ E q=>?_;dsimp only at q;refine aAR (J8 I yp kh hv2 ?_ (by decide) (by decide));have mh:PA X [.Call (.Name "set" T) [e] [] bu] _:=G2 (EU (p:=T) (B:=qY) (U:=qV) (λh=>⟨uN h,SA h,by obtain⟨p,q,rfl,_⟩:=kJ h;exact⟨_,rfl⟩⟩) (λ_ d=>iL) ha hh hu hg hm hv he bh) Z7 ki;refine aBx (E9 (mh pos pins s σ H (λvs H2=>∃S o es g c r,vs=[.ref S]/\H2=upd r S (.frz o (.own S))/\f ρ=.ok (.lst c)/\(c.all qY=true/\(qV c).length<=63)/\Same H r/\r S=none/\YN X.w o es/\u5 X.K r O es g/\g.Nodup/\(∀d,d∈g↔d∈c)) I ⟨H9,O0,O,ρ,E,?_⟩)
  λus s1 z=>?_) ki ug
 .cases e1:f ρ with
  |ex z=>rw[e1]at q;exact q
  |bad=>rw[e1]at q;exact q.elim
  |ok d=>
   rw[e1,R.aa0]at q;cases d with
   |lst c=>
    simp only[MK]at q;by_cases hc:c.all qY=true/\(qV c).length<=63
    .exact⟨hc,λS o es g r sm hS so st nd Y=>⟨S,o,es,g,c,r,rfl,rfl,rfl,hc,sm,hS,so,st,nd,Y⟩⟩
    .rw[kz hc]at q;exact q.elim
   |_=>exact q.elim
 .obtain⟨vs,H2,I2,r1,S,o,es,g,c,r,ev,eH,ef,⟨hp,rf⟩,sm,hS1,so,st,nd,Y⟩:=z;subst ev eH;obtain⟨u,rfl,ru⟩:=vals1 r1;cases ru;rw[ef,R.aa0]at q;simp only[MK]at q;rw[kd ⟨hp,rf⟩]at q;have pr:∀d∈c,qY d=true:=aBp.mp hp;have J:∀d∈g,qY d=true:=λd m=>pr d ((Y d).mp m);have s12:Same r (upd r S<|.frz o (.own S)):=j6 hS1 _;have km:=st.same s12;obtain⟨hc,ea,ep,t,m,hf,hpln,led,asc,ees⟩:=so;have goS:=(I2.hok S _ j3).1;have hS2:SI.IsSet s1.heap S ea ep t:=⟨o,goS,hc.1,m⟩;have ym:(qV c).Perm g:=by
   letI:DecidableEq D:=λa b=>aDg _
   exact(aCi (kC c) nd).mpr λd=>by rw[iL,Y]
  have hsz:ea.size=g.length:=by have:=st.length;rw[<-ees]at this;simpa using this
  have h63':g.length<=63:=by rw[<-ym.length_eq];exact rf
  have wp:=SI.walkL_perm X.w S ea ep;have wpv:((SI.walkL X.w S ea ep).map (·.2)).Perm es:=by rw[<-ees];exact wp.map _
  have L:∀u∈(SI.walkL X.w S ea ep).map (·.2),∃d,d∈g/\qY d=true/\HV s1.heap u d:=λu hu=>by obtain⟨d,m,v,rv,rp⟩:=km.get (wpv.mem_iff.mp hu);exact⟨d,m,J d m,N8 I2 rp (uN<|J d m) rv⟩
  refine TS.sorted_keys (vs:=(SI.walkL X.w S ea ep).map (·.2)) (f:=false) (key:=WC s1.heap) (C:=λs'=>∃h' tk,s'={s1 with heap:=h',toks:=tk}/\∀b o,s1.heap.get? b=some o->h'.get? b=some o)
   (λ{Q'} hq=>SI.collect_set (by simp[I2.ok.hd hh]) hS2 hf hpln (λnb=>by rw[led];simpa using nb) asc (by rw[hsz];exact aAr h63' (by decide)) λh' tk k=>hq _ ⟨h',tk,rfl,k⟩)
   (λs' ⟨h',tk,N,k⟩ s6 k6 x hx y hy prog w A E hA {Q} qq=>?_) (λh2 s' ⟨h',tk,N,k⟩ s6 k6 A {Q} qq=>?_) (by rw[aAj,wp.length_eq,aAZ,hsz];lia) λs' gm h' l ⟨h1,tk,N,k⟩ pm srt k2 hl ⟨n,gl⟩=>?_
  .subst N;obtain⟨d,_,pd,ou⟩:=L x hx;obtain⟨d',_,pd',qh⟩:=L y hy;rw[vO pd ou,vO pd' qh]at qq;exact bx (by lia) pd pd' (ou.keeps λb o e _=>k6 b o (k b o e)) (qh.keeps λb o e _=>k6 b o (k b o e)) qq
  .subst N;refine QO (λx hx=>?_) h2 qq;obtain⟨d,_,pd,ou⟩:=L x hx;exact⟨d,pd,ou.keeps λb o e _=>k6 b o (k b o e)⟩
  .subst N;obtain⟨ml,T,za⟩:=Y4 (pm.trans wpv) km;have hk:∀u d,(∃v,RelV v u/\Rep X.K (upd r S<|.frz o (.own S)) O v d)->d∈g->WC s1.heap u=P6 d:=by rintro u d ⟨v,rv,rp⟩ m;exact vO (J d m) (N8 I2 rp (uN<|J d m) rv)
   have nd1:=oI J nd;have rh:(ml.map P6).Nodup:=(T.map P6).nodup_iff.mpr nd1;have uh:gT P6 ml:=GG (R:=λu d=>∃v,RelV v u/\Rep X.K (upd r S<|.frz o (.own S)) O v d) za srt rh λu d h m=>hk u d h (T.mem_iff.mp m);have nd3:((qV c).map P6).Nodup:=(ym.map P6).nodup_iff.mpr nd1;have e2:ml=cD P6 (qV c):=aF uh (aR nd3) (T.trans<|ym.symm.trans (D1 P6<|qV c).symm);subst e2;obtain⟨wv,lh,lg⟩:=u5.ac0 za;have I2':=I2.kept (h':=h1) (t':=tk) k;have I3:=I2'.laid (a:=l) (o:=.lst wv) (h':=h') (t':=tk) k2 hl ⟨by rw[lg.length,(D1 P6<|qV c).length_eq];exact aAr rf (by decide),gm,n,lh,gl⟩;exact⟨.ref l,_,I3,rfl,q wv _ l (sm.trans s12) (I2'.hok.fresh hl) lg⟩
end DL
namespace HT
open PySem PyProof.Rows
section
open PySem.SeqAt
open PySem.AutoSeq1 (wpAny_loadPart')
open PySem.MeetsSeq PySem.MeetsSeq2 PySem.MeetsSeq3
def OL (A:cv)(s:bb)(a:Int)(t:Tok)(c:Int)(u:Tok)(prog:cp)(w:cy)(E:B4)(Q:B4)(h:Q (.bool (decide (c<a))) s):
  ai (be prog w) A (i5 .Gt (.int a t) (.int c u)) Q E s:=
 (PyProof.Rows.gt_int h:ai (be prog w) A (eY .Gt (.int a t) (.int c u)) Q E s)
def qX (l b:bc)(items p:Array af)(n n2:Nat)(dd sv:Option bc)(sl qp:Array (Option af))(ns C:List Int)(U:IntsAre items.toList ns)(Y:IntsAre p.toList C):
  Meets (Builtin.«tuple.__gt__» ⟨[.ref l,.ref b],[]⟩)
   (λ_ R s=>s.heap.get? l=some {cls:=.type "tuple",dict:=dd,data:=.seq items n,slots:=sl}/\s.heap.get? b=some {cls:=.type "tuple",dict:=sv,data:=.seq p n2,slots:=qp}/\
    R (.ok (.ret (.bool (lexLt C ns)))) s):=
 .of_wp λm w A R s h=>by
  obtain⟨E,g,d,H,os⟩:=s;obtain⟨hl,hb,h⟩:=h;have f2:=aFo;have z1:items.size=ns.length:=by rw[<-U.length];simp
  have z2:p.size=C.length:=by rw[<-Y.length];simp
  wp_walk using aDA hl,aDA hb,aCf _ (λrest b N=>b.1=none/\N=⟨E,g,d,H,os⟩/\∃(I J:List af) (r v:List Int),rest=I.zip J/\
   IntsAre I r/\IntsAre J v/\r.length+p.size=v.length+items.size/\R (.ok (.ret (.bool (lexLt v r)))) ⟨E,g,d,H,os⟩) _
  case turn=>
   rintro⟨y,x⟩ rest b N ⟨O,rfl,I,J,r,v,k,Q,L,f,o⟩;cases Q with
   |nil=>rw[aFp]at k;cases k
   |cons a t z=>
    cases L with
    |nil=>rw[aFb]at k;cases k
    |cons c u B=>
     rw[aBN]at k;injection k with xp ah;injection xp with hy hx;subst hy hx;rw[lexLt_cons]at o;simp only[aAv]at f;obtain⟨e,he,qa⟩:=oN A.in1 ⟨E,g,d,H,os⟩ a t c u;refine aAa (he m w _ _ ?_);cases e with
     |true=>
      rw[kd (qa.mp rfl).symm]at o
      wp_walk
      exact⟨rfl,rfl,_,_,_,_,ah,z,B,by lia,o⟩
     |false=>
      rw[kz (λq=>absurd (qa.mpr q.symm) aAQ)]at o;have T:=OL A.in1 ⟨E,g,d,H,os⟩ a t c u m w
      wp_walk using T
      exact⟨_,rfl,by simpa using o⟩
  case fin=>
   rintro⟨b1,b2⟩ N ⟨O,rfl,I,J,r,v,k,Q,L,f,o⟩;simp only at O;subst O;have hv:lexLt v r=decide (p.size<items.size):=by
    cases Q with
    |nil=>
     cases L with
     |nil=>simp only[aBB]at f;rw[Q0];exact(decide_eq_false (by lia)).symm
     |cons c u hw=>simp only[aBB,aAv]at f;rw[A3];exact(decide_eq_false (by lia)).symm
    |cons a t hv=>
     cases L with
     |nil=>simp only[aBB,aAv]at f;rw[F7];exact(decide_eq_true (by lia)).symm
     |cons c u hw=>rw[aBN]at k;cases k
   rw[hv]at o
   wp_walk
   exact⟨_,rfl,by simpa[aEh]using o⟩
  case h=>exact⟨rfl,rfl,items.toList,p.toList,ns,C,rfl,U,Y,by lia,h⟩
end
section
variable{prog:cp} {w:cy} {A:cv} {E:B4} {s:bb}
def gt_tupInts {Q:B4}(p:IsTup s.heap l items)(q:IsTup s.heap b d)(r:IntsAre items.toList ns)(t:IntsAre d.toList c)(u:A.units<ee)(h:Q (.bool (lexLt c ns)) s):ai (be prog w) A (eY .Gt (.ref l) (.ref b)) Q E s:=by
 obtain⟨⟨v,y,e,z⟩,f,g,n,k⟩:=id p;obtain⟨⟨I,B,data2,C⟩,m,o,H,a⟩:=id q;simp only at g k o a;subst g k o a;exact richCompare_meets_room (op:=.Gt) ⟨_,f,rfl⟩ ⟨_,m,rfl⟩ PySem.F.slot_tuple_gt PySem.F.entry_tuple_gt (PySem.F.args_tuple_gt_2 _ _) (qX l b items d n H y B z C ns c r t)
  ⟨f,m,show aDn (lexLt c ns)≠aGa/\Q (.bool (lexLt c ns)) s from⟨(λx=>nomatch x),h⟩⟩ u
end
end HT
namespace DL
open PySem PySem.Spec L2
open PyProof.Rows hiding St
variable [Tabs]
def gtI (ds:List D)(i j:Nat):Bool:=HT.lexLt (flat<|ds.getD j .non) (flat<|ds.getD i .non)
def oV:List D->R D
 |[.tup a]=>if a≠[]/\a.all N4=true then .ok (a.getD (dq (LJ a) (a.length-1)) .non)else .bad
 |_=>.bad
def oE:List D->R D
 |[.tup a]=>if a≠[]/\a.all N4=true then .ok (a.getD (dq (gtI a) (a.length-1)) .non)else .bad
 |_=>.bad
def rY {op:CmpOp}{bt:Nat->Nat->Bool}{p:bc}{ws:List V}{Y:List D}{E:B4}{Q:VK}(hc:X.calm=true)(hu:X.A.units+300<ee)(I:Inv X t σ H s)(h1:V1 X.K H p ws)(h2:Reps X.K H O ws Y)(ag:Y≠[])(hp:Y.all N4=true)
  (L:∀{i j:Nat} {s:bb} {l b:bc} {it u:Array af} {E:B4} {N:B4},IsTup s.heap l it->IsTup s.heap b u->IntsAre it.toList (flat (Y.getD i .non))->IntsAre u.toList (flat (Y.getD j .non))->N (.bool (bt i j)) s->ai (be X.prog X.w) X.A.in1 (i5 op (.ref l) (.ref b)) N E s)
  (q:∀v,Rep X.K H O v (Y.getD (dq bt (Y.length-1)) .non)->Q v H):
  ai (be X.prog X.w) X.A.in1 (pyIter (.ref p)) (λit T=>∃I fp wr G n P St Hs bt,it=.ref I/\WalksS X.prog X.w X.A.in1 I fp wr G n P St/\St 0 T/\(∀b∈fp,b<T.heap.objs.size)/\0<n/\(∀i s,St i s->Hs s.heap)/\MM.CmpOn X.prog X.w X.A.in1 op Hs P bt/\∀v s',P (dq bt (n-1)) v->Moved wr G T s'->EP X t σ Q v s') E s:=by
 have pt:∀d∈Y,N4 d=true:=aBp.mp hp;obtain⟨f,x,U,zL⟩:=I.tuple h1;obtain⟨oL,gL,cL,nL,dL⟩:=id U;have st:u5 X.K H O f Y:=u5.of x h2;have m:f.toArray.size=Y.length:=by rw[aAp,<-x.length,h2.length]
 have pf:0<Y.length:=aDi.mpr ag;have W:=MM.walks_more (Walks.tuple (prog:=X.prog) (w:=X.w) (A:=X.A.in1) (by simp[I.ok.hd hc]) s.heap.objs.size p (aAm<|aAf gL) f.toArray) (kX s.heap f)
  (λq r=>by simp only[aBh];exact aAm (aAf<|O6 r))
 refine wpAny_pyIter_tuple U ⟨s.heap.objs.size,_,_,_,f.toArray.size,_,_,λh=>∀q∈kX s.heap f,h.get? q.1=some q.2,bt,rfl,W.toS,⟨⟨⟨_,aAq _ rfl,rfl,rfl⟩,U.push _⟩,λq r=>aAc _ (O6 r)⟩,λb k=>?_,by rw[m];exact pf,λi s h=>h.2,λi j vi vj s' N E2 hh y hj r=>?_,λv s' B C=>?_⟩
 .rw[aBt];rcases aAN.mp k with k|k
  .rcases aAd.mp k with rfl|k
   .exact aDj _
   .rcases aAd.mp k with rfl|k
    .exact aBo (aAf gL)
    .cases k
  .obtain⟨q,r,rfl⟩:=aAl.mp k;exact aBo (aAf<|O6 r)
 .have one:∀i v,f.toArray[i]?=some v->∃b a,v=.ref b/\IsTup s'.heap b a/\IntsAre a.toList (flat<|Y.getD i .non):=λi v y=>by
   rw[aBY]at y;obtain⟨d,J,w,lh,rp⟩:=B6 st y;have nu:Y.getD i .non=d:=by rw[aAo,J];rfl
   rw[nu];have z:=pt d (aAk J);obtain⟨b,a,rfl,⟨o,g,c,n,dd⟩,hia⟩:=G0 z (N8 I rp (A6 z) lh);exact⟨b,a,rfl,⟨o,hh _ (nH (aAk y) g),c,n,dd⟩,hia⟩
  obtain⟨b,a,rfl,t1,i1⟩:=one i vi y;obtain⟨b',uf,rfl,t2,i2⟩:=one j vj hj;exact L t1 t2 i1 i2 r
 .have B:f.toArray[dq bt (f.toArray.size-1)]?=some v:=B;rw[aBY,m]at B;obtain⟨d,J,w,lh,rp⟩:=B6 st B;have nu:Y.getD (dq bt<|Y.length-1) .non=d:=by rw[aAo,J];rfl
  rw[nu]at q;have I2:=I.kept (h':=s'.heap) (t':=s'.toks) λb o e=>C.heap b o (by simp only[aBh];exact aAm (aAf e)) (aAc _ e);have es:s'={s with heap:=s'.heap,toks:=s'.toks}:=by have g1:=C.gens;have g2:=C.drawn;have g3:=C.os;cases s';simp only at g1 g2 g3;subst g1 g2 g3;rfl
  rw[es];exact⟨w,_,I2,lh,q _ rp⟩
def UD (f:X.calm=true)(g:X.A.units+300<ee):aU X (.builtin "min") oV:=by
 intro H O b h Q L r q;match h,q with
 |[.tup Y],q=>
  obtain⟨v,rfl,z⟩:=BF r;obtain⟨p,N,rfl,k,l⟩:=z.tupI;simp only[oV]at q;by_cases a:Y≠[]/\Y.all N4=true
  .rw[kd a]at q;refine⟨λb c d=>b=[.ref p]/\c=H/\d=Q,λe s σ c m T d I n ⟨o,t,w⟩=>?_,rfl,rfl,rfl⟩;subst o t w;obtain⟨u,rfl,x⟩:=vals1 n;cases x;exact MM.call_minH (rY (op:=.Lt) (bt:=LJ Y) f g I k l a.1 a.2 (λy B C E J=>HT.lt_tupInts y B C E (by rw[t6];lia) J) λv r=>q _ _ (Same.refl _) r)
  .rw[kz a]at q;exact q.elim
def VD (f:X.calm=true)(g:X.A.units+300<ee):aU X (.builtin "max") oE:=by
 intro H O b h Q L r q;match h,q with
 |[.tup Y],q=>
  obtain⟨v,rfl,z⟩:=BF r;obtain⟨p,N,rfl,k,l⟩:=z.tupI;simp only[oE]at q;by_cases a:Y≠[]/\Y.all N4=true
  .rw[kd a]at q;refine⟨λb c d=>b=[.ref p]/\c=H/\d=Q,λe s σ c m T d I n ⟨o,t,w⟩=>?_,rfl,rfl,rfl⟩;subst o t w;obtain⟨u,rfl,x⟩:=vals1 n;cases x;exact MM.call_maxH (rY (op:=.Gt) (bt:=gtI Y) f g I k l a.1 a.2 (λy B C E J=>HT.gt_tupInts y B C E (by rw[t6];lia) J) λv r=>q _ _ (Same.refl _) r)
  .rw[kz a]at q;exact q.elim
end DL
namespace M
open PySem L2 DL
variable [Tabs]
def jP (P Q:G.V):Bool:=HT.lexLt [P.x,P.y,P.z] [Q.x,Q.y,Q.z]
def lZ (P Q:G.V):G.V:=if jP Q P then Q else P
def mO (P Q:G.V):G.V:=if jP P Q then Q else P
def rV (e:G.V×G.V):D:=.tup [vd (lZ e.1 e.2),vd (mO e.1 e.2)]
def TX (P Q:G.V):oV [.tup [vd P,vd Q]]=.ok (vd (lZ P Q)):=by
 have a:oV [.tup [vd P,vd Q]]=R.ok (([vd P,vd Q]:List D).getD (dq (LJ [vd P,vd Q]) 1) .non):=by simp only[oV,oE];exact kd ⟨by simp,rfl⟩
 rw[a];unfold lZ;have e:LJ [vd P,vd Q] 1 0=jP Q P:=rfl;cases h:jP Q P with
 |true=>rw[h]at e;simp[dq,e]
 |false=>rw[h]at e;simp[dq,e]
def VY (P Q:G.V):oE [.tup [vd P,vd Q]]=.ok (vd (mO P Q)):=by
 have a:oE [.tup [vd P,vd Q]]=R.ok (([vd P,vd Q]:List D).getD (dq (gtI [vd P,vd Q]) 1) .non):=by simp only[oV,oE];exact kd ⟨by simp,rfl⟩
 rw[a];unfold mO;have e:gtI [vd P,vd Q] 1 0=jP P Q:=rfl;cases h:jP P Q with
 |true=>rw[h]at e;simp[dq,e]
 |false=>rw[h]at e;simp[dq,e]
def cF (S:List G.V) (fs:List (G.V×Int)):List (G.V×G.V):=fs.flatMap λf=>G.N1 (G.j9 S f)
open Classical in
def aZ:List D->R D
 |[.lst a]=>match I0 a with
  |some J=>if R5 900 J/\G.j7 J/\(c9 J).length<=11 then .ok (.lst (cD P6 (qV ((cF (c9 J) (j1 (c9 J))).map rV))))else .bad
  |_=>.bad
 |_=>.bad
theorem xK {S:List G.V}(k:Nat):∀{gs:List (G.V×Int)},(∀f∈gs,(G.N1 (G.j9 S f)).length<=k)->(cF S gs).length<=gs.length*k
 |[],_=>by simp[cF]
 |f::gs,h=>by
  have b:=xK k (gs:=gs) λg a=>h g (.tail _ a);have c:=h f (.head _);have e:cF S (f::gs)=G.N1 (G.j9 S f)++cF S gs:=by simp[cF]
  rw[e,aAD,aAv,aFM]
  lia
def GF {P Q:G.V}(a:jP P Q=false)(b:jP Q P=false):P=Q:=by have:=TS.lex_total _ _ a b;simp only[aEe,and_true]at this;exact G.ext this.1 this.2.1 this.2.2
def cZ {P Q:G.V}(h:jP P Q=true):jP Q P=false:=by
 cases z:jP Q P with
 |false=>rfl
 |true=>have:=TS.lex_trans _ _ _ h z;rw[TS.lex_irrefl]at this;cases this
def zW {P Q:G.V}(h:P≠Q):rV (P,Q)=rV (Q,P):=by
 unfold rV lZ mO;cases a:jP P Q with
 |true=>rw[cZ a];rfl
 |false=>
  cases b:jP Q P with
  |true=>rfl
  |false=>exact absurd (GF a b) h
def HQ:List G.V->List D
 |[]=>[]
 |a::l=>(l.map λb=>rV (a,b))++HQ l
theorem yK:∀l:List G.V,2*(HQ l).length+l.length=l.length*l.length
 |[]=>rfl
 |a::l=>by
  have b:=yK l;rw[HQ,aAD,aAj,aAv,aFM,Nat.mul_succ]
  lia
theorem xI:∀{l:List G.V} {P Q:G.V},P∈l->Q∈l->P≠Q->rV (P,Q)∈HQ l
 |a::l,P,Q,f,d,ne=>by
  rw[HQ,aAN];rcases aAd.mp f with g|e
  .subst g;rcases aAd.mp d with c|b
   .exact absurd c.symm ne
   .exact .inl (aAl.mpr ⟨Q,b,rfl⟩)
  .rcases aAd.mp d with c|b
   .subst c;exact .inl (aAl.mpr ⟨P,e,zW ne.symm⟩)
   .exact .inr (xI e b ne)
def HG {J:List G.V}(g:R5 900 J)(h:G.j7 J)(k:(c9 J).length<=11):(qV ((cF (c9 J) (j1 (c9 J))).map rV)).length<=63:=by
 obtain⟨l,r,n⟩:=V3 g h (by lia);have s:=yK (c9 J);have t:(c9 J).length*(c9 J).length<=11*(c9 J).length:=aDI _ k;have sub:(qV<|(cF (c9 J)<|j1<|c9 J).map rV).length<=(HQ<|c9 J).length:=by
  classical
  refine G.z8 (kC _) λd a=>?_;rw[iL]at a;obtain⟨e,o,rfl⟩:=aAl.mp a;obtain⟨f,p,b⟩:=aBg.mp o;have S:=((l f).mp p).aa2 (q9 J);have E:=S.aa1.mp b;have m:=G.nF S (P:=e.1) (Q:=e.2) b;have c:∀{X:G.V},X∈G.j9 (c9 J) f->X∈c9 J:=λq=>(G.d4.mp<|S.aa3 q).1;exact xI (c m.1) (c m.2) E.ne
 lia
def HP {J:List G.V}(a:R5 900 J)(b:G.j7 J)(c:(c9 J).length<=11):MK (.lst ((cF (c9 J) (j1 (c9 J))).map rV))=.ok (cD P6 (qV ((cF (c9 J) (j1 (c9 J))).map rV))):=by have:=HG a b c;simp only[MK];exact kd ⟨aBp.mpr λd f=>by obtain⟨e,_,rfl⟩:=aAl.mp f;rfl,this⟩
def HU {J:List G.V}(d:R5 900 J)(c:G.j7 J)(o:(c9 J).length<=11){gs g:List (G.V×Int)}(e:gs++g=j1 (c9 J)):(cF (c9 J) gs).length<=sizeLine:=by
 obtain⟨h,p,a⟩:=V3 d c (by lia);have:=xK (S:=c9 J) (gs:=gs) 14 λf k=>by have S:=((h f).mp (by rw[<-e];exact aBK _ k)).aa2 (q9 J);have n:G.j7 (c9 J):=kQ c λv b=>t5.mpr b;rw[G.VC n (q9 J)];exact aAr (G.z8 S.aa4 (m:=c9 J) λv b=>(G.d4.mp<|S.aa3 b).1) (by lia)
 have l:gs.length<=2744:=by rw[<-e,aAD]at a;lia
 exact aAr (aAr this<|aDI 14 l) (by decide)
def UR (J:List G.V):List D:=cD P6 (qV<|(cF (c9 J)<|j1<|c9 J).map rV)
def MO {J:List G.V}(a:R5 900 J)(b:G.j7 J)(c:(c9 J).length<=11):aZ [.lst (J.map vd)]=.ok (.lst (UR J)):=by simp only[aZ,u4];exact kd ⟨a,b,c⟩
def NT {J:List G.V}(c:R5 900 J)(g:G.j7 J)(o:(c9 J).length<=11){d:D}:d∈UR J↔∃n k P Q,G.IsFace (c9 J) n k/\G.EdgeOf n (λX=>X∈G.w8 n k (c9 J)) P Q/\d=rV (P,Q):=by
 obtain⟨b,p,h⟩:=V3 c g (by lia);unfold UR;rw[(D1 P6 _).mem_iff,iL,aAl];constructor
 .rintro⟨e,l,rfl⟩;obtain⟨f,a,m⟩:=aBg.mp l;have a:=(b f).mp a;exact⟨f.1,f.2,e.1,e.2,a,(a.aa2<|q9 J).aa1.mp m,rfl⟩
 .rintro⟨n,k,P,Q,a,E,rfl⟩;exact⟨(P,Q),aBg.mpr ⟨(n,k),(b (n,k)).mpr a,(a.aa2<|q9 J).aa1.mpr E⟩,rfl⟩
def NH {J:List G.V}:gT P6 (UR J):=aR (oI (λd a=>by rw[iL]at a;obtain⟨e,_,rfl⟩:=aAl.mp a;rfl)<|kC _)
def ZF {J:List G.V}(a:R5 900 J)(b:G.j7 J)(c:(c9 J).length<=11):(UR J).length<=63:=by unfold UR;rw[(D1 P6 _).length_eq];exact HG a b c
def QY {P Q:G.V}(h:P≠Q):jP (lZ P Q) (mO P Q)=true/\((lZ P Q=P/\mO P Q=Q)\/(lZ P Q=Q/\mO P Q=P)):=by
 unfold lZ mO;cases a:jP P Q with
 |true=>rw[cZ a];exact⟨a,.inl ⟨rfl,rfl⟩⟩
 |false=>
  cases b:jP Q P with
  |true=>exact⟨b,.inr ⟨rfl,rfl⟩⟩
  |false=>exact absurd (GF a b) h
def xy {P Q:G.V}(h:jP P Q=true):lZ P Q=P/\mO P Q=Q:=by unfold lZ mO;rw[cZ h,h];exact⟨rfl,rfl⟩
def uX {P Q:G.V}(h:jP P Q=true):P≠Q:=λe=>by subst e;have:=cZ h;rw[h]at this;cases this
def LH {J:List G.V}(o:R5 900 J)(r:G.j7 J)(s:(c9 J).length<=11):∃es:List (G.V×G.V),UR J=es.map u8/\∀e∈es,jP e.1 e.2=true/\e.1∈c9 J/\e.2∈c9 J:=by
 have all:∀l:List D,(∀d∈l,∃e:G.V×G.V,d=u8 e/\jP e.1 e.2=true/\e.1∈c9 J/\e.2∈c9 J)->∃es:List (G.V×G.V),l=es.map u8/\∀e∈es,jP e.1 e.2=true/\e.1∈c9 J/\e.2∈c9 J:=λl=>by
  induction l with
  |nil=>exactλ_=>⟨[],rfl,λe c=>by cases c⟩
  |cons d l t=>
   intro h;obtain⟨es,q,u⟩:=t λd f=>h d (.tail _ f);obtain⟨e,v,w⟩:=h d (.head _);refine⟨e::es,by rw[v,q];rfl,λx c=>?_⟩;rcases aAd.mp c with rfl|c
   .exact w
   .exact u x c
 refine all _ λd f=>?_;obtain⟨n,k,P,Q,y,E,rfl⟩:=(NT o r s).mp f;have g:=(G.d4.mp E.p).1;have m:=(G.d4.mp E.q).1;refine⟨(lZ P Q,mO P Q),rfl,(QY E.ne).1,?_⟩;rcases(QY E.ne).2 with⟨a,b⟩|⟨a,b⟩
 .rw[a,b];exact⟨g,m⟩
 .rw[a,b];exact⟨m,g⟩
def bz {J:List G.V}(c:R5 900 J)(d:G.j7 J)(f:(c9 J).length<=11):C4 (.lst (UR J))<=40:=by
 obtain⟨b,e,_⟩:=LH c d f;rw[e];have:∀b:List (G.V×G.V),C5 (b.map u8)<=9:=λb=>by
  induction b with
  |nil=>simp[C5]
  |cons a l g=>
   have:C4 (u8 a)<=6:=by simp[C4,C5]
   rw[aAz,C5];lia
 have:=this b;rw[C4];lia
def WD {α:Type}{r:R α}{x:α}{F:α->R Out}{a:Ev->R Out}{d:D}(b:r=.ok x)(c:K3 (B7 (F x) a)=.ok d):K3 (B7 (r.bind F) a)=.ok d:=by rw[b];exact c
def NE {G:D->Ev->R Ev}{F:Ev->R Out}{b:Ev->R (List D)}{ds:List D}{ρ:Ev}{d:D}(Iv:List D->Ev->Prop)(c:∀d ds ρ,Iv (d::ds) ρ->∃ρ2,L0 G F d ρ=.ok (.nx ρ2)/\Iv ds ρ2)(h0:Iv ds ρ)(f:∀a,Iv [] a->QA (b a)=.ok d):QA (MB (F6 G F ds ρ) b)=.ok d:=by obtain⟨a,e,h⟩:=lF Iv c h0;rw[e];exact f a h
def lC:List G.V->List (G.V×G.V)
 |[]=>[]
 |a::l=>l.map (λb=>(a,b))++lC l
theorem iY:∀{l:List G.V},l.Pairwise (λa b=>jP a b=true)->∀{e:G.V×G.V},e∈lC l↔e.1∈l/\e.2∈l/\jP e.1 e.2=true
 |[],_,e=>⟨λh=>(nomatch h),λh=>(nomatch h.1)⟩
 |a::l,h,e=>by
  obtain⟨k,n⟩:=aAx.mp h;rw[lC,aAN,iY n];constructor
  .rintro(q|⟨g,f,d⟩)
   .obtain⟨b,m,rfl⟩:=aAl.mp q;exact⟨.head _,.tail _ m,k b m⟩
   .exact⟨.tail _ g,.tail _ f,d⟩
  .rintro⟨g,f,d⟩;obtain⟨x,y⟩:=e;rcases aAd.mp g with z|z
   .rcases aAd.mp f with c|c
    .dsimp only at z c d;rw[z,c]at d;exact absurd rfl (uX d)
    .dsimp only at z;subst z;exact .inl (aAl.mpr ⟨_,c,rfl⟩)
   .rcases aAd.mp f with c|c
    .dsimp only at z c d;subst c;have:=cZ d;rw[k _ z]at this;cases this
    .exact .inr ⟨z,c,d⟩
def pj {a b c d:G.V}:HT.lexLt (P6 (u8 (a,b))) (P6 (u8 (c,d)))=if a=c then jP b d else jP a c:=by
 have:=wA (a:=[a.x,a.y,a.z]) (c:=[c.x,c.y,c.z]) (b:=[b.x,b.y,b.z]) (e:=[d.x,d.y,d.z]) rfl;refine Eq.trans this ?_;by_cases h:a=c
 .subst h;rw[kd rfl,kd rfl];rfl
 .rw[kz h,kz]
  .rfl
  .intro z;simp only[aEe,and_true]at z;exact h (G.ext z.1 z.2.1 z.2.2)
theorem xL:∀{l:List G.V},l.Pairwise (λa b=>jP a b=true)->gT P6 ((lC l).map u8)
 |[],_=>aFh
 |a::l,h=>by
  obtain⟨g,d⟩:=aAx.mp h;unfold gT;rw[aBf,lC,aFY];refine⟨?_,aBf.mp (xL d),?_⟩
  .rw[aBf];exact d.imp λ{b c} q=>by rw[pj,kd rfl];exact q
  .intro e k f m;obtain⟨b,o,rfl⟩:=aAl.mp k;obtain⟨n,p,r⟩:=(iY d).mp m;obtain⟨x,y⟩:=f;have z:=g x n;rw[pj,kz (uX z)];exact z
def Q7 (fs:List (G.V×Int)) (e:G.V×G.V):List (G.V×Int):=fs.filter λf=>decide (G.c8 f.1 e.1=f.2)&&decide (G.c8 f.1 e.2=f.2)
def SW {α:Type}{l:List α}(c:l.Nodup):1<l.length↔∃a b,a∈l/\b∈l/\a≠b:=by
 constructor
 .intro h;match l,h,c with
  |a::b::l,_,c=>refine⟨a,b,by simp,by simp,?_⟩;rintro rfl;simp at c
 .rintro⟨a,b,g,k,e⟩
  classical
  have f:[a,b].Nodup:=by simp[e]
  exact G.z8 f (m:=l) λv d=>by simp only[aAd,aAE,or_false]at d;rcases d with rfl|rfl<;>assumption
def xY (fs:List (G.V×Int)) (l:List G.V):List (G.V×G.V):=(lC l).filter λe=>decide (1<(Q7 fs e).length)
def bw {J:List G.V}(s:R5 900 J)(t:G.j7 J)(U:(c9 J).length<=11):UR (t8 J)=(xY (j1 (c9 J)) (t8 J)).map u8:=by
 obtain⟨u,z,o,Y,b5,b6⟩:=sD s t (by lia);obtain⟨m,r,e,L⟩:=U9 s t (by lia);have A:(c9 J).length<=14:=by lia
 rw[e]at A;have w:=C7 L A;rw[<-e]at w L;have B:(j1<|c9 J).Nodup:=G5 (F1 w.2);have co:∀X∈t8 J,∃f:G.V×Int,G.IsFace (t8 J) f.1 f.2/\X∈G.j9 (t8 J) f:=λX hX=>by have:=(iU z u (by rw[o];exact Y) X).mp (by rw[b5];exact hX);rw[o]at this;exact this
 have H:(c9<|t8 J).length<=11:=by rw[o];exact aAr (G.z8 (T4 _) (m:=c9 J) λv hv=>t5.mpr (jN s t (by lia) hv)) U
 have lt:(t8 J).Pairwise λa b=>jP a b=true:=by have:=N9 ((t8 J).map vd);rw[X1,o]at this;exact aBf.mp this
 have ho:(t8 J).Pairwise λa b=>G.e9 (b-a):=by have:=q9 (t8 J);rw[o]at this;exact this
 have ME:=λd=>NT (d:=d) z u H;rw[o]at ME;have fl:∀f,f∈j1 (c9 J)↔G.IsFace (t8 J) f.1 f.2:=λf=>by rw[w.1,b6]
 have sr:gT P6 ((xY (j1<|c9 J)<|t8 J).map u8):=(xL lt).sublist (aDQ.map u8);refine aF NH sr ((aCi (F1 NH)<|F1 sr).mpr λd=>?_);clear s t U A z Y b5 b6 w L e;generalize t8 J=C at*
 generalize j1 (c9 J)=fs at*
 have x:∀{e f},f∈Q7 fs e↔G.IsFace C f.1 f.2/\G.c8 f.1 e.1=f.2/\G.c8 f.1 e.2=f.2:=λ{e f}=>by unfold Q7;rw[aBQ,fl,aAH,decide_eq_true_eq,decide_eq_true_eq]
 have bo:∀e:G.V×G.V,1<(Q7 fs e).length↔∃f g,f∈Q7 fs e/\g∈Q7 fs e/\f≠g:=λe=>SW (B.sublist aDQ);rw[ME];constructor
 .rintro⟨n,k,P,Q,y,E,rfl⟩;have c:=(G.d4.mp E.p);have h:=(G.d4.mp E.q);obtain⟨m,e,I,ne,x1,x2⟩:=G.BM u ho y E;have mk:∀{P Q:G.V},P∈C->Q∈C->jP P Q=true->G.c8 n P=k->G.c8 n Q=k->G.c8 m P=e->G.c8 m Q=e->u8 (P,Q)∈(xY fs C).map u8:=λ{P Q} c h l p1 N p2 O=>by refine aBA (aBQ.mpr ⟨(iY lt).mpr ⟨c,h,l⟩,decide_eq_true ((bo _).mpr ⟨(n,k),(m,e),x.mpr ⟨y,p1,N⟩,x.mpr ⟨I,p2,O⟩,ne⟩)⟩)
  obtain⟨l,q⟩:=QY E.ne;show u8 (lZ P Q,mO P Q)∈_;rcases q with⟨a,b⟩|⟨a,b⟩
  .rw[a,b]at l⊢;exact mk c.1 h.1 l c.2 h.2 x1 x2
  .rw[a,b]at l⊢;exact mk h.1 c.1 l h.2 c.2 x2 x1
 .intro hd;obtain⟨e,he,rfl⟩:=aAl.mp hd;obtain⟨N,O⟩:=aBQ.mp he;obtain⟨c,h,l⟩:=(iY lt).mp N;obtain⟨f,g,y,I,ne⟩:=(bo e).mp (of_decide_eq_true O);obtain⟨T,f2,f3⟩:=x.mp y;obtain⟨g1,g2,g3⟩:=x.mp I;have pe:u8 e=rV (e.1,e.2):=by have:=xy l;unfold rV;dsimp only;rw[this.1,this.2]
  rcases G.KQ u ho (co _ c) (co _ h) (uX l) T g1 ne f2 g2 f3 g3 with E|E
  .exact⟨_,_,_,_,T,E,pe⟩
  .exact⟨_,_,_,_,T,E,by rw[pe];exact zW (uX l)⟩
def yW (fs:List (G.V×Int)) (A:G.V) (l:List G.V):List (G.V×G.V):=(l.map λb=>(A,b)).filter λe=>decide (1<(Q7 fs e).length)
def QE (fs:List (G.V×Int))(A:G.V)(l:List G.V):xY fs (A::l)=yW fs A l++xY fs l:=List.filter_append ..
def VI {fs:List (G.V×Int)}{A B:G.V}{l:List G.V}(h:1<(Q7 fs (A,B)).length):yW fs A (B::l)=(A,B)::yW fs A l:=by unfold yW;exact aFz (p:=λe=>decide (1<(Q7 fs e).length)) (decide_eq_true h)
def ZT {fs:List (G.V×Int)}{A B:G.V}{l:List G.V}(h:¬1<(Q7 fs (A,B)).length):yW fs A (B::l)=yW fs A l:=by unfold yW;exact aFy (p:=λe=>decide (1<(Q7 fs e).length)) (by rw[decide_eq_true_eq];exact h)
def EQ {C:List G.V}{i:Nat}{A:G.V}(h:C[i]?=some A):C.drop i=A::C.drop (i+1):=by obtain⟨a,e⟩:=aAy.mp h;rw[aCo a,e]
def YZ {α:Type}{r:R α}{x:α}{F:α->R Out}{Post:Ev->Prop}(a:r=.ok x)(b:∃ρ2,F x=.ok (.nx ρ2)/\Post ρ2):∃ρ2,r.bind F=.ok (.nx ρ2)/\Post ρ2:=by rw[a];exact b
def oj {r:R Out}{ρ:Ev}{F:Ev->R Out}{Post:Ev->Prop}(a:r=.ok (.nx ρ))(b:∃ρ2,F ρ=.ok (.nx ρ2)/\Post ρ2):∃ρ2,B7 r F=.ok (.nx ρ2)/\Post ρ2:=by rw[a];exact b
def qv1 (b b1 b2:D)(C:List G.V)(fs:List (G.V×Int))(T:List (G.V×G.V))(i:Nat)(ρ:Ev):Prop:=∃a c d e,ρ=[.v b,.v b1,.v b2,.v (.lst (C.map vd)),.o (a.map u8),c,d,e,.no,.no,.no]/\a++xY fs (C.drop i)=T
def qv2 (b b1 b2:D)(C:List G.V)(fs:List (G.V×Int))(T:List (G.V×G.V))(i:Nat)(A:G.V)(j:Nat)(ρ:Ev):Prop:=∃a c d,ρ=[.v b,.v b1,.v b2,.v (.lst (C.map vd)),.o (a.map u8),.v (.int (i:Int)),c,d,.no,.no,.no]/\a++(yW fs A (C.drop j)++xY fs (C.drop<|i+1))=T
open Classical in
def iZ:List D->R D
 |[.lst Y]=>if Y.length<=63/\M1 1048576 Y then .ok (.bl true)else .bad
 |_=>.bad
end M
namespace K21
open PySem L2 DL M
def top (i:Nat):d9:=PySem.Challenge.pw_stakebodies_k21_edges_by_planes.main.body.getD i (.Pass ⟨0,0,0,0⟩)
abbrev aE:d9:=top 5
abbrev rC:List Str:=["P", "Q"]
def qD:FnScope rC ["P", "Q"] (c6 aE):=G4
abbrev gJ:d9:=top 6
abbrev CZ:List Str:=["u", "v"]
def zV:FnScope CZ ["u", "v"] (c6 gJ):=G4
abbrev bV:d9:=top 7
abbrev vY:List Str:=["u", "v"]
def qR:FnScope vY ["u", "v"] (c6 bV):=G4
abbrev P4:d9:=top 8
abbrev kT:List Str:=["numbers", "divisor", "number", "rest", "further"]
def iK:FnScope kT ["numbers"] (c6 P4):=G4
abbrev R6:d9:=top 9
abbrev mJ:List Str:=["P", "Q", "R", "cross", "divisor", "upright"]
def kR:FnScope mJ ["P", "Q", "R"] (c6 R6):=G4
abbrev lB:d9:=top 10
abbrev IG:List Str:=["plane", "P", "height"]
def BA:FnScope IG ["plane", "P"] (c6 lB):=G4
abbrev P3:d9:=top 13
abbrev kO:List Str:=["ways", "way"]
def iF:FnScope kO ["ways"] (c6 P3):=G4
abbrev C0:d9:=top 14
abbrev M3:List Str:=["points", "ways", "along", "upright"]
def lY:FnScope M3 ["points"] (c6 C0):=G4
abbrev Z5:d9:=top 15
abbrev qS:List Str:=["points"]
def pE:FnScope qS ["points"] (c6 Z5):=G4
abbrev Y3:d9:=top 16
abbrev lW:List Str:=["plane", "points"]
def wG:FnScope lW ["plane", "points"] (c6 Y3):=G4
abbrev Z8:d9:=top 17
abbrev rL:List Str:=["pair", "points", "along", "upright", "outermost", "P", "way"]
def pC:FnScope rL ["pair", "points"] (c6 Z8):=G4
abbrev bO:d9:=top 18
abbrev wO:List Str:=["points", "least", "upward", "touched"]
def rA:FnScope wO ["points"] (c6 bO):=G4
abbrev lD:d9:=top 19
abbrev KC:List Str:=["upright", "P", "Q", "R"]
def BQ:FnScope KC ["upright", "P", "Q", "R"] (c6 lD):=G4
abbrev bW:d9:=top 20
abbrev wT:List Str:=["upright", "points", "chain", "P"]
def rJ:FnScope wT ["upright", "points"] (c6 bW):=G4
abbrev kP:d9:=top 21
abbrev HH:List Str:=["upright", "points", "there", "back"]
def BR:FnScope HH ["upright", "points"] (c6 kP):=G4
abbrev Z1:d9:=top 22
abbrev rF:List Str:=["ring"]
def nU:FnScope rF ["ring"] (c6 Z1):=G4
abbrev bS:d9:=top 23
abbrev wE:List Str:=["first", "about", "touched_by", "faces", "walked", "waiting", "pair", "plane", "ring", "step"]
def fS:FnScope wE ["first", "about", "touched_by"] (c6 bS):=G4
abbrev K4:d9:=top 24
abbrev gR:List Str:=["points", "spread", "about", "touched_by"]
def lU:FnScope gR ["points"] (c6 K4):=G4
abbrev aX:d9:=top 26
abbrev oJ:List Str:=["land", "edges", "plane", "ring"]
def xH:FnScope oJ ["land"] (c6 aX):=G4
abbrev dM:d9:=top 28
abbrev zQ:List Str:=["script", "k"]
def uZ:FnScope zQ ["script", "k"] (c6 dM):=G4
abbrev gA:d9:=top 29
abbrev DH:List Str:=["one", "other"]
def AR:FnScope DH ["one", "other"] (c6 gA):=G4
abbrev bU:d9:=top 30
abbrev wV:List Str:=["u", "v"]
def rD:FnScope wV ["u", "v"] (c6 bU):=G4
abbrev W5:d9:=top 31
abbrev qE:List Str:=["u", "v"]
def mK:FnScope qE ["u", "v"] (c6 W5):=G4
abbrev bG:d9:=top 32
abbrev vS:List Str:=["total", "way", "wide", "stir", "found", "k"]
def rR:FnScope vS ["total", "way"] (c6 bG):=G4
abbrev J3:d9:=top 33
abbrev Y7:List Str:=["script", "most", "many", "totals", "k", "cell"]
def pQ:FnScope Y7 ["script", "most"] (c6 J3):=G4
abbrev M5:d9:=top 34
abbrev bM:List Str:=["points", "ways", "u", "v", "crossed", "x", "y", "z"]
def rP:FnScope bM ["points"] (c6 M5):=G4
abbrev P8:d9:=top 35
abbrev fR:List Str:=["cell", "slants", "far"]
def pD:FnScope fR ["cell"] (c6 P8):=G4
abbrev X8:d9:=top 36
abbrev oH:List Str:=["point", "slants", "x", "y", "z"]
def mN:FnScope oH ["point", "slants"] (c6 X8):=G4
abbrev Y5:d9:=top 37
abbrev lN:List Str:=["script", "most", "points", "cell"]
def wL:FnScope lN ["script", "most"] (c6 Y5):=G4
abbrev T6:d9:=top 38
abbrev jO:List Str:=["crossed", "point", "one", "number", "other"]
def rG:FnScope jO ["crossed", "point"] (c6 T6):=G4
abbrev J0:d9:=top 39
abbrev Z3:List Str:=["points", "some", "found", "i", "j", "k", "crossed", "worths"]
def qL:FnScope Z3 ["points"] (c6 J0):=G4
abbrev kE:d9:=top 40
abbrev IA:List Str:=["plane", "point"]
def AX:FnScope IA ["plane", "point"] (c6 kE):=G4
abbrev L5:d9:=top 41
abbrev cI:List Str:=["points", "planes"]
def mL:FnScope cI ["points", "planes"] (c6 L5):=G4
abbrev fV:d9:=top 42
abbrev XT:List Str:=["script", "points", "planes", "corners", "due", "i", "j", "both", "handed", "found", "pair"]
def QD:FnScope XT ["script"] (c6 fV):=G4
def cO:d9:=(p6 K4).getD 2 (.Pass ⟨0,0,0,0⟩)
abbrev GU:Str:= "faces_of.<locals>.about"
def J5:d9:=(p6 K4).getD 3 (.Pass ⟨0,0,0,0⟩)
abbrev iM:Str:= "faces_of.<locals>.touched_by"
def tbK:List (Pos×Str):=[(FD cO,GU),(FD J5,iM)]
section
variable [Tabs]
variable{P:cp} {w:cy} {K:lr} {mg:cH} {base:df}
def n9 (g:cP K mg "way_between" aE):w9 P w K mg base 1 "way_between" 2 l6:=by
 refine' m8 (k:=0) (F:=_) g qD (λf l m n=>?b) λe d o h=>?_
 case b=>refine' (d7<|j2<|JG (c5 v6 (PD.pb<|f7 (b8 1) d6)<|PD.pb<|f7 (b8 0) d6) (c5 v6 (PD.pb<|f7 (b8 1) d6)<|PD.pb<|f7 (b8 0) d6)<|c5 v6 (PD.pb<|f7 (b8 1) d6)<|PD.pb<|f7 (b8 0) d6)
 replace h:=C6 h;obtain⟨a,b,c,e,rfl,h⟩:=h;replace h:=C6 h;obtain⟨p,q,r,e,rfl,h⟩:=h;replace h:=D4 h;obtain⟨rfl,h⟩:=h;exact h
def C9 (g:cP K mg "cross_of" gJ):w9 P w K mg base 1 "cross_of" 2 v5:=by
 refine' m8 (k:=0) (F:=_) g zV (λr s t u=>?b) λe d v h=>?_
 case b=>refine' (d7<|j2<|JG (c5 v6 (PD.pb<|c5 l8 (PD.pb<|f7 (b8 0) d6)<|PD.pb<|f7 (b8 1) d6)<|PD.pb<|c5 l8 (PD.pb<|f7 (b8 0) d6)<|PD.pb<|f7 (b8 1) d6) (c5 v6 (PD.pb<|c5 l8 (PD.pb<|f7 (b8 0) d6)<|PD.pb<|f7 (b8 1) d6)<|PD.pb<|c5 l8 (PD.pb<|f7 (b8 0) d6)<|PD.pb<|f7 (b8 1) d6)<|c5 v6 (PD.pb<|c5 l8 (PD.pb<|f7 (b8 0) d6)<|PD.pb<|f7 (b8 1) d6)<|PD.pb<|c5 l8 (PD.pb<|f7 (b8 0) d6)<|PD.pb<|f7 (b8 1) d6)
 replace h:=C6 h;obtain⟨a,b,c,e,rfl,h⟩:=h;replace h:=C6 h;obtain⟨x,y,z,e,rfl,h⟩:=h;replace h:=D4 h;obtain⟨rfl,h⟩:=h;split at h
 .rename_i q;obtain⟨⟨f,l,m⟩,n,o,p⟩:=q;rw[<-h];simp[j4,f9 (l5.of l p),f9 (l5.of m o),f9 (l5.of m n),f9 (l5.of f p),f9 (l5.of f o),f9 (l5.of l n)]
 .cases h
def y8 (g:cP K mg "product_of" bV):w9 P w K mg base 1 "product_of" 2 j5:=by
 refine' m8 (k:=0) (F:=_) g qR (λr s u v=>?b) λe d x h=>?_
 case b=>refine' (d7<|j2<|c5 o5 (PD.pb<|c5 o5 (PD.pb<|c5 l8 (PD.pb<|f7 (b8 0) d6)<|PD.pb<|f7 (b8 1) d6)<|PD.pb<|c5 l8 (PD.pb<|f7 (b8 0) d6)<|PD.pb<|f7 (b8 1) d6)<|PD.pb<|c5 l8 (PD.pb<|f7 (b8 0) d6)<|PD.pb<|f7 (b8 1) d6)
 replace h:=WL h;obtain⟨a,b,c,t,e,rfl,h⟩:=h;replace h:=C6 h;obtain⟨y,z,A,e,rfl,h⟩:=h;replace h:=D4 h;obtain⟨rfl,h⟩:=h;split at h
 .rename_i f;obtain⟨⟨l,m,n⟩,o,p,q⟩:=f;rw[<-h];simp[j4,WI,WT,WR,f9 (l5.of l o),f9 (l5.of m p),f9 (l5.of n q)]
 .cases h
def N7 (L:mg "abs"=none)(g:cP K mg "common_divisor" P4):w9 P w K mg base 1 "common_divisor" 1 F9:=by
 refine' m8 (k:=0) (F:=_) g iK (λN A O l=>?b) λy d Q h=>?_
 case b=>
  refine' (b9 (i9 1 d6 l)
   (b9 (B9 aAO rfl (nD<|c7 0) (l4 2 l) (b9 (i9 3 (DQ PM<|b8 2) l)
   (d7 (fG (WN 3) aAO (k8 (jA A) (b8 3) A7) (b9 (i9 4 (c5 A2 (b8 1)<|b8 3) l)
   (b9 (i9 1 (c7 3) l)
   (d7<|i9 3 (c7 4) l)))))))
   (d7<|j2<|c7 1)))
 replace h:=C6 h;obtain⟨a,b,c,y,rfl,h⟩:=h;replace h:=D4 h;obtain⟨rfl,h⟩:=h;rw[<-h];simp only[j4,aAz,aFT,aBm,aEc];simp only[X4,oZ,R.aa0,tU,A4,aAv,aBB,aGv,aGw,aEL,aEM,aBv,aBw];refine eG (λrest ρ=>∃(g:Nat) (n r f:Sl),ρ=[.v (.tup [.int a,.int b,.int c]),.v (.int g),n,r,f]/\∃e:List Int,rest=e.map D.int/\e.foldl (λg n=>aGl g n.natAbs) g=G.o7 ⟨a,b,c⟩) ?_ ⟨0,_,_,_,rfl,[a,b,c],rfl,by simp[G.o7]⟩ ?_
 .rintro d y ρ ⟨g,n,r,f,rfl,e,s,o⟩;match e,s,o with
  |x::e,s,o=>
   injection s with B C;subst B C;simp only[K0,aBv,aBw,aS,eV,fY,pW,R.aa0,QP,A4];have E:(if x<0 then-x else x)=(x.natAbs:Int):=by split<;>lia
   rw[E];refine pF (λm ρ=>∃(p q:Nat) (f:Sl),ρ=[.v (.tup [.int a,.int b,.int c]),.v (.int p),.v (.int x),.v (.int q),f]/\q<m/\aGl p q=aGl g x.natAbs) ?_ (by rintro ρ ⟨p,q,f,_,h,_⟩;lia) ⟨g,x.natAbs,f,rfl,by show x.natAbs<((x.natAbs:Int).natAbs)+2;lia,rfl⟩ ?_
   .rintro m ρ ⟨p,q,f,rfl,H,u⟩;by_cases t:(q:Int)=0
    .exact .inl (by simp[t])
    .have I:q≠0:=by lia
     refine .inr ⟨by simp[I],_,?_,q,p%q,Sl.v (.int ((p%q:Nat):Int)),rfl,?_,?_⟩
     .have em:X3 (.int (p:Int)) (.int (q:Int))=.ok (.int ((p%q:Nat):Int)):=by rw[nN t,aDG _ (by lia)];rfl
      simp[em]
     .have:=aDS p (show 0<q by lia)
      lia
     .rw[aFV,<-Nat.gcd_rec,aFV];exact u
   .rintro m ρ ⟨p,q,f,rfl,H,u⟩ J;have t:q=0:=by
     by_cases z:q=0
     .exact z
     .simp[z]at J
    subst t;refine⟨p,_,_,_,rfl,e,rfl,?_⟩;rw[<-o,aDx,<-u,Nat.gcd_zero_right]
 .rintro ρ ⟨g,n,r,f,rfl,e,s,o⟩;have:e=[]:=by simpa using s.symm
  subst this;simp at o;simp[o]
def R7 (C9:w9 P w K mg base 1 "cross_of" 2 v5)(n9:w9 P w K mg base 1 "way_between" 2 l6)(N7:w9 P w K mg base 1 "common_divisor" 1 F9)(y8:w9 P w K mg base 1 "product_of" 2 j5)(g:cP K mg "plane_through" R6):w9 P w K mg base 2 "plane_through" 3 S6:=by
 refine' m8 (k:=1) (F:=_) g kR (λm hu fb A=>?b) λB d hl h=>?_
 case b=>
  refine' (b9 (i9 3 (X9 C9 m (X9 n9 m (c7 0)<|c7 1)<|X9 n9 m (c7 0)<|c7 2) A)
   (b9 (i9 4 (FU N7 m<|c7 3) A)
   (b9 (A5 (k8 (X6 hu) (b8 4) A7) (d7 kH) n6)
   (b9 (i9 5 (JG (c5 y9 (PD.pb<|f7 (b8 3) d6)<|b8 4) (c5 y9 (PD.pb<|f7 (b8 3) d6)<|b8 4)<|c5 y9 (PD.pb<|f7 (b8 3) d6)<|b8 4) A)
   (d7<|j2<|wC<|i7 (f7 (b8 5) d6)<|i7 (f7 (b8 5) d6)<|i7 (f7 (b8 5) d6)<|i7 (X9 y8 m (c7 5)<|c7 0) p5)))))
 replace h:=C6 h;obtain⟨a,b,c,B,rfl,h⟩:=h;replace h:=C6 h;obtain⟨d,e,f,B,rfl,h⟩:=h;replace h:=C6 h;obtain⟨g,L,i,B,rfl,h⟩:=h;replace h:=D4 h;obtain⟨rfl,h⟩:=h
 .skip
  split at h
  .rename_i hz;obtain⟨⟨p,q,r⟩,o⟩:=hz;rw[<-h];obtain⟨P,E⟩:∃P:G.V,P=⟨a,b,c⟩:=⟨_,rfl⟩;obtain⟨Q,H⟩:∃P:G.V,P=⟨d,e,f⟩:=⟨_,rfl⟩;obtain⟨l,I⟩:∃P:G.V,P=⟨g,L,i⟩:=⟨_,rfl⟩;rw[<-E]at p o;rw[<-H]at q o;rw[<-I]at r o;have vP:(.tup [.int a,.int b,.int c]:D)=vd P:=by rw[E]
   have vQ:(.tup [.int d,.int e,.int f]:D)=vd Q:=by rw[H]
   have vR:(.tup [.int g,.int L,.int i]:D)=vd l:=by rw[I]
   rw[vP,vQ,vR,<-E,<-H,<-I];have s:=(q.sub p).cr (r.sub p);have c1:=aM (u:=Q-P) (v:=l-P) (q.sub p).mono (r.sub p).mono;obtain⟨N,g1,g2⟩:=G.fB o;have n:((G.o7 (G.cr (Q-P)<|l-P):Nat):Int)≠0:=by lia
   have gb:uC ((G.o7 (G.cr (Q-P)<|l-P):Nat):Int):=⟨n,v7 (uJ s)⟩;have dv:=CS (G.cr (Q-P)<|l-P);have pl:G.d5 P Q l=(G.cG (G.cr (Q-P)<|l-P) (G.o7<|G.cr (Q-P)<|l-P),G.c8 (G.cG (G.cr (Q-P)<|l-P)<|G.o7<|G.cr (Q-P)<|l-P) P):=rfl;rw[pl];generalize hC:G.cr (Q-P) (l-P)=C at*
   have sn:Sz 2003 (G.cG C<|G.o7 C):=by have O:=bits_fdiv (b:=(G.o7 C:Int)) s.1;have T:=bits_fdiv (b:=(G.o7 C:Int)) s.2.1;have U:=bits_fdiv (b:=(G.o7 C:Int)) s.2.2;rw[cQ N]at O T U;exact⟨O,T,U⟩
   have d1:∀t:Int,N6 (.int t) (.int (G.o7 C:Nat))=.ok (.int (t/(G.o7 C:Nat))):=λt=>by rw[V5 gb,cQ N]
   have Y:=bL (u:=G.cG C (G.o7 C)) (v:=P) sn.mono p.mono;have e0:(((G.o7 C:Nat):Int)==0)=false:=by simpa using n
   simp only[G.cG]at Y;have J:j5 [.tup [.int (C.x/(G.o7 C:Nat)),.int (C.y/(G.o7 C:Nat)),.int (C.z/(G.o7 C:Nat))],vd P]=_:=Y;simp[j4,c1,dv,e0,d1,J,G.cG]
  .cases h
def jW (g:cP K mg "side_of" lB):w9 P w K mg base 1 "side_of" 2 aV:=by
 refine' m8 (k:=0) (F:=_) g BA (λB C E v=>?b) λs d H h=>?_
 case b=>
  refine' (b9 (i9 2 (c5 v6 (PD.pb<|c5 o5 (PD.pb<|c5 o5 (PD.pb<|c5 l8 (PD.pb<|f7 (b8 0) d6)<|PD.pb<|f7 (b8 1) d6)<|PD.pb<|c5 l8 (PD.pb<|f7 (b8 0) d6)<|PD.pb<|f7 (b8 1) d6)<|PD.pb<|c5 l8 (PD.pb<|f7 (b8 0) d6)<|PD.pb<|f7 (b8 1) d6)<|PD.pb<|f7 (b8 0) d6) v)
   (b9 (A5 (k8 lK (b8 2) A7) (d7<|j2 d6) n6)
   (b9 (A5 (k8 EX (b8 2) A7) (d7<|j2<|pB d6) n6)
   (d7<|j2 d6))))
 replace h:=LU h;obtain⟨a,b,c,d,s,rfl,h⟩:=h;replace h:=C6 h;obtain⟨x,y,z,s,rfl,h⟩:=h;replace h:=D4 h;obtain⟨rfl,h⟩:=h
 .skip
  split at h
  .rename_i A;obtain⟨⟨e,f,l⟩,m,o,q⟩:=A;rw[<-h];obtain⟨t,u⟩:∃t,a*x+b*y+c*z-d=t:=⟨_,rfl⟩;have r:NP (.int (a*x+b*y+c*z)) (.int d)=.ok (.int t):=by rw[<-u];rfl
   rw[u];unfold sgn;by_cases p:0<t
   .simp[-vJ,j4,f9 (l5.of e m),f9 (l5.of f o),f9 (l5.of l q),p,r]
   .by_cases n:t<0
    .simp[-vJ,j4,f9 (l5.of e m),f9 (l5.of f o),f9 (l5.of l q),p,n,r]
    .simp[-vJ,j4,f9 (l5.of e m),f9 (l5.of f o),f9 (l5.of l q),p,n,r]
  .cases h
def F8 (l:KO K mg "NO_WAY" [0,0,0])(g:cP K mg "first_real_way" P3):w9 P w K mg base 1 "first_real_way" 1 A1:=by
 refine' m8 (k:=0) (F:=_) g iF (λq m r n=>?b) λo d s h=>?_
 case b=>
  refine' (b9 (B9 aAO rfl (p8<|c7 0) (l4 1 n)<|d7<|A5 (k8 (jA m) (b8 1)<|PD.pb<|wY l) (d7<|j2<|c7 1) n6)
   (d7<|j2 CM))
 match o,h with
 |[.lst Y],h=>
  simp only[A1]at h;split at h
  .rename_i e f;rw[o9 f];rw[<-h];simp[j4];generalize Sl.v (D.lst<|aCA vd e)=a;generalize Sl.no=b;clear h f;induction e generalizing b with
   |nil=>rfl
   |cons v e p=>
    rw[aAz,G.A8];by_cases c:v=0
    .rw[U3 (ρ2:=[a,.v (vd v)]) rfl (by simp[-jQ,ne0,c]),p];simp[c]
    .rw[iP (x:=vd v) rfl (by simp[-jQ,ne0,c])];simp[c,BY]
  .cases h
def F5 (n9:w9 P w K mg base 1 "way_between" 2 l6)(F8:w9 P w K mg base 1 "first_real_way" 1 A1)(C9:w9 P w K mg base 1 "cross_of" 2 v5)(y8:w9 P w K mg base 1 "product_of" 2 j5)(dh:mg "len"=none)(O:mg "any"=none)(g:cP K mg "dimension_of" C0):w9 P w K mg base 2 "dimension_of" 1 C1:=by
 refine' m8 (k:=1) (F:=_) g lY (λz hu fb Q=>?b) λo d hl h=>?_
 case b=>
  refine' (b9 (A5 (k8 (X6 hu) (PD.pb<|DQ S1<|b8 0) A7) (d7 kH) n6)
   (b9 (dS 1 ["P"] ["points"] [0] Q rfl (F3 (sc:=c6 C0) (N:=M3)) (p8<|c7 0) (KM λ_ _ _ _ _=>(X9 n9 z (f7 (b8 1) d6)<|c7 0))<|λ_=>n8)
   (b9 (i9 2 (FU F8 z<|c7 1) Q)
   (b9 (A5 (k8 QL (b8 2)<|PD.pb CM) (d7<|j2 d6) n6)
   (b9 (i9 3 (FU F8 z<|M2 ["way"] ["along"] [2] rfl (F3 (sc:=c6 C0) (N:=M3)) (p8<|c7 1) (KM λ_ _ _ _ _=>(X9 C9 z (c7 1)<|c7 0))<|λ_=>n8) Q)
   (b9 (A5 (k8 QL (b8 3)<|PD.pb CM) (d7<|j2 d6) n6)
   (b9 (A5 (bX<|DQ (ax rfl)<|PD.pb<|M2 ["way"] ["upright"] [3] rfl (F3 (sc:=c6 C0) (N:=M3)) (p8<|c7 1) (KM λ_ _ _ _ _=>(vN (jA hu) (PD.pb<|X9 y8 z (c7 1)<|c7 0) A7))<|λ_=>n8) (d7<|j2 d6) n6)
   (d7<|j2 d6))))))))
 match o,h with
 |[.lst Y],h=>
  simp only[C1]at h;split at h
  .rename_i J l;rw[o9 l];split at h
   .rename_i hz;rw[<-h];obtain⟨ag,E⟩:=hz;match J,ag with
    |p::r,_=>
    obtain⟨a,c⟩:∃a,(p::r).map vd=a:=⟨_,rfl⟩;have i0:U8 (.lst a) (.int 0)=.ok (vd p):=N3 (by rw[Z4 (by decide),<-c];rfl);have H:u6 (λd ρ=>R.ok (aCM ρ 0<|Sl.v d)) (λx=>R.ok true) (λρ=>(((rO 1 ρ).bind λx=>U8 x (D.int 0)).bind λd=>((T1 0 ρ).bind λd=>R.ok [d]).bind λo=>R.ok (d::o)).bind l6) [.no,.v (.lst a)] a=.ok (((p::r).map (· -p)).map vd):=by rw[aBJ];rw[show u6 _ _ _ _ a=u6 _ _ _ _ ((p::r).map vd)by rw[c]];refine G1 vd _ _ λq m=>⟨[.v (vd q),Sl.v (.lst a)],rfl,?_⟩;show((U8 (.lst a)<|.int 0).bind _).bind _=_;rw[i0];rfl
    have l:∀w∈(p::r).map (· -p),Sz 1001 w:=λw l=>by obtain⟨q,m,rfl⟩:=aAl.mp l;exact(E.1 q m).sub (E.1 p (.head _))
    have I:(((p::r).map (· -p)).map vd).length<=sizeLine:=by rw[aAj,aAj];exact small E.2
    have L:a.length<=sizeLine:=by rw[<-c,aAj];exact small E.2
    have e:((a.length:Int)==0)=false:=by rw[<-c];simp;lia
    have t:=CY ((p::r).map (· -p));unfold G.T5;dsimp only;rw[c];generalize(p::r).map (· -p)=W at*
    have n:=λu=>CY (W.map<|G.cr u);cases T:G.A8 W with
    |none=>rw[T]at t;simp[j4,i8,L,e,H,t,BY,OG]
    |some s=>
     rw[T]at t;obtain⟨hm,_⟩:=G.t9 T;have A:=l s hm;have B:u6 (λd ρ=>R.ok (aCM ρ 0<|Sl.v d)) (λx=>R.ok true) (λρ=>((T1 1 ρ).bind λd=>((T1 0 ρ).bind λd=>R.ok [d]).bind λo=>R.ok (d::o)).bind v5) [.no,.v (vd s)] (W.map vd)=.ok ((W.map<|G.cr s).map vd):=by rw[aBJ];refine G1 vd _ _ λq m=>⟨[.v (vd q),Sl.v (vd s)],rfl,?_⟩;show v5 [vd s,vd q]=_;exact aM A.mono (l q m).mono
     have n:=CY (W.map<|G.cr s);have eW:(W.map vd).length=W.length:=aAj ..;rw[eW]at I;cases C:G.A8 (W.map<|G.cr s)with
     |none=>rw[C]at n;simp only[aBJ]at B n;simp only[C];simp[j4,i8,L,e,H,t,BY,OG,I,B,n]
     |some f=>
      rw[C]at n;obtain⟨kh,_⟩:=G.t9 C;have U:Sz 2003 f:=by obtain⟨q,m,rfl⟩:=aAl.mp kh;exact(A.cr<|l q m).mono
      have c3:u6 (λd ρ=>R.ok (aCM ρ 0<|Sl.v d)) (λx=>R.ok true) (λρ=>(((T1 1 ρ).bind λd=>((T1 0 ρ).bind λd=>R.ok [d]).bind λo=>R.ok (d::o)).bind j5).bind λx=>IE x (D.int 0)) [.no,.v (vd f)] (W.map vd)=.ok ((W.map λw=>decide (G.c8 f w≠0)).map D.bl):=by rw[aBJ];refine G1 vd _ _ λq m=>⟨[.v (vd q),Sl.v (vd f)],rfl,?_⟩;show(j5 [vd f,vd q]).bind _=_;rw[bL U.mono (l q m).mono,R.aa0,LC];congr 2;rw[aDa];simp
      have y:=gk (W.map λw=>decide (G.c8 f w≠0));have ean:(W.map λw=>decide (G.c8 f w≠0)).any id=W.any λw=>decide (G.c8 f w≠0):=by rw[List.any_map];rfl
      rw[ean]at y;simp only[aBJ]at B n c3 y;simp only[C];generalize(λw=>decide (G.c8 f w≠0))=Bf at*
      cases hc:W.any Bf with
      |false=>rw[hc]at y;simp[j4,i8,L,e,H,t,BY,OG,I,B,n,c3,y]
      |true=>rw[hc]at y;simp[j4,i8,L,e,H,t,BY,OG,I,B,n,c3,y]
   .cases h
  .cases h
def Z9 (F5:w9 P w K mg base 2 "dimension_of" 1 C1)(g:cP K mg "refuse_flat" Z5):w9 P w K mg base 3 "refuse_flat" 1 D8:=by
 refine' m8 (k:=2) (F:=_) g pE (λc p q r=>?b) λf d s h=>?_
 case b=>refine' (d7<|A5 (k8 EX (PD.pb<|FU F5 c<|c7 0) A7) (d7 kH) n6)
 match f,h with
 |[.lst Y],h=>
  simp only[D8]at h;split at h
  .rename_i J l;rw[o9 l];split at h
   .rename_i m;rw[<-h];obtain⟨n,a⟩:=m;have o:J≠[]:=λe=>by subst e;cases a
    have e:=OP o n;rw[a]at e;simp[j4,e]
   .cases h
  .cases h
def F4 (jW:w9 P w K mg base 1 "side_of" 2 aV)(g:cP K mg "points_on" Y3):w9 P w K mg base 2 "points_on" 2 z7:=by
 refine' m8 (k:=1) (F:=_) g wG (λm n q r=>?b) λf d s h=>?_
 case b=>refine' (d7<|j2<|M2 ["P"] ["plane"] [0] rfl (F3 (sc:=c6 Y3) (N:=lW)) (p8<|c7 1) (zk λ_ _ _ _ _=>⟨(k8 (X6 n) (PD.pb<|X9 jW m (c7 1)<|c7 0) A7),(c7 0)⟩)<|λ_=>n8)
 replace h:=LU h;obtain⟨a,b,c,d,f,rfl,h⟩:=h;replace h:=wX h;obtain⟨Y,f,rfl,h⟩:=h;replace h:=D4 h;obtain⟨rfl,h⟩:=h
 .skip
  split at h
  .rename_i J o;rw[o9 o];split at h
   .rename_i l;rw[<-h];have e:=O9 vd (G:=λd ρ=>R.ok (aCM ρ 0<|Sl.v d)) (ft:=λρ=>((((T1 1 ρ).bind λd=>((T1 0 ρ).bind λd=>R.ok [d]).bind λf=>R.ok (d::f)).bind aV).bind λx=>KJ x (D.int 0)).bind qN) (fe:=T1 0) (ρ:=[.no,.v (.tup [D.int a,D.int b,D.int c,D.int d])])
     (λX=>decide (G.c8 ⟨a,b,c⟩ X=d)) vd J λP p=>⟨[.v (vd P),Sl.v (D.tup [D.int a,D.int b,D.int c,D.int d])],rfl,by simp[SE l.1.mono (l.2.1 P p).mono,a1a,G.c8];exact decide_eq_decide.mpr (by lia),λ_=>rfl⟩
    simp[j4,i8,small l.2.2,e];rfl
   .cases h
  .cases h
def J4 (n9:w9 P w K mg base 1 "way_between" 2 l6)(y8:w9 P w K mg base 1 "product_of" 2 j5)(C9:w9 P w K mg base 1 "cross_of" 2 v5)(R7:w9 P w K mg base 2 "plane_through" 3 S6)(dc:KO K mg "NO_WAY" [0,0,0])(g:cP K mg "plane_about" Z8):w9 P w K mg base 3 "plane_about" 2 D6:=by
 refine' m8 (k:=2) (F:=_) g pC (λs hu fb q=>?b) λN d hl h=>?_
 case b=>
  refine' (b9 (i9 2 (X9 n9 s (f7 (b8 0) d6)<|f7 (b8 0) d6) q)
   (b9 (i9 3 (wY dc) q)
   (b9 (i9 4 (f7 (b8 0) d6) q)
   (b9 (B9 aAO rfl (p8<|c7 1) (l4 5 q) (b9 (i9 6 (X9 n9 s (f7 (b8 0) d6)<|c7 5) q)
   (d7 (A5 (AU.pt<|oU (k8 (X6 hu) (b8 3)<|PD.pb<|wY dc)<|xB<|k8 lK (PD.pb<|X9 y8 s (c7 3)<|c7 6) A7) (b9 (i9 3 (X9 C9 s (c7 2)<|c7 6) q)
   (d7<|i9 4 (c7 5) q)) n6))))
   (d7<|j2<|pc3 R7 s (f7 (b8 0) d6) (f7 (b8 0) d6)<|c7 4)))))
 replace h:=uM h;obtain⟨ys,N,rfl,h⟩:=h;replace h:=wX h;obtain⟨Y,N,rfl,h⟩:=h;replace h:=D4 h;obtain⟨rfl,h⟩:=h;replace h:=C6 h;obtain⟨a,b,c,ys,rfl,h⟩:=h;replace h:=C6 h;obtain⟨d,e,f,ys,rfl,h⟩:=h;replace h:=D4 h;obtain⟨rfl,h⟩:=h
 .skip
  split at h
  .rename_i J hw;rw[o9 hw];split at h
   .rename_i hz;rw[<-h];obtain⟨r,H,hs,O⟩:=hz;have vA:(.tup [.int a,.int b,.int c]:D)=vd ⟨a,b,c⟩:=rfl;have vB:(.tup [.int d,.int e,.int f]:D)=vd ⟨d,e,f⟩:=rfl;rw[vA,vB];generalize(⟨a,b,c⟩:G.V)=A at*
    generalize(⟨d,e,f⟩:G.V)=B at*
    simp[j4];have z0:(.tup [.int 0,.int 0,.int 0]:D)=vd 0:=rfl;rw[z0];refine eG (λrest ρ=>∃(m l:G.V) (n:List G.V) (x y:Sl),ρ=[.v (.tup [vd A,vd B]),.v (.lst (aCA vd J)),.v (vd<|B-A),.v (vd m),.v (vd l),x,y]/\rest=n.map vd/\Sz 2003 m/\Sz 1000 l/\(∀X∈n,Sz 1000 X)/\G.E8 (B-A) A n m l=G.E8 (B-A) A J 0 A) ?_ ⟨0,A,J,_,_,rfl,rfl,⟨by decide,by decide,by decide⟩,r,hs.1,rfl⟩ ?_
    .rintro d N ρ ⟨m,l,n,x,y,rfl,t,Q,T,C,o⟩;match n,t with
     |P::n,t=>
      injection t with e3 e4;subst e3 e4;have U:=C P (.head _);have I:=U.sub r;have e0:=eq0 m;rw[show(.tup [.int 0,.int 0,.int 0]:D)=vd 0 from rfl]at e0;have c1:=aM (u:=B-A) (v:=P-A) (H.sub r).mono I.mono;have p1:=bL (u:=m) (v:=P-A) Q.mono I.mono;have w1:=OQ A P;have i0:U8 (.tup [vd A,vd B]) (.int 0)=.ok (vd A):=rfl
      conv at o=>lhs;unfold G.E8
      simp only[K0,aBv,aBw,fY,pW,cA,X4,R.aa0,i0,w1,A4,e0,FK,p1,vT];by_cases L:m=0
      .rw[kd (.inl L)]at o;refine⟨_,?_,G.cr (B-A) (P-A),P,n,.v (vd P),.v (vd<|P-A),rfl,rfl,(((H.sub r).cr I).mono),U,λX E=>C X (.tail _ E),o⟩;rw[decide_eq_true L];simp only[if_true,R.aa0,c1,A4,aBv,aBw,cA,X4]
      .rw[decide_eq_false L];by_cases p:0<G.c8 m (P-A)
       .rw[kd (.inr p)]at o;refine⟨_,?_,G.cr (B-A) (P-A),P,n,.v (vd P),.v (vd<|P-A),rfl,rfl,(((H.sub r).cr I).mono),U,λX E=>C X (.tail _ E),o⟩;rw[decide_eq_true p];simp only[if_true,aAt,if_false,R.aa0,c1,A4,aBv,aBw,cA,X4]
       .rw[kz (λz=>z.elim L p)]at o;refine⟨_,?_,m,l,n,.v (vd P),.v (vd<|P-A),rfl,rfl,Q,T,λX E=>C X (.tail _ E),o⟩;rw[decide_eq_false p];simp only[aAt,if_false,R.aa0]
    .rintro ρ ⟨m,l,n,x,y,rfl,t,Q,T,C,o⟩;have:n=[]:=by simpa using t.symm
     subst this;have o:(m,l)=G.E8 (B-A) A J 0 A:=o;have eo:(G.E8 (B-A) A J 0 A).2=l:=by rw[<-o]
     unfold G.b7 at O⊢;rw[eo]at O⊢;have pl:=PZ ⟨r,H,T⟩ (TM O);simp[pl]
   .cases h
  .cases h
def bB (F4:w9 P w K mg base 2 "points_on" 2 z7)(J4:w9 P w K mg base 3 "plane_about" 2 D6)(F5:w9 P w K mg base 2 "dimension_of" 1 C1)(mo:mg "min"=none)(g:cP K mg "first_pair" bO):w9 P w K mg base 8 "first_pair" 1 G6:=by
 refine' m8 (k:=7) (F:=_) g rA (λe z fb o=>?b) λA d hl h=>?_
 case b=>
  have B:=e.ad6 (by decide);refine' (b9 (i9 1 (R1 (VZ rfl B)<|m9 (b8 0) x6) o)
   (b9 (i9 2 (BP (c7 1)<|JG (f7 (b8 1) d6) (f7 (b8 1) d6)<|c5 o5 (PD.pb<|f7 (b8 1) d6) A7) o)
   (b9 (i9 3 (X9 F4 e (X9 J4 e (c7 2)<|c7 0)<|c7 0) o)
   (b9 (A5 (k8 (X6 z) (PD.pb<|FU F5 e<|c7 3) A7) (d7<|j2<|c7 2) n6)
   (d7<|j2<|BP (f7 (b8 3) d6)<|f7 (b8 3) d6)))))
 match A,h with
 |[.lst Y],h=>
  simp only[G6]at h;split at h
  .rename_i m J C;rw[o9 C];split at h
   .rename_i a;rw[<-h];have u:=iz a.good.ord;have f:R5 1000 (m::J):=a.sz.mono;have l:Sz 900 m:=a.sz.1 m (.head _);obtain⟨E,H,I,N,O⟩:=G.AJ a.good.solid a.good.mem a.good.least;have p:=X7 l.mono (MP l) f E;have q:=AL l.mono (MP l) f;rw[rz]at p;have v:=jJ (d:=(G.b7 m (m+G.kk) (m::J)).2) q.mono f;obtain⟨x,y,r,c⟩:=NU H N O;have Q:=NL (n:=(G.b7 m (m+G.kk) (m::J)).1) (d:=(G.b7 m (m+G.kk) (m::J)).2) f;have s:=OP (J:=G.w8 (G.b7 m (m+G.kk) (m::J)).1 (G.b7 m (m+G.kk) (m::J)).2 (m::J)) (by rw[c];simp) Q;have T:U8 (.lst ((G.w8 (G.b7 m (m+G.kk) (m::J)).1 (G.b7 m (m+G.kk) (m::J)).2 (m::J)).map vd)) (.int 0)=.ok (vd x):=N3 (by rw[c];exact a0b _ _);have U:U8 (.lst ((G.w8 (G.b7 m (m+G.kk) (m::J)).1 (G.b7 m (m+G.kk) (m::J)).2 (m::J)).map vd)) (.int 1)=.ok (vd y):=N3 (by rw[c];exact tw _ _ _);unfold G.f6;dsimp only;by_cases t:G.T5 (G.w8 (G.b7 m (m+G.kk) (m::J)).1 (G.b7 m (m+G.kk) (m::J)).2 (m::J))=2
    .rw[kd t];rw[t]at s;generalize(m::J).map vd=L at*
     generalize(G.w8 (G.b7 m (m+G.kk) (m::J)).1 (G.b7 m (m+G.kk) (m::J)).2 (m::J)).map vd=L2 at*
     generalize(G.b7 m (m+G.kk) (m::J)).1=pn at*
     generalize(G.b7 m (m+G.kk) (m::J)).2=pm at*
     simp[j4,u,p,v,s,G.kk]
    .rw[kz t];have e0:(G.w8 (G.b7 m (m+G.kk) (m::J)).1 (G.b7 m (m+G.kk) (m::J)).2 (m::J)).getD 0 0=x:=by rw[c];rfl
     have e1:(G.w8 (G.b7 m (m+G.kk) (m::J)).1 (G.b7 m (m+G.kk) (m::J)).2 (m::J)).getD 1 0=y:=by rw[c];rfl
     rw[e0,e1];have hb:((G.T5 (G.w8 (G.b7 m (m+G.kk) (m::J)).1 (G.b7 m (m+G.kk) (m::J)).2 (m::J)):Int)==2)=false:=by rw[beq_eq_false_iff_ne];lia
     generalize(m::J).map vd=L at*
     generalize(G.w8 (G.b7 m (m+G.kk) (m::J)).1 (G.b7 m (m+G.kk) (m::J)).2 (m::J)).map vd=L2 at*
     generalize(G.T5 (G.w8 (G.b7 m (m+G.kk) (m::J)).1 (G.b7 m (m+G.kk) (m::J)).2 (m::J)):Int)=dd at*
     generalize(G.b7 m (m+G.kk) (m::J)).1=pn at*
     generalize(G.b7 m (m+G.kk) (m::J)).2=pm at*
     simp[j4,u,p,v,s,hb,T,U]
   .cases h
  .cases h
def kB (y8:w9 P w K mg base 1 "product_of" 2 j5)(C9:w9 P w K mg base 1 "cross_of" 2 v5)(n9:w9 P w K mg base 1 "way_between" 2 l6)(g:cP K mg "turn_of" lD):w9 P w K mg base 2 "turn_of" 4 fH:=by
 refine' m8 (k:=1) (F:=_) g BQ (λm A B C=>?b) λn d E h=>?_
 case b=>refine' (d7<|j2<|X9 y8 m (c7 0)<|X9 C9 m (X9 n9 m (c7 1)<|c7 2)<|X9 n9 m (c7 2)<|c7 3)
 replace h:=C6 h;obtain⟨a,b,c,n,rfl,h⟩:=h;replace h:=C6 h;obtain⟨d,e,f,n,rfl,h⟩:=h;replace h:=C6 h;obtain⟨g,o,i,n,rfl,h⟩:=h;replace h:=C6 h;obtain⟨j,k,l,n,rfl,h⟩:=h;replace h:=D4 h;obtain⟨rfl,h⟩:=h
 .skip
  split at h
  .rename_i y;obtain⟨p,q,r,s⟩:=y;rw[<-h];have t:=aM (u:=⟨g,o,i⟩-⟨d,e,f⟩) (v:=⟨j,k,l⟩-⟨g,o,i⟩) (r.sub q).mono (s.sub r).mono;have x:=bL (u:=⟨a,b,c⟩) (v:=G.cr (⟨g,o,i⟩-⟨d,e,f⟩) (⟨j,k,l⟩-⟨g,o,i⟩)) p.mono ((r.sub q).cr (s.sub r)).mono;simp only[vd,G.XF,G.XM,G.XQ,G.UV,G.SK,G.UM]at t x;have z:∀a b c d e f:Int,l6 [.tup [.int a,.int b,.int c],.tup [.int d,.int e,.int f]]=.ok (.tup [.int (d-a),.int (e-b),.int (f-c)]):=λ_ _ _ _ _ _=>rfl;simp[j4,z,t,x,G.turn,G.f8]
  .cases h
def T8 (kB:w9 P w K mg base 2 "turn_of" 4 fH)(dh:mg "len"=none)(g:cP K mg "left_chain" bW):w9 P w K mg base 3 "left_chain" 2 U4:=by
 refine' m8 (k:=2) (F:=_) g rJ (λhr hu fb nd=>?b) λp d N h=>?_
 case b=>
  refine' (b9 (bY 2 (jS p5) nd)
   (b9 (B9 aAO rfl (p8<|c7 1) (l4 3 nd) (b9 (fG (λ_=>1001) aAO (AU.pt<|jK (k8 lK (PD.pb<|DQ S1<|b8 2) A7)<|cW<|k8 qk (PD.pb<|pc4 kB hr (c7 0) (f7 (b8 2)<|pB d6) (f7 (b8 2)<|pB d6)<|c7 3) A7)<|d7<|TL 2)
   (d7<|P1 2<|c7 3)))
   (d7<|GA 2<|j2<|c7 2)))
 replace h:=C6 h;obtain⟨a,b,c,p,rfl,h⟩:=h;replace h:=wX h;obtain⟨Y,p,rfl,h⟩:=h;replace h:=D4 h;obtain⟨rfl,h⟩:=h
 .skip
  split at h
  .rename_i J hw;rw[o9 hw];split at h
   .rename_i O;rw[<-h];obtain⟨sn,hs⟩:=O;have vn:(.tup [.int a,.int b,.int c]:D)=vd ⟨a,b,c⟩:=rfl;rw[vn];generalize(⟨a,b,c⟩:G.V)=n at*
    simp[j4];refine eG (λrest ρ=>∃(c l:List G.V) (x:Sl),ρ=[.v (vd n),.v (.lst (aCA vd J)),.o (c.reverse.map vd),x]/\rest=l.map vd/\(∀X∈c,Sz 1000 X)/\(∀X∈l,Sz 1000 X)/\c.length+l.length<=1000/\l.foldl (λc P=>P::G.Y1 n P c) c=G.x4 n J) ?_ ⟨[],J,_,rfl,rfl,λX q=>by(cases q),hs.1,by simpa using hs.2,rfl⟩ ?_
    .rintro d p ρ ⟨c,l,x,rfl,y,sc,Q,N,A⟩;match l,y with
     |P::l,y=>
      injection y with e3 e4;subst e3 e4;have T:=Q P (.head _);simp only[aAv]at N;simp only[K0,aBv,aBw];refine Exists.elim (pF (n:=1001) (ρ:=[.v (vd n),.v (.lst (aCA vd J)),.o (c.reverse.map vd),.v (vd P)]) (Post:=λρ=>∃e,ρ=[.v (vd n),.v (.lst (aCA vd J)),.o (e.reverse.map vd),.v (vd P)]/\(∀X∈e,Sz 1000 X)/\e.length<=c.length/\e=G.Y1 n P c)
       (c:=VH (λρ=>((((rO 2 ρ).bind λd=>R.ok [d]).bind HI).bind λx=>WS x (D.int 1)).bind qN) λρ=>((((T1 0 ρ).bind λd=>(((rO 2 ρ).bind λx=>U8 x (D.int (-2))).bind λd=>(((rO 2 ρ).bind λx=>U8 x (D.int (-1))).bind λd=>((T1 3 ρ).bind λd=>R.ok [d]).bind λp=>R.ok (d::p)).bind λp=>R.ok (d::p)).bind λp=>R.ok (d::p)).bind fH).bind λx=>uq x (D.int 0)).bind qN) (F:=λρ=>(CU 2 ρ).bind λz=>R.ok (Out.nx z.snd))
       (λm ρ=>∃e,ρ=[.v (vd n),.v (.lst (aCA vd J)),.o (e.reverse.map vd),.v (vd P)]/\(∀X∈e,Sz 1000 X)/\e.length<=c.length/\e.length<m/\G.Y1 n P e=G.Y1 n P c) ?_ (by rintro ρ ⟨e,_,_,_,h,_⟩;lia) ⟨c,rfl,sc,aAh _,by lia,rfl⟩ ?_) ?_
      .rintro m ρ ⟨e,rfl,sub,s,t,f⟩;match e,sub,s,t,f with
       |[],_,_,_,_=>exact .inl (by simp)
       |[a],_,_,_,_=>exact .inl (by simp)
       |b::a::r,sub,s,t,f=>
        have u:(b::a::r).reverse.map vd=r.reverse.map vd++[vd a,vd b]:=by simp
        have C:U8 (.lst ((b::a::r).reverse.map vd)) (.int (-1))=.ok (vd b):=N3 (by rw[u];exact WG _ _ _);have E:U8 (.lst ((b::a::r).reverse.map vd)) (.int (-2))=.ok (vd a):=N3 (by rw[u];exact WH _ _ _);have H:=FZ sn (sub a<|.tail _ (.head _)) (sub b<|.head _) T;have I:(1:Int)<(aCA vd (b::a::r).reverse).length:=by rw[aAj,aCI];simp;lia
        by_cases U:G.turn n a b P<=0
        .refine .inr ⟨?_,[.v (vd n),.v (.lst (aCA vd J)),.o ((a::r).reverse.map vd),.v (vd P)],?_,a::r,rfl,λX q=>sub X (.tail _ q),?_,?_,?_⟩
         .simp only[wJ,fY,EF,R.aa0,nW,vT,decide_eq_true I,FK,if_true,X4,cA,C,E,H,DK,decide_eq_true U]
         .show(match(aCA vd (b::a::r).reverse)[(aCA vd (b::a::r).reverse).length-1]? with|some d=>_|none=>_:R (D×Ev)).bind _=_;rw[u];simp
         .simp only[aAv]at s⊢;lia
         .simp only[aAv]at t⊢;lia
         .rw[<-f]
          conv=>rhs;unfold G.Y1
          rw[kd U]
        .refine .inl ?_;simp only[wJ,fY,EF,R.aa0,nW,vT,decide_eq_true I,FK,if_true,X4,cA,C,E,H,DK,decide_eq_false U]
      .rintro m ρ ⟨e,rfl,sub,s,t,f⟩ L;refine⟨e,rfl,sub,s,?_⟩;match e,sub,s,t,f,L with
       |[],_,_,_,f,_=>exact f
       |[a],_,_,_,f,_=>exact f
       |b::a::r,sub,s,t,f,L=>
        have u:(b::a::r).reverse.map vd=r.reverse.map vd++[vd a,vd b]:=by simp
        have C:U8 (.lst ((b::a::r).reverse.map vd)) (.int (-1))=.ok (vd b):=N3 (by rw[u];exact WG _ _ _);have E:U8 (.lst ((b::a::r).reverse.map vd)) (.int (-2))=.ok (vd a):=N3 (by rw[u];exact WH _ _ _);have H:=FZ sn (sub a<|.tail _ (.head _)) (sub b<|.head _) T;have I:(1:Int)<(aCA vd (b::a::r).reverse).length:=by rw[aAj,aCI];simp;lia
        simp only[wJ,fY,EF,R.aa0,nW,vT,decide_eq_true I,FK,if_true,X4,cA,C,E,H,DK,PU,decide_eq_false_iff_not]at L;rw[<-f]
        conv=>rhs;unfold G.Y1
        rw[kz L]
      .rintro ρ2 ⟨ew,e,rfl,sub,s,B⟩;refine⟨[.v (vd n),.v (.lst (aCA vd J)),.o ((P::e).reverse.map vd),.v (vd P)],?_,P::e,l,_,rfl,rfl,?_,λX q=>Q X (.tail _ q),?_,?_⟩
       .rw[ew];have O:(aCA vd e.reverse).length<sizeLine:=by rw[aAj,aCI];exact aCt (show e.length<=1000 by lia) (by decide)
        simp only[A4,cA,X4,R.aa0];show(if(aCA vd e.reverse).length<sizeLine then _ else _)=_;rw[kd O];simp
       .intro X q;rcases aAd.mp q with rfl|q
        .exact T
        .exact sub X q
       .simp;lia
       .rw[<-A,aDx,B]
    .rintro ρ ⟨c,l,x,rfl,y,sc,Q,N,A⟩;have:l=[]:=by simpa using y.symm
     subst this;have A:c=G.x4 n J:=A;subst A;simp[VJ]
   .cases h
  .cases h
def jX (T8:w9 P w K mg base 3 "left_chain" 2 U4)(A:mg "list"=none)(B:mg "reversed"=none)(g:cP K mg "ring_of" kP):w9 P w K mg base 4 "ring_of" 2 O7:=by
 refine' m8 (k:=3) (F:=_) g BR (λf C E m=>?b) λo d H h=>?_
 case b=>
  refine' (b9 (i9 2 (X9 T8 f (c7 0)<|c7 1) m)
   (b9 (i9 3 (X9 T8 f (c7 0)<|PF.pd<|DZ (b8 1) rfl) m)
   (d7<|j2<|c5 o5 (PD.pb<|tO (b8 2) cT<|W3<|pB d6)<|PD.pb<|tO (b8 3) cT<|W3<|pB d6)))
 replace h:=C6 h;obtain⟨a,b,c,o,rfl,h⟩:=h;replace h:=wX h;obtain⟨Y,o,rfl,h⟩:=h;replace h:=D4 h;obtain⟨rfl,h⟩:=h
 .skip
  split at h
  .rename_i J r;rw[o9 r];split at h
   .rename_i s;rw[<-h];obtain⟨p,e⟩:=s;have t:(.tup [.int a,.int b,.int c]:D)=vd ⟨a,b,c⟩:=rfl;rw[t];generalize(⟨a,b,c⟩:G.V)=n at*
    have u:=WJ p e;have v:R5 1000 J.reverse:=e.sub (λP x=>by simpa using x) (by simp);have q:=WJ p v;rw[aFC (l:=J)]at q;have I:=uB n J;have y:=uB n J.reverse;rw[aCI]at y;have z:jY (.lst ((G.x4 n J).reverse.map vd).dropLast) (.lst ((G.x4 n J.reverse).reverse.map vd).dropLast)=.ok (.lst ((G.k5 n J).map vd)):=by rw[GS (by simp only[aGb,aAj,aCI];exact aAr (show _<=2000 by have:=e.2;lia) (by decide))];unfold G.k5;rw[aCs,List.map_dropLast,List.map_dropLast]
    simp[-aFC,j4,u,q,RV,z,yy]
   .cases h
  .cases h
def J2 (n:mg "list"=none)(a:mg "zip"=none)(g:cP K mg "pairs_round" Z1):w9 P w K mg base 1 "pairs_round" 1 w5:=by
 refine' m8 (k:=0) (F:=_) g nU (λo p q r=>?b) λf d s h=>?_
 case b=>refine' (d7<|j2<|PF.pd<|BD (b8 0) (PD.pb<|c5 o5 (PD.pb<|tO (b8 0) (W3 d6) cT)<|PD.pb<|tO (b8 0) cT<|W3 d6) rfl)
 match f,h with
 |[.lst Y],h=>
  simp only[w5]at h;split at h
  .rename_i J l;rw[o9 l];split at h
   .rename_i t;rw[<-h];have m:jY (.lst (J.map vd).tail) (.lst ((J.map vd).take 1))=.ok (.lst ((J.tail++J.take 1).map vd)):=by rw[GS (by simp only[List.length_tail,aBU,aAj];exact az (by lia))];rw[aCs,List.map_tail,List.map_take]
    have c:(J.map vd).length=((J.tail++J.take 1).map vd).length:=by
     simp only[aAj,aAD,List.length_tail,aBU]
     lia
    have e:TU [.lst (J.map vd),.lst ((J.tail++J.take 1).map vd)]=.ok ((G.N1 J).map u8):=by show(if _ then _ else _)=_;rw[kd c,rS (β:=Unit)];rfl
    simp[-aCs,-List.map_tail,-List.map_take,j4,UB,YS,m,e]
   .cases h
  .cases h
def bP (J4:w9 P w K mg base 3 "plane_about" 2 D6)(jX:w9 P w K mg base 4 "ring_of" 2 O7)(J2:w9 P w K mg base 1 "pairs_round" 1 w5)(C:mg "len"=none)(I:mg "sorted"=none)(g:cP K mg "faces_from" bS):VR P w K mg base 8 3 "faces_from" G3:=by
 obtain⟨f,N,q,l⟩:=g;refine' VA (k:=7) (F:=_) l fS rfl (l.binds λ_ _ _ _ _ _ r t=>match r,t with|[_,_,_],_=>rfl) q (λL A c s H E a=>?hb) ?hm
 case hb=>
  have O:=a.units;have n:=a.ae4;have u:=a.ad6 (by decide);have b:=fS.nd;refine' (b9 (bY 3 (jS p5) b)
   (b9 (AA 4 b)
   (b9 (bY 5 (jS<|i7 (c7 0) p5) b)
   (b9 (fG (λ_=>5000) aAO (k8 lK (PD.pb<|DQ S1<|b8 5) A7) (b9 (DA 6 5 b)
   (d7 (A5 (JA 4 (c7 6) n) (b9 (i9 7 (X9 J4 a (c7 6) (zH 1 (k:=3) (Φ:=KN P w K mg base 3 1) rfl (i7 (f7 (b8 6) d6) p5) (A0 V7) (a.mono (by decide)))) b)
   (b9 (i9 8 (X9 jX a (tO (b8 7) cT<|W3 d6) (zH 2 (k:=3) (Φ:=KN P w K mg base 3 1) rfl (i7 (c7 7) p5) (A0 V7) (a.mono (by decide)))) b)
   (b9 (P1 3<|BP (c7 7)<|c7 8)
   (d7 (B9 aAO rfl (p8<|FU J2 a<|c7 8) (l4 9 b) (b9 (gF 4 zI (c7 9) n)
   (d7<|P1 5<|BP (f7 (b8 9) d6)<|f7 (b8 9) d6))))))) n6))))
   (d7<|j2<|PF.pd<|DU (b8 3) rfl u)))))
 case hm=>
  intro d Q T U h;simp only[G3]at h;split at h
  .rename_i Y v;split at h
   .rename_i m J x;split at h
    .rename_i e;rw[<-h];obtain⟨e,y,z,o,p⟩:=e;rw[o9 x]at o p;subst z o p;have B:(1:Nat)<=sizeLine:=by decide
     simp only[kZ,X4,aS,eV,R.aa0,aAv,aBB,aDR,B,if_true,A4];exact a0e (Φ:=KN P w K mg base 3 1) e y
    .cases h
   .cases h
  .cases h
def sN:Nst:=⟨"about",GU,C8 cO,p6 cO,c6 cO,FD cO,["corner"],[],["spread"],[1],(λρ=>(T1 1 ρ).bind λd=>.ok (.rt d)),J1,2⟩
def dU:Nst:=⟨"touched_by",iM,C8 J5,p6 J5,c6 J5,FD J5,["plane"],[],["spread"],[1],(λρ=>((o6 (T1 0) (o6 (T1 1) R0) ρ).bind z7).bind λd=>.ok (.rt d)),D3,3⟩
def JP {f:bc}{L:af}{A:cv}{a:List Env}{s:bb}{H:Hp}{E:XK}:NstOk (RN P w K mg base gR "faces_of" (c6 K4) f L A a s H E) 2 sN where
 sc:=⟨rfl,rfl,rfl,by decide+kernel,by decide+kernel,by decide+kernel,λx h=>FH h,by decide+kernel⟩
 one:=rfl
 body:=λr g c A a s H k=>by have t:=k.units;exact(d7<|j2<|c7 1)
 mm:=by
  intro l m d b e h;match l,m,b,e,h with
  |[_],[_],_,_,h=>cases h;rfl
 bind:=λc n u g o p q=>match p,q with|[_],_=>rfl
 len:=rfl
 at_:=λi j x b e=>match i,b,e with
  |0,b,e=>by obtain rfl:1=j:=aAn b;obtain rfl:("spread":Str)=x:=aAn e;exact⟨rfl,rfl⟩
  |i+1,b,_=>nomatch(show(none:Option Nat)=some j from b)
 d0:=rfl
 k0:=rfl
 nm:=rfl
 lc:=.inl rfl
 st:=.inl rfl
 dbg:=by decide
 cdt:=by decide
def qJ (F4:w9 P w K mg base 2 "points_on" 2 z7){f:bc}{L:af}{A:cv}{a:List Env}{s:bb}{H:Hp}{E:XK}:NstOk (RN P w K mg base gR "faces_of" (c6 K4) f L A a s H E) 2 dU where
 sc:=⟨rfl,rfl,rfl,by decide+kernel,by decide+kernel,by decide+kernel,λx h=>FH h,by decide+kernel⟩
 one:=rfl
 body:=λu l c A a s H k=>by have y:=k.units;exact(d7<|j2<|X9 F4 k (c7 0)<|c7 1)
 mm:=by
  intro m n d b g h;match m,n,b,g,h with
  |[w],[p],_,_,h=>have h:z7 [p,w]=.ok d:=h;show K3 (((o6 (T1 0) (o6 (T1 1) R0) [.v p,.v w]).bind z7).bind λd=>.ok (.rt d))=.ok d;have e:o6 (T1 0) (o6 (T1 1) R0) [.v p,.v w]=.ok [p,w]:=rfl;rw[e,R.aa0,h];rfl
 bind:=λc o z l q r t=>match r,t with|[_],_=>rfl
 len:=rfl
 at_:=λi j x b g=>match i,b,g with
  |0,b,g=>by obtain rfl:1=j:=aAn b;obtain rfl:("spread":Str)=x:=aAn g;exact⟨rfl,rfl⟩
  |i+1,b,_=>nomatch(show(none:Option Nat)=some j from b)
 d0:=rfl
 k0:=rfl
 nm:=rfl
 lc:=.inl rfl
 st:=.inl rfl
 dbg:=by decide
 cdt:=by decide
def gO {u:bc}(F4:w9 P w K mg base 2 "points_on" 2 z7)(Z9:w9 P w K mg base 3 "refuse_flat" 1 D8)(bB:w9 P w K mg base 8 "first_pair" 1 G6)(bP:VR P w K mg base 8 3 "faces_from" G3)(bf:mg "sorted"=none)(jl:mg "set"=none)(T:jG mg base)(l:(u,tbK)∈Tabs.tbs)(g:yx K mg "faces_of" K4 u):w9 P w K mg base 9 "faces_of" 1 V9:=by
 obtain⟨f,fd,cd,U,hK,y⟩:=g;refine' VW (k:=8) (F:=_) y lU (y.fn.binds λ_ _ _ _ _ _ us z=>match us,z with|[_],_=>rfl) U (λA o s H E a=>?hb) ?hm
 case hb=>
  have hu:=a.units;have fb:=a.ae4;have vf:=a.ad6 (by decide);have B:=lU.nd;refine' (b9 (LP<|FU Z9 a<|c7 0)
   (b9 (i9 1 (PF.pd<|bZ (b8 0) rfl vf) B)
   (DX (n1:=sN) (n2:=dU) (clos1:=[("spread",s.heap.objs.size+1)]) (clos2:=[("spread",s.heap.objs.size+1)]) (tb:=tbK) JP (qJ F4) ?co1 ?co2 ?hA T rfl hK l (by decide+kernel) (by decide+kernel) (by decide+kernel) (by decide+kernel) (by decide) B bP (a.mono (by decide)) (FU bB a<|c7 1) (λ_=>rfl))))
  case co1=>exact⟨rfl,rfl,rfl,λx c h=>h,λx p=>⟨_,by obtain rfl:x= "spread":=aBh.mp p;rfl⟩⟩
  case co2=>exact⟨rfl,rfl,rfl,λx c h=>h,λx p=>⟨_,by obtain rfl:x= "spread":=aBh.mp p;rfl⟩⟩
  case hA=>exact HW
 case hm=>
  intro q d z h;match q,h with
  |[.lst Y],h=>
   simp only[V9]at h;split at h
   .rename_i J hw;rw[o9 hw];split at h
    .rename_i hz;rw[<-h];obtain⟨C,I,N⟩:=hz;obtain⟨m,r,e,L⟩:=U9 C I (by lia);have t:=OW (J:=J) (by lia);have fl:=VN (C.mono (n:=1000)) I;rw[e]at N t⊢;have O:=qz L;have Q:=cx L N;obtain⟨b,eL⟩:∃b,(m::r).map vd=b:=⟨_,rfl⟩;rw[eL]at t O Q;show K3 (B7 ((D8 [D.lst (J.map vd)]).bind λ_=>R.ok (Out.nx [.v (.lst (J.map vd)),.no,.no,.no])) _)=_;rw[fl,R.aa0,A4];show K3 (B7 (((my<|.lst (J.map vd)).bind λq=>R.ok (D.lst q)).bind λd=>R.ok (Out.nx [.v (.lst (J.map vd)),.v d,.no,.no])) _)=_;rw[t,R.aa0,R.aa0,A4];show K3 (((G6 [D.lst b]).bind λd1=>(R.ok [D.lst b]).bind λw1=>(R.ok [D.lst b]).bind λw2=>G3 d1 (J1 w1) (D3 w2)).bind λd=>R.ok (Out.rt d))=_;rw[O,R.aa0,R.aa0,R.aa0,Q];rfl
    .cases h
   .cases h
end
section
variable [Tabs]
variable{P:cp} {w:cy} {K:lr} {mg:cH} {base:df}
def dW (gO:w9 P w K mg base 9 "faces_of" 1 V9)(J2:w9 P w K mg base 1 "pairs_round" 1 w5)(mo:mg "min"=none)(vg:mg "max"=none)(bf:mg "sorted"=none)(jl:mg "set"=none)(g:cP K mg "edges_of" aX):DR P w K mg base 10 "edges_of" 1 aZ:=by
 refine' MI (k:=9) (F:=_) g xH (λs hu fb nd=>?b) λB d hl h=>?_
 case b=>
  have t:=s.ad6 (by decide);refine' (sM (bY 1 (jS p5) nd)
   (sM (B9 aAO rfl (p8<|FU gO s<|c7 0) (iW (n:=2) rfl<|A9 (l4 2 nd)<|A9 (l4 3 nd) eM)<|d7<|DJ 1<|M2 ["pair"] [] [] rfl (F3 (sc:=c6 aX) (N:=oJ)) (p8<|FU J2 s<|c7 3) (KM λ_ _ _ _ _=>(BP (R1 (UD rfl t)<|m9 (b8 0) x6)<|R1 (VD rfl t)<|m9 (b8 0) x6))<|λ_=>n8)
   (OD<|rH (b8 1) rfl t)))
 match B,h with
 |[.lst Y],h=>
  simp only[aZ]at h;split at h
  .rename_i J l;rw[o9 l];split at h
   .rename_i O;rw[<-h];obtain⟨q,r,C⟩:=O;have Q:=RF q r (by lia);obtain⟨T,ag,U⟩:=V3 q r (by lia);have rl:∀f∈j1 (c9 J),(G.j9 (c9 J) f).length<=3000:=λf u=>by have nd:=((T f).mp u).aa2 (q9 J);exact aAr (G.z8 nd.aa4 (m:=c9 J) λv hv=>(G.d4.mp<|nd.aa3 hv).1) (by lia)
    have x:∀c E,c++E=j1 (c9 J)->(cF (c9 J) c).length<=sizeLine:=λc E e=>HU q r C e;have y:=HP q r C;simp-implicitDefEqProofs [j4,Q];generalize j1 (c9 J)=fs at*
    generalize c9 J=S at*
    refine NE (λrest ρ=>∃done c a b,rest=c.map (m6 S)/\ρ=[.v (.lst (J.map vd)),.o ((cF S done).map rV),a,b]/\done++c=fs) ?_ ⟨[],fs,_,_,rfl,rfl,rfl⟩ ?_
    .rintro d B ρ ⟨done,c,a,b,l,rfl,p⟩;match c,l,p with
     |f::c,l,p=>
      injection l with e3 e4;subst e3 e4;have u:f∈fs:=by rw[<-p];simp
      have po:=AF (rl f u);have H:(done++[f])++c=fs:=by rw[<-p];simp
      have I:cF S (done++[f])=cF S done++G.N1 (G.j9 S f):=by simp[cF]
      have L:=x (done++[f]) c H;rw[I,aAD]at L;refine⟨[.v (.lst (J.map vd)),.o ((cF S<|done++[f]).map rV),.v (xA f.1 f.2),.v (.lst ((G.j9 S f).map vd))],?_,done++[f],c,_,_,rfl,rfl,H⟩;have cl:(G.N1<|G.j9 S f).length<=sizeLine:=by lia
      have cm:∀z:Ev->R D,(∀e:G.V×G.V,z [.v (u8 e)]=.ok (rV e))->u6 (λd ρ=>R.ok (aCM ρ 0<|Sl.v d)) (λ_=>R.ok true) z [.no] ((G.N1<|G.j9 S f).map u8)=.ok ((G.N1<|G.j9 S f).map rV):=λz A=>G1 u8 rV _ λe _=>⟨_,rfl,A e⟩;simp[L0,m6,jD,eI,pI,po,cl,i8];rw[cm _ λe=>?_]
      .simp[ZX,I,L]
      .have m1:oV [u8 e]=_:=TX e.1 e.2;have m2:oE [u8 e]=_:=VY e.1 e.2;simp[m1,m2,bK,rV];decide
    .rintro ρ ⟨done,c,a,b,l,rfl,p⟩;have:c=[]:=by simpa using l.symm
     subst this;rw[aBR]at p;subst p;simp[y]
   .exact absurd h (by simp)
  .exact absurd h (by simp)
end
section
variable [Tabs]
variable{P:cp} {w:cy} {K:lr} {mg:cH} {base:df}
def K5 (p:mg "len"=none)(g:cP K mg "_law_cell" dM):w9 P w K mg base 1 "_law_cell" 2 bQ:=by
 refine' m8 (k:=0) (F:=_) g uZ (λq r s t=>?b) λf d u h=>?_
 case b=>
  refine' (b9 (A5 (k8 EX (b8 1)<|PD.pb<|DQ S1<|b8 0) (d7<|j2<|f7 (b8 0)<|c7 1) n6)
   (d7<|j2<|c5 o5 (PD.pb<|c5 o5 (PD.pb<|c5 l8 (PD.pb<|c5 l8 A7<|b8 1)<|b8 1)<|PD.pb<|c5 l8 A7<|b8 1) A7))
 match f,h with
 |[.lst Y,.int k],h=>
  simp only[bQ]at h;split at h
  .rename_i l;obtain⟨m,v⟩:=l;rw[<-h];have a:bits k<=20:=K7 (by lia) (by lia);have n:bits (6*k)<=30:=K7 (by lia) (by lia);by_cases c:k<Y.length
   .have e:Y[k.toNat]?=some Y[k.toNat]:=aAg (by lia);have o:qO Y k=some Y[k.toNat]:=by rw[Z4 m,e]
    simp[j4,c,N3 o,sF,e]
   .have e:Y[k.toNat]?=none:=aBS.mpr (by lia);simp[j4,c,sF,e,f9 (l5.of (show bits 6<=10 by decide) a),f9 (l5.of n a),f9 (l5.of (show bits 5<=10 by decide) a),M.xM]
  .cases h
def K1 (g:cP K mg "_law_way" gA):w9 P w K mg base 1 "_law_way" 2 l6:=by
 refine' m8 (k:=0) (F:=_) g AR (λf l m n=>?b) λe d o h=>?_
 case b=>refine' (d7<|j2<|JG (c5 v6 (PD.pb<|f7 (b8 1) d6)<|PD.pb<|f7 (b8 0) d6) (c5 v6 (PD.pb<|f7 (b8 1) d6)<|PD.pb<|f7 (b8 0) d6)<|c5 v6 (PD.pb<|f7 (b8 1) d6)<|PD.pb<|f7 (b8 0) d6)
 replace h:=C6 h;obtain⟨a,b,c,e,rfl,h⟩:=h;replace h:=C6 h;obtain⟨p,q,r,e,rfl,h⟩:=h;replace h:=D4 h;obtain⟨rfl,h⟩:=h;exact h
def M4 (g:cP K mg "_law_cross" bU):w9 P w K mg base 1 "_law_cross" 2 v5:=by
 refine' m8 (k:=0) (F:=_) g rD (λr s t u=>?b) λe d v h=>?_
 case b=>refine' (d7<|j2<|JG (c5 v6 (PD.pb<|c5 l8 (PD.pb<|f7 (b8 0) d6)<|PD.pb<|f7 (b8 1) d6)<|PD.pb<|c5 l8 (PD.pb<|f7 (b8 0) d6)<|PD.pb<|f7 (b8 1) d6) (c5 v6 (PD.pb<|c5 l8 (PD.pb<|f7 (b8 0) d6)<|PD.pb<|f7 (b8 1) d6)<|PD.pb<|c5 l8 (PD.pb<|f7 (b8 0) d6)<|PD.pb<|f7 (b8 1) d6)<|c5 v6 (PD.pb<|c5 l8 (PD.pb<|f7 (b8 0) d6)<|PD.pb<|f7 (b8 1) d6)<|PD.pb<|c5 l8 (PD.pb<|f7 (b8 0) d6)<|PD.pb<|f7 (b8 1) d6)
 replace h:=C6 h;obtain⟨a,b,c,e,rfl,h⟩:=h;replace h:=C6 h;obtain⟨x,y,z,e,rfl,h⟩:=h;replace h:=D4 h;obtain⟨rfl,h⟩:=h;split at h
 .rename_i q;obtain⟨⟨f,l,m⟩,n,o,p⟩:=q;rw[<-h];simp[j4,f9 (l5.of l p),f9 (l5.of m o),f9 (l5.of m n),f9 (l5.of f p),f9 (l5.of f o),f9 (l5.of l n)]
 .cases h
def u3 (g:cP K mg "_law_product" W5):w9 P w K mg base 1 "_law_product" 2 j5:=by
 refine' m8 (k:=0) (F:=_) g mK (λr s u v=>?b) λe d x h=>?_
 case b=>refine' (d7<|j2<|c5 o5 (PD.pb<|c5 o5 (PD.pb<|c5 l8 (PD.pb<|f7 (b8 0) d6)<|PD.pb<|f7 (b8 1) d6)<|PD.pb<|c5 l8 (PD.pb<|f7 (b8 0) d6)<|PD.pb<|f7 (b8 1) d6)<|PD.pb<|c5 l8 (PD.pb<|f7 (b8 0) d6)<|PD.pb<|f7 (b8 1) d6)
 replace h:=WL h;obtain⟨a,b,c,t,e,rfl,h⟩:=h;replace h:=C6 h;obtain⟨y,z,A,e,rfl,h⟩:=h;replace h:=D4 h;obtain⟨rfl,h⟩:=h;split at h
 .rename_i f;obtain⟨⟨l,m,n⟩,o,p,q⟩:=f;rw[<-h];simp[j4,WI,WT,WR,f9 (l5.of l o),f9 (l5.of m p),f9 (l5.of n q)]
 .cases h
def bD (eh:mg "range"=none)(eu:mg "tuple"=none)(g:cP K mg "_law_point" bG):w9 P w K mg base 1 "_law_point" 2 aN:=by
 refine' m8 (k:=0) (F:=_) g rR (λhr v fb e=>?b) λC d hl h=>?_
 case b=>
  refine' (b9 (A5 (k8 (X6 v) (b8 1) A7) (b9 (i9 2 (c5 o5 (PD.pb<|c5 l8 A7<|PD.pb<|c5 gS A7 A7) A7) e)
   (d7<|j2<|JG (c5 v6 (PD.pb<|c5 A2 (b8 0)<|b8 2)<|PD.pb<|c5 gS A7 A7) (c5 v6 (PD.pb<|c5 A2 (PD.pb<|c5 y9 (b8 0)<|b8 2)<|b8 2)<|PD.pb<|c5 gS A7 A7)<|c5 v6 (PD.pb<|c5 A2 (PD.pb<|c5 y9 (b8 0)<|PD.pb<|c5 l8 (b8 2)<|b8 2)<|b8 2)<|PD.pb<|c5 gS A7 A7)) n6)
   (b9 (A5 (k8 (X6 v) (b8 1) A7) (b9 (i9 3 (c5 A2 (PD.pb<|c5 o5 (PD.pb<|c5 l8 (b8 0) A7) A7) A7) e)
   (b9 (bY 4 (jS p5) e)
   (b9 (B9 aAO rfl (O5<|m9 A7 x6) (l4 5 e) (b9 (i9 3 (c5 A2 (PD.pb<|c5 o5 (PD.pb<|c5 o5 (PD.pb<|c5 l8 (b8 3)<|b8 3)<|PD.pb<|c5 l8 A7<|b8 5) A7) A7) e)
   (d7<|P1 4<|c5 v6 (PD.pb<|c5 A2 (b8 3) A7)<|PD.pb<|c5 gS A7 A7)))
   (d7<|j2<|fE pL<|m9 (b8 4) x6)))) n6)
   (b9 (i9 2 (f7 (PD.pb<|nI<|i7 d6<|i7 d6<|i7 d6 p5)<|c7 1) e)
   (d7<|j2<|JG (c5 v6 (PD.pb<|c5 A2 (b8 0)<|b8 2)<|PD.pb<|c5 y9 (b8 2) A7) (c5 v6 (PD.pb<|c5 A2 (PD.pb<|c5 y9 (b8 0)<|b8 2)<|b8 2)<|PD.pb<|c5 y9 (b8 2) A7)<|c5 v6 (PD.pb<|c5 A2 (PD.pb<|c5 y9 (b8 0)<|PD.pb<|c5 l8 (b8 2)<|b8 2)<|b8 2)<|PD.pb<|c5 y9 (b8 2) A7))))
 match C,h with
 |[.int t,.int a],h=>
  simp only[aN]at h;split at h
  .rename_i q;rw[<-h];obtain⟨q,h0,h4⟩:=q;have y:JQ (.int 10) (.int 9)=.ok (.int 1000000000):=(AI ⟨by decide,by decide,by decide⟩).trans (by rfl);have m:∀{x w:Int},0<w->X3 (.int x) (.int w)=.ok (.int (x.fmod w)):=λE=>aP E;have z:∀{w:Int},0<w->bits w<=80->U6 (.int w) (.int w)=.ok (.int (w*w))/\N6 (.int t) (.int w)=.ok (.int (t.fdiv w))/\N6 (.int t) (.int (w*w))=.ok (.int (t.fdiv<|w*w))/\N6 (.int w) (.int 2)=.ok (.int (w.fdiv 2)):=λ{w} f c=>by have ww:0<w*w:=aAV f f;exact⟨f9 (l5.of c c),V5 ⟨by lia,v7 c⟩,V5 ⟨by lia,v7 (bits_mul c c)⟩,sE (by decide) (by decide)⟩
   by_cases r:a=4
   .subst r;have H:U6 (.int t) (.int 40009)=.ok (.int (t*40009)):=f9 (l5.of q (show bits 40009<=80 by decide));have n:∀x:Int,bits (x.fmod 2147483647)<=80:=λx=>bits_fmod (by decide) (by decide);have I:U6 (.int (WU t)) (.int (WU t))=.ok (.int (WU t*WU t)):=f9 (l5.of (n _)<|n _);have J:∀s k:Int,U6 (.int (nB s k)) (.int (nB s k))=.ok (.int (nB s k*nB s k)):=λs k=>f9 (l5.of (n _)<|n _);have L:(t*40009+6007).fmod 2147483647=WU t:=rfl;have N:∀s:Int,(s*s+11).fmod 2147483647=nB s 0:=λs=>by unfold nB;simp
    have O:∀s:Int,(s*s+5003+11).fmod 2147483647=nB s 1:=λs=>by unfold nB;simp
    have Q:∀s:Int,(s*s+10006+11).fmod 2147483647=nB s 2:=λs=>by unfold nB;simp
    have l:∀x:Int,X3 (.int x) (.int 2147483647)=.ok (.int (x.fmod 2147483647)):=λx=>m (by decide);have T:∀x:Int,X3 (.int x) (.int 2000000011)=.ok (.int (x.fmod 2000000011)):=λx=>m (by decide);have k0:U6 (.int 5003) (.int 0)=.ok (.int 0):=(f9 (l5.of (show bits 5003<=80 by decide) (show bits 0<=80 by decide))).trans (by rfl);have U:U6 (.int 5003) (.int 1)=.ok (.int 5003):=(f9 (l5.of (show bits 5003<=80 by decide) (show bits 1<=80 by decide))).trans (by rfl);have Y:U6 (.int 5003) (.int 2)=.ok (.int 10006):=(f9 (l5.of (show bits 5003<=80 by decide) (show bits 2<=80 by decide))).trans (by rfl);simp[j4,y,H,l,T,L,N,O,Q,I,J,k0,U,Y,F6,qQ,WV,XN,uk,vd,uU,bK,sizeLine,uR]
   .by_cases A:a=3
    .subst A;have k0:U6 (.int 2) (.int 1000000000)=.ok (.int 2000000000):=(f9 (l5.of (show bits 2<=80 by decide) (show bits 1000000000<=80 by decide))).trans (by rfl);obtain⟨o,u,p,B⟩:=z (w:=2000000001) (by decide) (by decide);have l:∀x:Int,X3 (.int x) (.int 2000000001)=.ok (.int (x.fmod 2000000001)):=λx=>m (by decide);simp only[Int.reduceMul]at o p;simp[j4,y,k0,o,u,p,l,WV,cC,dw,vd,bK,sizeLine]
    .have wi:U8 (.lst [.int 3,.int 5,.int 9]) (.int a)=.ok (.int (cC a))/\0<cC a/\bits (cC a)<=80:=by rcases(show a=0\/a=1\/a=2 by lia)with rfl|rfl|rfl<;>exact⟨rfl,by decide,by decide⟩
     obtain⟨iw,f,c⟩:=wi;have pt:WV t a=dw t (cC a):=kz r;rw[pt];generalize cC a=w at*
     obtain⟨o,u,p,B⟩:=z f c;have l:∀x:Int,X3 (.int x) (.int w)=.ok (.int (x.fmod w)):=λx=>m f;simp[j4,r,A,iw,o,u,p,B,l,dw,vd,bK,sizeLine,uR]
  .exact absurd h (by simp)
def Z2 (K5:w9 P w K mg base 1 "_law_cell" 2 bQ)(bD:w9 P w K mg base 1 "_law_point" 2 aN)(eh:mg "range"=none)(jm:mg "enumerate"=none)(g:cP K mg "_law_points" J3):w9 P w K mg base 2 "_law_points" 2 fD:=by
 refine' m8 (k:=1) (F:=_) g pQ (λA hu fb s=>?b) λm d U h=>?_
 case b=>
  refine' (b9 (i9 2 (c5 o5 A7<|PD.pb<|c5 A2 (PD.pb<|X9 K5 A (c7 0) d6)<|PD.pb<|c5 v6 (b8 1) A7) s)
   (b9 (uD 3 ["k"] [] [] s rfl (F3 (sc:=c6 J3) (N:=Y7)) (O5<|m9 (b8 2) x6) (KM λ_ _ _ _ _=>(c5 o5 (PD.pb<|c5 l8 (PD.pb<|c5 l8 A7<|b8 0)<|b8 0)<|PD.pb<|c5 l8 A7<|b8 0))<|λ_=>n8)
   (b9 (B9 aAO rfl (KU<|tO (b8 0) (W3 d6)<|W3 d6) (iW (n:=2) rfl<|A9 (l4 4 s)<|A9 (l4 5 s) eM)<|d7<|JJ 3 (c5 o5 (PD.pb<|f7 (b8 3)<|c5 A2 (b8 4)<|b8 2)<|b8 5)<|c5 A2 (b8 4)<|b8 2)
   (d7<|GA 3<|j2<|M2 ["total"] ["script"] [0] rfl (F3 (sc:=c6 J3) (N:=Y7)) (p8<|c7 3) (KM λ_ _ _ _ _=>(X9 bD A (c7 0)<|c5 A2 (PD.pb<|X9 K5 A (c7 1) d6) A7))<|λ_=>n8))))
 match m,h with
 |[.lst Y,.int c],h=>
  simp only[fD]at h;split at h
  .rename_i hc;rw[<-h];obtain⟨u,U,J,h1⟩:=hc;obtain⟨c0,b0⟩:=MS u 0 (by decide) (by decide);obtain⟨c1,b1⟩:=MS u 1 (by decide) (by decide);have B:=gP Y J;have L:X3 (.int (cJ Y 0)) (.int (c-3))=.ok (.int ((cJ Y 0).fmod (c-3))):=aP (by lia);have O:cM [.int (4+(cJ Y 0).fmod (c-3))]=.ok ((aBF<|x5 Y c).map λ(k:Nat)=>D.int (k:Int)):=by rw[<-B.2.2];exact rj (by lia)
   have t0:=EM (x5 Y c) (by lia);have cm:u6 (λd ρ=>R.ok (aCM ρ 0<|Sl.v d)) (λx=>R.ok true) (λρ=>(((rO 0 ρ).bind λy=>U6 (D.int 5) y).bind λx=>(rO 0 ρ).bind λy=>U6 x y).bind λx=>((rO 0 ρ).bind λy=>U6 (D.int 3) y).bind λy=>jY x y) [.no] ((aBF<|x5 Y c).map λ(k:Nat)=>D.int (k:Int))=.ok ((xQ<|x5 Y c).map D.int):=by
    unfold xQ;rw[aBJ];refine G1 (λ(k:Nat)=>D.int (k:Int)) _ _ λk C=>⟨[.v (.int k)],rfl,?_⟩;have kg:k<x5 Y c:=by simpa using C
    have z:bits (k:Int)<=80:=K7 (by lia) (by lia);have m1:U6 (.int 5) (.int k)=.ok (.int (5*k)):=f9 (l5.of (show bits 5<=80 by decide) z);have m2:U6 (.int (5*(k:Int))) (.int k)=.ok (.int (5*k*k)):=f9 (l5.of (bits_mul (show bits 5<=80 by decide) z) z);have m3:U6 (.int 3) (.int k)=.ok (.int (3*k)):=f9 (l5.of (show bits 3<=80 by decide) z);simp[m1,m2,m3]
   have en:OV [.lst ((Y.take 63).drop 2)]=.ok (uF 0<|(Y.take 63).drop 2):=by rw[<-SG];rfl
   have l1:x5 Y c<=sizeLine:=aAr (show x5 Y c<=20 by lia) (by decide);have hlc:((Y.take 63).drop 2).length<=61:=by simp;lia
   have E:M1 1048576 ((Y.take 63).drop 2):=λx H=>u x (aEz<|aDH H);have Q:=RJ u J h1;have q5:=pH (a:=cJ Y 1) (b:=5) (by decide);have m5:X3 (.int (cJ Y 1)) (.int 5)=.ok (.int ((cJ Y 1).fmod 5)):=aP (by decide);have cf:u6 (λd ρ=>R.ok (aCM ρ 0<|Sl.v d)) (λx=>R.ok true) (λρ=>((T1 0 ρ).bind λd=>(((((T1 1 ρ).bind λd=>R.ok [d,D.int 1]).bind bQ).bind λx=>X3 x (D.int 5)).bind λd=>R.ok [d]).bind λm=>R.ok (d::m)).bind aN) [.no,.v (.lst Y)] ((xN Y c).map D.int)=.ok ((gB Y c).map vd):=by unfold gB;rw[aBJ];refine G1 D.int _ _ λt ht=>⟨[.v (.int t),Sl.v (.lst Y)],rfl,?_⟩;have:=IU (t:=t) (way:=(cJ Y 1).fmod 5) (k9 (Q.2 t ht) (by decide)) q5.1 (by lia);simp[c1,m5,this]
   have T:((xN Y c).map D.int).length<=sizeLine:=by rw[aAj,Q.1];exact aAr (show x5 Y c<=20 by lia) (by decide)
   have p:0<x5 Y c:=by lia
   simp only[<-B.2.2]at O L⊢;simp-implicitDefEqProofs [j4,c0,L,O,cm,l1,i8,cw,en,<-B.2.2];refine eG (λm ρ=>∃(k:Nat) (f:List D) (ts:List Int) (a b:Sl),m=uF k f/\ρ=[.v (.lst Y),.v (.int c),.v (.int (x5 Y c:Int)),.o (ts.map D.int),a,b]/\AG (x5 Y c) k f ts=xN Y c/\ts.length=x5 Y c/\M1 1048576 f) ?_ ⟨0,(Y.take 63).drop 2,xQ (x5 Y c),_,_,rfl,rfl,rfl,t0.1,E⟩ ?_
   .rintro d m ρ ⟨k,f,ts,a,b,l,rfl,e,I,q⟩;match f,l,e,q with
    |y::f,l,e,q=>
     obtain⟨i,rfl,hb⟩:=q _ (.head _);injection l with l e2;subst l e2;have C:k%x5 Y c<ts.length:=by rw[I];exact aDS _ p
     have mk:X3 (.int (k:Int)) (.int (x5 Y c:Int))=.ok (.int ((k%x5 Y c:Nat):Int)):=(aP (by lia)).trans (by rw[aDG _ (by lia)];rfl);have ix:U8 (.lst (ts.map D.int)) (.int ((k%x5 Y c:Nat):Int))=.ok (.int (ts.getD (k%x5 Y c) 0)):=N3 (by rw[Z4 (by lia),aBI,aAG,aAo,aAg C];rfl)
     have r:JE (ts.map D.int).length ((k%x5 Y c:Nat):Int)=some (k%x5 Y c):=by unfold JE;rw[kd (by lia),kd (by rw[aAj];lia),aBI]
     refine⟨[.v (.lst Y),.v (.int c),.v (.int (x5 Y c:Int)),.o ((ts.set (k%x5 Y c)<|ts.getD (k%x5 Y c) 0+i).map D.int),.v (.int (k:Int)),.v (.int i)],?_,k+1,f,_,_,_,rfl,rfl,e,by simpa using I,λx H=>q x (.tail _ H)⟩;clear e;rw[aAj]at r;generalize k%x5 Y c=j at*
     generalize ts.getD j 0=tj at*
     simp[L0,jD,eI,pI,mk,ix,ZB,r]
   .rintro ρ ⟨k,f,ts,a,b,l,rfl,e,I,q⟩;match f,l,e with
    |[],_,e=>
     have e:ts=xN Y c:=e;subst e;have l3:(xN Y c).length<=sizeLine:=by rw[aAj]at T;exact T
     simp[VJ,M6,l3,cf]
  .exact absurd h (by simp)
def bF (K1:w9 P w K mg base 1 "_law_way" 2 l6)(M4:w9 P w K mg base 1 "_law_cross" 2 v5)(u3:w9 P w K mg base 1 "_law_product" 2 j5)(g:cP K mg "_law_solid" M5):w9 P w K mg base 2 "_law_solid" 1 cK:=by
 refine' m8 (k:=1) (F:=_) g rP (λA e fb f=>?b) λm d s h=>?_
 case b=>
  refine' (b9 (dS 1 ["one"] ["points"] [0] f rfl (F3 (sc:=c6 M5) (N:=bM)) (p8<|c7 0) (KM λ_ _ _ _ _=>(X9 K1 A (f7 (b8 1) d6)<|c7 0))<|λ_=>n8)
   (b9 (B9 aAO rfl (p8<|c7 1) (l4 2 f) (d7 (B9 aAO rfl (p8<|c7 1) (l4 3 f) (b9 (i9 4 (X9 M4 A (c7 2)<|c7 3) f)
   (d7<|A5 (AU.pt<|jK (k8 (jA e) (b8 4)<|PD.pb<|JG d6 d6 d6)<|cW<|k8 (jA e) (PD.pb<|M2 ["w"] ["crossed"] [4] rfl (F3 (sc:=c6 M5) (N:=bM)) (p8<|c7 1) (zk λ_ _ _ _ _=>⟨(k8 (jA e) (PD.pb<|X9 u3 A (c7 1)<|c7 0) A7),(c7 0)⟩)<|λ_=>n8)<|PD.pb<|nI p5) (d7<|j2<|c7 0) n6)))))
   (b9 (vF (f7 (b8 0) d6)<|iW (n:=3) rfl<|A9 (l4 5 f)<|A9 (l4 6 f)<|A9 (l4 7 f) eM)
   (d7<|j2<|c5 o5 (b8 0)<|PD.pb<|nI<|i7 (JG (c5 o5 (b8 5) A7) (c7 6)<|c7 7)<|i7 (JG (c7 5) (c5 o5 (b8 6) A7)<|c7 7)<|i7 (JG (c7 5) (c7 6)<|c5 o5 (b8 7) A7) p5))))
 match m,h with
 |[.lst Y],h=>
  simp only[cK]at h;split at h
  .rename_i J e1;rw[o9 e1];split at h
   .rename_i hz;rw[<-h];obtain⟨ag,B,s⟩:=hz;match J,ag with
    |P::ps,_=>
    have o:=UN (P:=P) (ps:=ps);have E:=YY (P:=P) (ps:=ps);obtain⟨J,hpts⟩:∃q,P::ps=q:=⟨_,rfl⟩;have H:U8 (.lst (J.map vd)) (.int 0)=.ok (vd P):=N3 (by rw[Z4 (by decide),<-hpts];rfl);rw[hpts]at o E B s⊢;have c1:u6 (λd ρ=>R.ok (aCM ρ 0<|Sl.v d)) (λx=>R.ok true) (λρ=>(((rO 1 ρ).bind λx=>U8 x (D.int 0)).bind λd=>((T1 0 ρ).bind λd=>R.ok [d]).bind λm=>R.ok (d::m)).bind l6) [.no,.v (.lst (J.map vd))] (J.map vd)=.ok ((J.map (· -P)).map vd):=by rw[aBJ];refine G1 vd _ _ λq I=>⟨[.v (vd q),Sl.v (.lst (J.map vd))],rfl,?_⟩;show((U8 (.lst (J.map vd))<|.int 0).bind _).bind _=_;rw[H];rfl
    have l:∀w∈J.map (· -P),Sz 301 w:=λw l=>by obtain⟨q,I,rfl⟩:=aAl.mp l;exact(B q I).sub (B P (by rw[<-hpts];exact .head _))
    have O:J.length<=sizeLine:=aAr s (by decide);have Q:(J.map (· -P)).length<=sizeLine:=by rw[aAj];exact O
    generalize J.map (· -P)=W at*
    have c2:∀u∈W,∀v∈W,u6 (λd ρ=>R.ok (aCM ρ 0<|Sl.v d)) (λρ=>((((T1 1 ρ).bind λd=>((T1 0 ρ).bind λd=>R.ok [d]).bind λm=>R.ok (d::m)).bind j5).bind λx=>IE x (D.int 0)).bind qN) (T1 0) [.no,.v (vd<|G.cr u v)] (W.map vd)=.ok ((W.filter λw=>decide (G.c8 (G.cr u v) w≠0)).map vd):=λu e v t=>by refine O9 vd _ _ _ λw hW=>⟨[.v (vd w),Sl.v (vd<|G.cr u v)],rfl,?_,λ_=>rfl⟩;show((j5 [vd (G.cr u v),vd w]).bind _).bind _=_;rw[bL ((l u e).cr (l v t)).mono (l w hW).mono,R.aa0,LC];show R.ok _=_;congr 1;rw[aDa];simp
    simp[j4,i8,O,c1,M6];refine TC (x:=.lst (J.map vd)) vd (ck W) (λρ=>∃a b c,ρ=[.v (.lst (J.map vd)),.v (.lst (W.map vd)),a,b,c,.no,.no,.no]) ⟨_,_,_,rfl⟩ ?_ ?_ ?_
    .rintro u e ρ ⟨a,b,c,rfl⟩;simp[M6];refine pJ vd (gw W u) (λρ=>∃b c,ρ=[.v (.lst (J.map vd)),.v (.lst (W.map vd)),.v (vd u),b,c,.no,.no,.no]) ?_ W _ ⟨_,_,rfl⟩ ?_
     .rintro ρ ⟨b,c,rfl⟩;exact⟨_,_,_,rfl⟩
     .rintro v t ρ ⟨b,c,rfl⟩;have C:=aM (l u e).mono (l v t).mono;have T:=c2 u e v t;have c4:((W.filter λw=>decide (G.c8 (G.cr u v) w≠0)).map vd)=((W.filter λw=>decide (G.c8 (G.cr u v) w≠0)).map vd):=rfl;have U:(!(W.filter λw=>decide (G.c8 (G.cr u v) w≠0)).isEmpty)=true↔∃w∈W,G.c8 (G.cr u v) w≠0:=by rw[Bool.not_eq_true',<-Bool.not_eq_true,List.isEmpty_iff,List.filter_eq_nil_iff];simp
      have y:=UG (W.filter λw=>decide (G.c8 (G.cr u v) w≠0));unfold gw;rw[<-U];clear U c4;generalize(W.filter λw=>decide (G.c8 (G.cr u v) w≠0))=L at*
      generalize G.cr u v=X at*
      have p:=ne0 X;by_cases r:X=0
      .refine .inr ⟨λz=>z.1 r,[.v (.lst (J.map vd)),.v (.lst (W.map vd)),.v (vd u),.v (vd v),.v (vd X),.no,.no,.no],?_,_,_,rfl⟩;simp only[r,decide_true,aDe]at p;simp[-jQ,C,r,p,qN]
      .simp only[r,decide_false,Bool.not_false]at p;cases hL:L.isEmpty with
       |true=>rw[hL]at y;refine .inr ⟨λz=>by simp at z,[.v (.lst (J.map vd)),.v (.lst (W.map vd)),.v (vd u),.v (vd v),.v (vd X),.no,.no,.no],?_,_,_,rfl⟩;simp[-jQ,C,p,qN,M6,Q,T,y,seen]
       |false=>rw[hL]at y;refine .inl ⟨⟨r,rfl⟩,?_⟩;simp[-jQ,C,p,qN,M6,Q,T,y,seen]
    .intro q;rw[o q]
    .rintro q ρ ⟨a,b,c,rfl⟩;rw[E q];have al:(J.map vd).length+3<=sizeLine:=by rw[aAj];exact aAr (Nat.add_le_add_right s 3) (by decide)
     rw[aAj]at al;have s3:3<=sizeLine:=by decide
     simp[H,IF,jD,eI,pI,bK,uR,jY,s3,al]
   .exact absurd h (by simp)
  .exact absurd h (by simp)
def Y9 (g:cP K mg "_law_slants" P8):w9 P w K mg base 1 "_law_slants" 1 V4:=by
 refine' m8 (k:=0) (F:=_) g pD (λY J fb p=>?b) λL d hl h=>?_
 case b=>
  refine' (b9 (i9 1 (nI<|i7 (c5 v6 (PD.pb<|c5 A2 (PD.pb<|c5 y9 (b8 0) A7) A7) A7)<|i7 (c5 v6 (PD.pb<|c5 A2 (PD.pb<|c5 y9 (b8 0) A7) A7) A7)<|i7 (c5 v6 (PD.pb<|c5 A2 (PD.pb<|c5 y9 (b8 0) A7) A7) A7) p5) p)
   (b9 (A5 (k8 (X6 J) (PD.pb<|c5 A2 (b8 0) A7) A7) (d7<|dS 1 ["number"] [] [] p rfl (F3 (sc:=c6 P8) (N:=fR)) (p8<|c7 1) (KM λ_ _ _ _ _=>(c5 l8 (b8 0) A7))<|λ_=>n8) n6)
   (b9 (i9 2 (c5 v6 (PD.pb<|c5 A2 (PD.pb<|c5 l8 (PD.pb<|c5 y9 (b8 0) A7) A7)<|PD.pb<|c5 o5 (PD.pb<|c5 l8 A7<|PD.pb<|c5 gS A7 A7) A7)<|PD.pb<|c5 gS A7 A7) p)
   (d7<|j2<|c5 o5 (b8 1)<|PD.pb<|nI<|i7 (c7 2)<|i7 (c5 v6 A7<|PD.pb<|c5 y9 (b8 2) A7)<|i7 (c5 A2 (PD.pb<|c5 y9 (b8 0) A7) A7)<|i7 (c5 A2 (PD.pb<|c5 y9 (b8 0) A7) A7) p5))))
 match L,h with
 |[.int t],h=>
  simp only[V4]at h;split at h
  .rename_i O;rw[<-h];have e:JQ (.int 10) (.int 20)=.ok (.int 100000000000000000000):=(AI ⟨by decide,by decide,by decide⟩).trans (by rfl);have f:U6 (.int 2) (.int 100000000000000000000)=.ok (.int 200000000000000000000):=(f9 (l5.of (show bits 2<=80 by decide) (show bits 100000000000000000000<=80 by decide))).trans (by rfl);have l:∀{x w:Int},0<w->X3 (.int x) (.int w)=.ok (.int (x.fmod w)):=λQ=>aP Q;have c:∀{x w:Int},0<w->bits w<=80->N6 (.int x) (.int w)=.ok (.int (x.fdiv w)):=λw0 T=>V5 ⟨by lia,v7 T⟩;have q:N6 (.int t) (.int 3)=.ok (.int (t.fdiv 3)):=c (by decide) (by decide);have m:N6 (.int t) (.int 21)=.ok (.int (t.fdiv 21)):=c (by decide) (by decide);have a:N6 (.int t) (.int 147)=.ok (.int (t.fdiv 147)):=c (by decide) (by decide);have r:N6 (.int t) (.int 9)=.ok (.int (t.fdiv 9)):=c (by decide) (by decide);have s:N6 (.int t) (.int 1029)=.ok (.int (t.fdiv 1029)):=c (by decide) (by decide);have u:N6 (.int (yX t)) (.int 7)=.ok (.int ((yX t).fdiv 7)):=c (by decide) (by decide);have U:bits (t.fdiv 1029)<=3000000:=bits_fdiv O;have v:U6 (.int (t.fdiv 1029)) (.int 271828182845904523536)=.ok (.int (t.fdiv 1029*271828182845904523536)):=f9 (l5.of U (show bits 271828182845904523536<=80 by decide));have y:∀x:Int,X3 (.int x) (.int 7)=.ok (.int (x.fmod 7)):=λx=>l (by decide);have z:∀x:Int,X3 (.int x) (.int 3)=.ok (.int (x.fmod 3)):=λx=>l (by decide);have o:∀x:Int,X3 (.int x) (.int 50)=.ok (.int (x.fmod 50)):=λx=>l (by decide);have A:∀x:Int,X3 (.int x) (.int 2)=.ok (.int (x.fmod 2)):=λx=>l (by decide);have B:∀x:Int,X3 (.int x) (.int 200000000000000000001)=.ok (.int (x.fmod 200000000000000000001)):=λx=>l (by decide);have C:(t.fdiv 1029*271828182845904523536).fmod 200000000000000000001-100000000000000000000=yX t:=rfl;have E:∀k:Int,(t.fdiv k).fmod 7-3=s7 t k:=λk=>rfl;have H:∀k:Int,U6 (.int (s7 t k)) (.int 7654321)=.ok (.int (s7 t k*7654321)):=λk=>by exact f9 (l5.of (bits_sub (n:=80) (bits_fmod (by decide) (by decide)) (by decide)) (show bits 7654321<=80 by decide))
   by_cases I:t.fmod 3=2
   .simp[j4,e,f,q,m,a,r,s,u,v,y,z,o,A,B,C,E,H,I,XA,OH,sizeLine,uR,jY,i8]
   .simp[j4,e,f,q,m,a,r,s,u,v,y,z,o,A,B,C,E,H,I,XA,OH,sizeLine,uR,jY,i8]
  .exact absurd h (by simp)
def W6 (g:cP K mg "_law_slanted" X8):w9 P w K mg base 1 "_law_slanted" 2 J9:=by
 refine' m8 (k:=0) (F:=_) g mN (λhr T fb o=>?b) λU d hl h=>?_
 case b=>
  refine' (b9 (vF (c7 0)<|iW (n:=3) rfl<|A9 (l4 2 o)<|A9 (l4 3 o)<|A9 (l4 4 o) eM)
   (b9 (i9 2 (c5 o5 (b8 2)<|PD.pb<|c5 l8 (PD.pb<|f7 (b8 1) d6)<|b8 3) o)
   (b9 (i9 3 (c5 o5 (b8 3)<|PD.pb<|c5 l8 (PD.pb<|f7 (b8 1) d6)<|b8 4) o)
   (b9 (i9 4 (c5 o5 (b8 4)<|PD.pb<|c5 l8 (PD.pb<|f7 (b8 1) d6)<|b8 2) o)
   (b9 (A5 (k8 (X6 T) (PD.pb<|f7 (b8 1) d6) A7) (d7<|NY 2 3 rfl o<|i7 (c7 3)<|i7 (c7 2) p5) n6)
   (d7<|j2<|JG (c5 o5 (b8 2)<|PD.pb<|f7 (b8 1) d6) (c5 o5 (b8 3)<|PD.pb<|f7 (b8 1) d6)<|c5 o5 (b8 4)<|PD.pb<|f7 (b8 1) d6))))))
 match U,h with
 |[p,.lst Y],h=>
  simp only[J9]at h;split at h
  .rename_i P l e1 e2;rw[tR e1,nS e2];split at h
   .rename_i r;rw[<-h];obtain⟨⟨t,q⟩,hP⟩:=r;match l,t,q with
    |[a,b,c,f,m,e,s],_,q=>
     obtain⟨x,y,z⟩:=P;obtain⟨hx,u,r⟩:=hP;have v:bits a<=100:=q a (by simp);have iu:bits b<=100:=q b (by simp);have hc:bits c<=100:=q c (by simp);have A:U6 (.int a) (.int y)=.ok (.int (a*y)):=f9 (l5.of v u);have B:U6 (.int b) (.int z)=.ok (.int (b*z)):=f9 (l5.of iu r);have C:U6 (.int c) (.int (x+a*y))=.ok (.int (c*(x+a*y))):=f9 (l5.of hc<|bits_add (v7 (n:=600) hx)<|bits_mul v u);have E:U8 (.lst [.int a,.int b,.int c,.int f,.int m,.int e,.int s]) (.int 0)=.ok (.int a):=N3 rfl;have H:U8 (.lst [.int a,.int b,.int c,.int f,.int m,.int e,.int s]) (.int 1)=.ok (.int b):=N3 rfl;have I:U8 (.lst [.int a,.int b,.int c,.int f,.int m,.int e,.int s]) (.int 2)=.ok (.int c):=N3 rfl;have J:U8 (.lst [.int a,.int b,.int c,.int f,.int m,.int e,.int s]) (.int 3)=.ok (.int f):=N3 rfl;have L:U8 (.lst [.int a,.int b,.int c,.int f,.int m,.int e,.int s]) (.int 4)=.ok (.int m):=N3 rfl;have N:U8 (.lst [.int a,.int b,.int c,.int f,.int m,.int e,.int s]) (.int 5)=.ok (.int e):=N3 rfl;have O:U8 (.lst [.int a,.int b,.int c,.int f,.int m,.int e,.int s]) (.int 6)=.ok (.int s):=N3 rfl;by_cases Q:s=1
     .subst Q;simp[j4,vd,OH,A,B,C,E,H,I,J,L,N,O,yL,G.Sl.put,bK,sizeLine,IF,jD,eI,pI]
     .simp[j4,vd,OH,A,B,C,E,H,I,J,L,N,O,yL,G.Sl.put,bK,sizeLine,IF,jD,eI,pI,Q]
   .exact absurd h (by simp)
  .exact absurd h (by simp)
def cR (bF:w9 P w K mg base 2 "_law_solid" 1 cK)(Z2:w9 P w K mg base 2 "_law_points" 2 fD)(K5:w9 P w K mg base 1 "_law_cell" 2 bQ)(W6:w9 P w K mg base 1 "_law_slanted" 2 J9)(Y9:w9 P w K mg base 1 "_law_slants" 1 V4)(g:cP K mg "_law_land" Y5):w9 P w K mg base 3 "_law_land" 2 mU:=by
 refine' m8 (k:=2) (F:=_) g wL (λe I fb m=>?b) λf d n h=>?_
 case b=>
  refine' (b9 (i9 2 (FU bF e<|X9 Z2 e (c7 0)<|c7 1) m)
   (b9 (i9 3 (c5 y9 (PD.pb<|X9 K5 e (c7 0) d6) A7) m)
   (b9 (A5 (k8 (X6 I) (PD.pb<|c5 A2 (b8 3) A7) A7) (d7<|j2<|c7 2) n6)
   (d7<|j2<|M2 ["point"] ["cell"] [3] rfl (F3 (sc:=c6 Y5) (N:=lN)) (p8<|c7 2) (KM λ_ _ _ _ _=>(X9 W6 e (c7 0)<|FU Y9 e<|c7 1))<|λ_=>n8))))
 match f,h with
 |[.lst Y,.int a],h=>
  simp only[mU]at h;split at h
  .rename_i J;rw[<-h];obtain⟨l,n,o,r⟩:=J;obtain⟨s,L⟩:=MS l 1 (by decide) (by decide);obtain⟨t,u,p3⟩:=QU l o r;have ne:gB Y a≠[]:=λz=>by rw[z]at u;simp at u
   have y:=DC l n o r;have A:=HZ ne (λp O=>(t p O).mono) (by lia);have B:N6 (.int (cJ Y 1)) (.int 5)=.ok (.int ((cJ Y 1).fdiv 5)):=sE (by decide) (by decide);have E:X3 (.int ((cJ Y 1).fdiv 5)) (.int 3)=.ok (.int (((cJ Y 1).fdiv 5).fmod 3)):=aP (by decide);have Q:=CL (c:=(cJ Y 1).fdiv 5) (bits_fdiv<|v7 L);have T:=QK ((cJ Y 1).fdiv 5);obtain⟨U,q2⟩:=NM t;have ql:(fN<|gB Y a).length<=sizeLine:=aAr (show(fN<|gB Y a).length<=40 by lia) (by decide);unfold lV;generalize(cJ Y 1).fdiv 5=C at*
   generalize fN (gB Y a)=S at*
   by_cases H:C.fmod 3=0
   .simp-implicitDefEqProofs [j4,s,y,A,B,E,H]
   .have cm:u6 (λd ρ=>R.ok (aCM ρ 0<|Sl.v d)) (λx=>R.ok true) (λρ=>((T1 0 ρ).bind λd=>((((T1 1 ρ).bind λd=>R.ok [d]).bind V4).bind λd=>R.ok [d]).bind λf=>R.ok (d::f)).bind J9) [.no,.v (.int C)] (S.map vd)=.ok ((S.map (yL<|XA C).put).map vd):=by rw[aBJ];refine G1 vd _ _ λq hq=>⟨[.v (vd q),Sl.v (.int C)],rfl,?_⟩;have:=xP (P:=q) T ((U q hq).mono);simp only[X4,cA,R.aa0,Q,this];rfl
    simp-implicitDefEqProofs [j4,s,y,A,B,E,H,M6,ql,i8,cm]
  .exact absurd h (by simp)
def U5 (u3:w9 P w K mg base 1 "_law_product" 2 j5)(ve:mg "abs"=none)(eu:mg "tuple"=none)(g:cP K mg "_law_plane" T6):w9 P w K mg base 2 "_law_plane" 2 iT:=by
 refine' m8 (k:=1) (F:=_) g rG (λhr hu fb s=>?b) λI d hl h=>?_
 case b=>
  refine' (b9 (i9 2 d6 s)
   (b9 (B9 aAO rfl (nD<|c7 0) (l4 3 s) (b9 (i9 4 (DQ PM<|b8 3) s)
   (d7<|fG (WN 4) aAO (k8 lK (b8 4) A7)<|d7<|vF (BP (c7 4)<|c5 A2 (b8 2)<|b8 4)<|iW (n:=2) rfl<|A9 (l4 2 s)<|A9 (l4 4 s) eM)))
   (b9 (i9 0 (fE pL<|m9 (PD.pb<|M2 ["number"] ["one"] [2] rfl (F3 (sc:=c6 T6) (N:=jO)) (nD<|c7 0) (KM λ_ _ _ _ _=>(c5 y9 (b8 0)<|b8 1))<|λ_=>n8) x6) s)
   (d7<|j2<|c5 o5 (b8 0)<|PD.pb<|wC<|i7 (X9 u3 hr (c7 0)<|c7 1) p5))))
 replace h:=C6 h;obtain⟨a,b,c,I,rfl,h⟩:=h;replace h:=C6 h;obtain⟨d,e,f,I,rfl,h⟩:=h;replace h:=D4 h;obtain⟨rfl,h⟩:=h;split at h
 .rename_i hz;obtain⟨U,A,Y⟩:=hz;rw[<-h];obtain⟨C,J⟩:∃P:G.V,P=⟨a,b,c⟩:=⟨_,rfl⟩;obtain⟨B,L⟩:∃P:G.V,P=⟨d,e,f⟩:=⟨_,rfl⟩;rw[<-J]at U A;rw[<-L]at Y;have vC:(.tup [.int a,.int b,.int c]:D)=vd C:=by rw[J]
  have vP:(.tup [.int d,.int e,.int f]:D)=vd B:=by rw[L]
  rw[vC,vP,<-J,<-L];obtain⟨g0,g1,g2⟩:=G.fB U;have O:((G.o7 C:Nat):Int)≠0:=by lia
  have gb:uC ((G.o7 C:Nat):Int):=⟨O,v7 (uJ A)⟩;simp only[j4,aAz,aFT,aBm,aEc];simp only[X4,oZ,R.aa0,tU,A4,aAv,aBB,aGv,aGw,aEL,aEM,aBv,aBw];refine eG (λrest ρ=>∃(g:Nat) (n r:Sl),ρ=[.v (vd C),.v (vd B),.v (.int g),n,r]/\∃l:List Int,rest=l.map D.int/\l.foldl (λg n=>aGl g n.natAbs) g=G.o7 C) ?_ ⟨0,_,_,rfl,[C.x,C.y,C.z],rfl,by simp[G.o7]⟩ ?_
  .rintro d I ρ ⟨g,n,r,rfl,l,E,o⟩;match l,E,o with
   |x::l,E,o=>
    injection E with e3 e4;subst e3 e4;simp only[K0,aBv,aBw,aS,eV,fY,pW,R.aa0,QP,A4];have ea:(if x<0 then-x else x)=(x.natAbs:Int):=by split<;>lia
    rw[ea];refine pF (λm ρ=>∃(p q:Nat),ρ=[.v (vd C),.v (vd B),.v (.int p),.v (.int x),.v (.int q)]/\q<m/\aGl p q=aGl g x.natAbs) ?_ (by rintro ρ ⟨p,q,_,h,_⟩;lia) ⟨g,x.natAbs,rfl,by show x.natAbs<((x.natAbs:Int).natAbs)+2;lia,rfl⟩ ?_
    .rintro m ρ ⟨p,q,rfl,hq,Q⟩;by_cases H:(q:Int)=0
     .exact .inl (by simp[H])
     .have h1:q≠0:=by lia
      refine .inr ⟨by simp;lia,_,?_,q,p%q,rfl,?_,?_⟩
      .have em:X3 (.int (p:Int)) (.int (q:Int))=.ok (.int ((p%q:Nat):Int)):=by rw[nN H,aDG _ (by lia)];rfl
       simp[em,IF,jD,eI,pI,bK,sizeLine]
      .have:=aDS p (show 0<q by lia)
       lia
      .rw[aFV,<-Nat.gcd_rec,aFV];exact Q
    .rintro m ρ ⟨p,q,rfl,hq,Q⟩ hc;have H:q=0:=by
      by_cases z:q=0
      .exact z
      .simp at hc;lia
     subst H;refine⟨p,_,_,rfl,l,rfl,?_⟩;rw[<-o,aDx,<-Q,Nat.gcd_zero_right]
  .rintro ρ ⟨g,n,r,rfl,l,E,o⟩;have:l=[]:=by simpa using E.symm
   subst this;have o:g=G.o7 C:=o;subst o;have sn:Sz 2003 (G.cG C<|G.o7 C):=by have f1:=bits_fdiv (b:=(G.o7 C:Int)) A.1;have f2:=bits_fdiv (b:=(G.o7 C:Int)) A.2.1;have f3:=bits_fdiv (b:=(G.o7 C:Int)) A.2.2;rw[cQ g0]at f1 f2 f3;exact⟨f1,f2,f3⟩
   have d1:∀t:Int,N6 (.int t) (.int (G.o7 C:Nat))=.ok (.int (t/(G.o7 C:Nat))):=λt=>by rw[V5 gb,cQ g0]
   have p2:=bL (u:=G.cG C (G.o7 C)) (v:=B) sn.mono Y.mono;have T:j5 [.tup [.int (C.x/(G.o7 C:Nat)),.int (C.y/(G.o7 C:Nat)),.int (C.z/(G.o7 C:Nat))],vd B]=_:=p2;have s4:4<=sizeLine:=by decide
   have s3:3<=sizeLine:=by decide
   have s1:1<=sizeLine:=by decide
   simp[d1,i8,T,uU,bK,jY,s4,s3,s1,N0,SV,G.cG]
 .cases h
def Y8 (M4:w9 P w K mg base 1 "_law_cross" 2 v5)(K1:w9 P w K mg base 1 "_law_way" 2 l6)(u3:w9 P w K mg base 1 "_law_product" 2 j5)(U5:w9 P w K mg base 2 "_law_plane" 2 iT)(bf:mg "sorted"=none)(jl:mg "set"=none)(eh:mg "range"=none)(dh:mg "len"=none)(mo:mg "min"=none)(vg:mg "max"=none)(eu:mg "tuple"=none)(g:cP K mg "_law_planes" J0):w9 P w K mg base 8 "_law_planes" 1 aT:=by
 refine' m8 (k:=7) (F:=_) g qL (λp hu fb t=>?b) λds d hl h=>?_
 case b=>
  have vf:=p.ad6 (by decide);refine' (b9 (i9 1 (PF.pd<|bZ (b8 0) rfl vf) t)
   (b9 (AA 2 t)
   (b9 (B9 aAO rfl (O5<|m9 (PD.pb<|DQ S1<|b8 1) x6) (l4 3 t) (d7 (B9 aAO rfl (O5<|m9 (PD.pb<|c5 o5 (b8 3) A7)<|m9 (PD.pb<|DQ S1<|b8 1) x6) (l4 4 t) (d7 (B9 aAO rfl (O5<|m9 (PD.pb<|c5 o5 (b8 4) A7)<|m9 (PD.pb<|DQ S1<|b8 1) x6) (l4 5 t) (b9 (i9 6 (X9 M4 p (X9 K1 p (f7 (b8 1)<|c7 3)<|f7 (b8 1)<|c7 4)<|X9 K1 p (f7 (b8 1)<|c7 3)<|f7 (b8 1)<|c7 5) t)
   (b9 (dS 7 ["one"] ["crossed", "some", "i"] [6,1,3] t rfl (F3 (sc:=c6 J0) (N:=Z3)) (p8<|c7 1) (KM λ_ _ _ _ _=>(X9 u3 p (c7 1)<|X9 K1 p (f7 (b8 2)<|c7 3)<|c7 0))<|λ_=>n8)
   (b9 (A5 (AU.pt<|jK (k8 (X6 hu) (PD.pb<|R1 (GT rfl)<|m9 (b8 7) x6) A7)<|cW<|k8 EX (PD.pb<|R1 (FE rfl)<|m9 (b8 7) x6) A7) (d7<|gF 2 zI (X9 U5 p (c7 6)<|f7 (b8 1)<|c7 3) fb) n6)
   (d7<|A5 (AU.pt<|jK (k8 (X6 hu) (PD.pb<|R1 (FE rfl)<|m9 (b8 7) x6) A7)<|cW<|k8 lK (PD.pb<|R1 (GT rfl)<|m9 (b8 7) x6) A7) (d7<|gF 2 zI (X9 U5 p (fE pL<|m9 (PD.pb<|M2 ["number"] [] [] rfl (F3 (sc:=c6 J0) (N:=Z3)) (nD<|c7 6) (KM λ_ _ _ _ _=>(c5 v6 A7<|b8 0))<|λ_=>n8) x6)<|f7 (b8 1)<|c7 3) fb) n6)))))))))
   (d7<|j2<|PF.pd<|CD 2 rfl vf))))
 match ds,h with
 |[.lst Y],h=>
  simp only[aT]at h;split at h
  .rename_i J e1;rw[o9 e1];split at h
   .rename_i hz;rw[<-h];obtain⟨h1,h2,h3⟩:=hz;have SS:=OW (J:=J) (by lia);obtain⟨m,r,e,L⟩:=U9 h1 h2 (by lia);rw[<-e]at L;have E:=L.good.solid;have H:=L.good.ord;have sz:∀X∈c9 J,Sz 900 X:=λX hX=>h1.1 X (t5.mp hX);have PS:=λU=>rB (U:=U) h1 h2 h3;clear L e;generalize c9 J=S at*
    have hS1:S.length<=sizeLine:=aAr h3 (by decide);have r1:=WP (n:=S.length) (by lia);have r2:∀i:Nat,i<S.length->cM [.int ((i:Int)+1),.int (S.length:Int)]=.ok (cE (i+1)<|S.length-(i+1)):=λi hi=>pz (a:=i+1) (b:=S.length) (by lia) (by lia);simp-implicitDefEqProofs [j4,SS,r1];refine ER (pv1 (.lst (J.map vd)) S) ?_ ⟨[],_,_,_,_,_,rfl,⟨.nil,λx hx=>by cases hx⟩,λi' j' k' _ _ l=>by lia⟩ ?_
    .rintro i _ hi ρ ⟨U,a3,a4,Q,T,I,rfl,K,Dn⟩;have hi:i<S.length:=by lia
     obtain⟨A,eA⟩:∃A,S[i]?=some A:=⟨S[i],aAg hi⟩;have o:=aAk eA;simp-implicitDefEqProofs [r2 i hi];refine BE (pv2 (.lst (J.map vd)) S i) ?_ ⟨U,_,_,_,_,rfl,K,Dn.j0⟩ ?_
     .rintro j _ hj ρ ⟨U,a4,Q,T,I,rfl,K,Dn⟩;have hj:j<S.length:=by lia
      obtain⟨B,eB⟩:∃A,S[j]?=some A:=⟨S[j],aAg hj⟩;have hB:=aAk eB;simp-implicitDefEqProofs [r2 j hj];refine BE (pv3 (.lst (J.map vd)) S i j) ?_ ⟨U,_,_,_,rfl,K,Dn.k0⟩ ?_
      .rintro k _ hk ρ ⟨U,Q,T,I,rfl,K,Dn⟩;have hk:k<S.length:=by lia
       obtain⟨C,eC⟩:∃A,S[k]?=some A:=⟨S[k],aAg hk⟩;have hC:=aAk eC;obtain⟨K2,sub,cu,cd⟩:=ZE o hB hC K;refine⟨[.v (.lst (J.map vd)),.v (.lst (S.map vd)),.d (VG S U A B C),.v (.int (i:Int)),.v (.int (j:Int)),.v (.int (k:Int)),.v (vd<|G.cr (B-A)<|C-A),.v (.lst ((aG S (G.cr (B-A)<|C-A) A).map D.int))],?_,_,_,_,_,rfl,K2,Dn.step sub λA' B' C' x1 x2 x3=>by rw[eA]at x1;rw[eB]at x2;rw[eC]at x3;cases x1;cases x2;cases x3;exact⟨cu,cd⟩⟩
       have few:=K.few E H h3;have s:=(OX o hB hC K).1.few E H h3;have iA:=qB eA;have iB:=qB eB;have iC:=qB eC;have zB:=(sz B hB).sub (sz A o);have zC:=(sz C hC).sub (sz A o);have cc:=aM zB.mono zC.mono;have sc:Sz 2003 (G.cr (B-A)<|C-A):=(zB.cr zC).mono;have up:G.Up S A B C↔_:=(GC o).1;have dn:G.Dn S A B C↔_:=(GC o).2;have nt:=KP A B C;have pu:=λz=>tT (c:=G.cr (B-A) (C-A)) z sc (sz A o).mono;rw[iS]at pu;have pd:=λz=>tT (c:=G.cr (C-A) (B-A)) z ((zC.cr zB).mono) (sz A o).mono;rw[iS,<-nt]at pd;obtain⟨mx,mn⟩:=UY (S:=S) (c:=G.cr (B-A) (C-A)) (A:=A) (λz=>by rw[z]at o;cases o);have cne:∀{c X:G.V},G.c8 c X≠0->c≠0:=λ{c X} q z=>q (by rw[z];simp[G.c8]);have dd:=λ(f:G.V×Int) (r:Ev)=>GK (f:=f) (v:=.bl true) (a:=Sl.v (.lst (J.map vd))) (b:=Sl.v (.lst (S.map vd))) (r:=r) few;have qV:=λ(f:G.V×Int) (r:Ev)=>GK (f:=f) (v:=.bl true) (a:=Sl.v (.lst (J.map vd))) (b:=Sl.v (.lst (S.map vd))) (r:=r) s;have xi:G.Up S A B C->G.cr (B-A) (C-A)≠0:=λ⟨_,X,_,l⟩=>cne (X:=X-A) (by lia);have hd0:G.Dn S A B C->(⟨0-(G.cr (B-A)<|C-A).x,0-(G.cr (B-A)<|C-A).y,0-(G.cr (B-A)<|C-A).z⟩:G.V)≠0:=λv=>by rw[nt];obtain⟨_,X,_,l⟩:=G.GH.mp v;exact cne (X:=X-A) (by lia)
       have e1:G.Up S A B C->OK S U A B C=Y2 U (N0<|G.d5 A B C) (.bl true):=λu=>kd u;have e2:¬G.Up S A B C->OK S U A B C=U:=λu=>kz u;have f1:G.Dn S A B C->VG S U A B C=Y2 (OK S U A B C) (N0<|G.d5 A C B) (.bl true):=λu=>kd u;have f2:¬G.Dn S A B C->VG S U A B C=OK S U A B C:=λu=>kz u;have pq:=λq hq=>bL sc.mono ((sz q hq).sub (sz A o)).mono;clear cu cd sub Dn K2 nt few s cne K zB zC sc sz;generalize qP (aG S (G.cr (B-A)<|C-A) A)=M at*
       generalize rQ (aG S (G.cr (B-A)<|C-A) A)=mm at*
       obtain⟨W,eW⟩:∃W,(aG S (G.cr (B-A)<|C-A) A).map D.int=W:=⟨_,rfl⟩;rw[eW]at mx mn⊢;unfold aG at eW;generalize G.cr (B-A) (C-A)=c at*
       generalize VG S U A B C=k2 at*
       generalize OK S U A B C=k1 at*
       simp only[K0,aBv,aBw];refine RG (ρ:=[.v (.lst (J.map vd)),.v (.lst (S.map vd)),.d U,.v (.int (i:Int)),.v (.int (j:Int)),.v (.int (k:Int)),.v (vd c),I]) (by simp[iA,iB,iC,cc]) ?_;refine RG (ρ:=[.v (.lst (J.map vd)),.v (.lst (S.map vd)),.d U,.v (.int (i:Int)),.v (.int (j:Int)),.v (.int (k:Int)),.v (vd c),.v (.lst W)]) ?_ ?_
       .simp-implicitDefEqProofs [i8,hS1];rw[QI vd D.int (λX=>G.c8 c (X-A)) S ?h,eW]
        case h=>intro q hq;refine⟨[.v (vd q),.v (vd c),.v (.lst (S.map vd)),.v (.int (i:Int))],rfl,?_⟩;simp only[cA,X4,fY,pW,R.aa0,iA,OQ];exact pq q hq
        rfl
       clear iB iC cc pq eW;refine RG (ρ:=[.v (.lst (J.map vd)),.v (.lst (S.map vd)),.d k1,.v (.int (i:Int)),.v (.int (j:Int)),.v (.int (k:Int)),.v (vd c),.v (.lst W)]) ?_ ?_
       .by_cases u:G.Up S A B C
        .rw[e1 u];simp[mx,mn,up.mp u,iA,pu (xi u),dd]
        .rw[e2 u];by_cases O:M=0
         .have q2:¬mm<0:=λz=>u (up.mpr ⟨O,z⟩);simp[mx,mn,O,q2]
         .simp[mx,O]
       .clear e1 e2 pu xi up dd;by_cases v:G.Dn S A B C
        .rw[f1 v];have pd:=pd (hd0 v);simp only[Int.zero_sub]at pd;have pd:iT [D.tup [D.int (-c.x),D.int (-c.y),D.int (-c.z)],vd A]=_:=pd;have s3:3<=sizeLine:=by decide
         have t3:∀a b c:D,uU [.lst [a,b,c]]=.ok (.tup [a,b,c]):=λ_ _ _=>rfl;simp[mx,mn,dn.mp v,iA,i8,s3,t3,pd,qV]
        .rw[f2 v];by_cases O:mm=0
         .have q2:¬0<M:=λz=>v (dn.mpr ⟨O,z⟩);simp[mx,mn,O,q2]
         .simp[mn,O]
      .rintro ρ ⟨U,Q,T,I,rfl,K,Dn⟩;rw[show j+1+(S.length-(j+1))=S.length by lia]at Dn;exact⟨U,_,_,_,_,rfl,K,Dn.j⟩
     .rintro ρ ⟨U,a4,Q,T,I,rfl,K,Dn⟩;rw[show i+1+(S.length-(i+1))=S.length by lia]at Dn;exact⟨U,_,_,_,_,_,rfl,K,Dn.i⟩
    .rintro ρ ⟨U,a3,a4,Q,T,I,rfl,K,Dn⟩;rw[aDR]at Dn;have few:=K.few E H h3;have ps:=PS U K Dn;have pt:(U.map (·.1)).all N4=true:=aBp.mpr λd hd=>by obtain⟨f,rfl,_⟩:=K.2 d hd;rfl
     have sd:sdR 2 [.v (.lst (J.map vd)),.v (.lst (S.map vd)),.d U,a3,a4,Q,T,I]=.ok (S9<|N5 U):=kd ⟨pt,few⟩;rw[sd,ps];rfl
   .exact absurd h (by simp)
  .exact absurd h (by simp)
def V2 (u3:w9 P w K mg base 1 "_law_product" 2 j5)(g:cP K mg "_law_on" kE):w9 P w K mg base 2 "_law_on" 2 pT:=by
 refine' m8 (k:=1) (F:=_) g AX (λn o s t=>?b) λl d u h=>?_
 case b=>refine' (d7<|j2<|vN (X6 o) (PD.pb<|X9 u3 n (c7 0)<|c7 1)<|PD.pb<|f7 (b8 0) d6)
 replace h:=LU h;obtain⟨a,b,c,e,l,rfl,h⟩:=h;replace h:=C6 h;obtain⟨x,y,z,l,rfl,h⟩:=h;replace h:=D4 h;obtain⟨rfl,h⟩:=h;split at h
 .rename_i m;rw[<-h];have p:j5 [.tup [.int a,.int b,.int c,.int e],.tup [.int x,.int y,.int z]]=_:=PX (f:=(⟨a,b,c⟩,e)) m.1 m.2;generalize G.c8 _ _=q at*
  have r:U8 (.tup [.int a,.int b,.int c,.int e]) (.int 3)=.ok (.int e):=rfl;simp-implicitDefEqProofs [j4,p,r];rfl
 .cases h
def W9 (V2:w9 P w K mg base 2 "_law_on" 2 pT)(H:mg "len"=none)(I:mg "sorted"=none)(L:mg "set"=none)(g:cP K mg "_law_corners" L5):w9 P w K mg base 8 "_law_corners" 2 X5:=by
 refine' m8 (k:=7) (F:=_) g mL (λp O Q T=>?b) λa d U h=>?_
 case b=>have t:=p.ad6 (by decide);refine' (d7<|j2<|M2 ["one"] ["planes"] [1] rfl (F3 (sc:=c6 L5) (N:=cI)) (p8<|PF.pd<|bZ (b8 0) rfl t) (zk λ_ _ _ _ _=>⟨(k8 lK (PD.pb<|DQ S1<|PD.pb<|M2 ["plane"] ["one"] [0] rfl TQ (p8<|c7 1) (zk λ_ _ _ _ _=>⟨(bX<|X9 V2 p (c7 0)<|c7 1),(c7 0)⟩)<|λ_=>n8) A7),(c7 0)⟩)<|λ_=>n8)
 match a,h with
 |[.lst Y,.lst ys],h=>
  simp only[X5]at h;split at h
  .rename_i J u;rw[o9 u];split at h
   .rename_i y;rw[<-h];obtain⟨rfl,e,q,l⟩:=y;have z:=OW (J:=J) (by lia);have r:=wP e q l;obtain⟨s,ag,m⟩:=V3 e q l;have sz:∀X∈c9 J,Sz 900 X:=λX c=>e.1 X (t5.mp c);have n:∀f∈j1 (c9 J),Sz 2003 f.1:=λf o=>GI e ((s f).mp o);have A:(c9 J).length<=sizeLine:=aAr l (by decide);have B:(j1<|c9 J).length<=sizeLine:=aAr m (by decide);rw[<-r];clear r s;generalize j1 (c9 J)=fs at*
    generalize c9 J=S at*
    have C:∀X∈S,u6 (λd ρ=>R.ok (aCM ρ 0<|Sl.v d)) (λρ=>(((T1 0 ρ).bind λd=>((T1 1 ρ).bind λd=>R.ok [d]).bind λa=>R.ok (d::a)).bind pT).bind qN) (T1 0) [.no,.v (vd X)] (fs.map N0)=.ok ((UX fs X).map N0):=λX c=>O9 N0 (λf=>decide (G.c8 f.1 X=f.2)) N0 fs λf o=>⟨[.v (N0 f),.v (vd X)],rfl,by have:=CA (n f o) (sz X c).mono;show(pT [N0 f,vd X]).bind qN=_;rw[this];rfl,λ_=>rfl⟩
    have E:u6 (λd ρ=>R.ok (aCM ρ 0<|Sl.v d)) (λρ=>((((((T1 1 ρ).bind M6).bind λa=>if a.length<=sizeLine then(u6 (λd ρ=>R.ok (aCM ρ 0<|Sl.v d)) (λρ=>(((T1 0 ρ).bind λd=>((T1 1 ρ).bind λd=>R.ok [d]).bind λa=>R.ok (d::a)).bind pT).bind qN) (T1 0) (i8 [aCD "plane"] [0] ρ) a).bind λa=>R.ok (D.lst a)else R.bad).bind λd=>R.ok [d]).bind HI).bind λx=>WS x (D.int 2)).bind qN) (T1 0) [.no,.v (.lst (aCA N0 fs))] (S.map vd)=.ok ((S.filter λX=>decide (2<(UX fs X).length)).map vd):=O9 vd (λX=>decide (2<(UX fs X).length)) vd S λX c=>⟨[.v (vd X),Sl.v (D.lst<|aCA N0 fs)],rfl,by
     have:=C X c;have gt:(decide ((2:Int)<((UX fs X).length:Int)))=decide (2<(UX fs X).length):=by rw[aDa];simp;lia
     simp-implicitDefEqProofs [i8,B,this];try lia,λ_=>rfl⟩
    simp-implicitDefEqProofs [j4,z,A];rw[show i8 [aCD "one"] [1] [.v (.lst (aCA vd J)),.v (.lst (aCA N0 fs))]=[.no,.v (.lst (aCA N0 fs))]from rfl,E];rfl
   .exact absurd h (by simp)
  .exact absurd h (by simp)
section
seal PySem.eval
def o_law {f:bc}{fd:eQ}(cR:w9 P w K mg base 3 "_law_land" 2 mU)(Y8:w9 P w K mg base 8 "_law_planes" 1 aT)(W9:w9 P w K mg base 8 "_law_corners" 2 X5)(V2:w9 P w K mg base 2 "_law_on" 2 pT)(g:w9 P w K mg base 10 "edges_of" 1 aZ)(dW:DR P w K mg base 10 "edges_of" 1 aZ)(eh:mg "range"=none)(dh:mg "len"=none)(jh:mg "list"=none)(je:mg "isinstance"=none)(eu:mg "tuple"=none)(F0:Fun K "law" "law" fV f fd):FnOk P w K mg base sZ 11 f fd ["script"] (jz K 1 iZ):=by
 refine' fnD (k:=10) (F:=_) F0 QD (λL A outer s H E t=>?b) λds d hl h=>?_
 case b=>
  have hu:=t.units;have fb:=t.ae4;have r:=QD.nd;refine' (b9 (i9 1 (X9 cR t (c7 0) d6) r)
   (b9 (i9 2 (FU Y8 t<|c7 1) r)
   (b9 (i9 3 (X9 W9 t (c7 1)<|c7 2) r)
   (b9 (bY 4 (jS p5) r)
   (b9 (B9 aAO rfl (O5<|m9 (PD.pb<|DQ S1<|b8 3) x6) (l4 5 r) (d7 (B9 aAO rfl (O5<|m9 (PD.pb<|c5 o5 (b8 5) A7)<|m9 (PD.pb<|DQ S1<|b8 3) x6) (l4 6 r) (b9 (dS 7 ["plane"] ["corners", "i", "j"] [3,5,6] r rfl (F3 (sc:=c6 fV) (N:=XT)) (p8<|c7 2) (zk λ_ _ _ _ _=>⟨(AU.pt<|jK (bX<|X9 V2 t (c7 0)<|f7 (b8 1)<|c7 2)<|cW<|bX<|X9 V2 t (c7 0)<|f7 (b8 1)<|c7 3),(c7 0)⟩)<|λ_=>n8)
   (d7<|A5 (k8 lK (PD.pb<|DQ S1<|b8 7) A7) (d7<|P1 4<|BP (f7 (b8 3)<|c7 5)<|f7 (b8 3)<|c7 6) n6)))))
   (b9 (i9 8 (fE UQ<|m9 (b8 3) x6) r)
   (b9 (bY 9 (cj dW (t.mono (by decide)) (i7 (c7 8) p5)<|A0 V7) r)
   (b9 (A5 (AU.pt<|oU (vI<|bX<|CQ NN<|b8 9)<|oU (k8 (jA hu) (b8 9)<|b8 4)<|xB<|k8 (jA hu) (b8 8)<|b8 3) (d7<|j2 zI) n6)
   (b9 (LD 9 10 aAO rfl r (AU.pt<|oU (vI<|bX<|CQ uL<|b8 10)<|oU (k8 (jA hu) (PD.pb<|DQ S1<|b8 10) A7)<|xB<|vI<|bX<|CQ uL<|PD.pb<|f7 (b8 10) d6) zI)
   (b9 (P1 9 d6)
   (d7<|j2<|gy (vN (X6 hu) (PD.pb<|FU g t<|c7 8)<|b8 4)<|gx<|vN (X6 hu) (b8 8)<|b8 3)))))))))))
 match ds,h with
 |[.lst Y],h=>
  simp-implicitDefEqProofs only[iZ]at h;split at h
  .rename_i hc;rw[<-h];obtain⟨hl,U⟩:=hc;have LL:=RB U hl (most:=8) (by decide) (by decide);obtain⟨I,a2,a3⟩:=SQ U (most:=8) (by decide) (by decide);generalize lV Y 8=J at*
   have u:R5 900 J:=⟨λp hp=>(a2 p hp).mono,by lia⟩;have h3:(c9 J).length<=11:=aAr (EH _) (by lia);have h4:(c9 J).length<=14:=by lia
   have PL:=BZ u I h4;have CO:=AT u I h4;obtain⟨b1,b2,b3,b4,b5,b6⟩:=sD u I h4;have y:(c9<|t8 J).length<=11:=by rw[b3];exact aAr (G.z8 (T4 _) (m:=c9 J) λv hv=>t5.mpr (jN u I h4 hv)) h3
   have DE:=bw u I h3;have EO:=MO b2 b1 y;have EL:=ZF b2 b1 y;have dE:=bz b2 b1 y;rw[DE]at EO EL dE;rw[aAj]at EL;obtain⟨hf,ag,hfl⟩:=V3 u I h4;have szf:∀f∈j1 (c9 J),Sz 2003 f.1:=λf hF=>GI u ((hf f).mp hF);have lb:(j1<|c9 J).length<=sizeLine:=aAr hfl (by decide);have cz:∀p∈t8 J,Sz 300 p:=λp hp=>a2 p (jN u I h4 hp);have dC:C4 (.lst ((t8 J).map vd))<=40:=by have:=yR (t8 J);rw[C4];lia
   clear u h3 h4 I a2 a3 b1 b2 b3 b5 b6 y hf ag hfl DE;generalize t8 J=C at*
   generalize j1 (c9 J)=fs at*
   obtain⟨T,eT⟩:∃T,xY fs C=T:=⟨_,rfl⟩;rw[eT]at EO EL dE;have r1:=WP (n:=C.length) (by lia);have r2:∀i:Nat,i<C.length->cM [.int ((i:Int)+1),.int (C.length:Int)]=.ok (cE (i+1)<|C.length-(i+1)):=λi U=>pz (a:=i+1) (b:=C.length) (by lia) (by lia);simp-implicitDefEqProofs only[j4,aAz,aFT,aBm,aEc,aAv,aBB,aGv,aGw,aEL,aEM];refine Q9 (by simp-implicitDefEqProofs [LL];rfl) ?_;refine Q9 (by simp-implicitDefEqProofs [PL];rfl) ?_;refine Q9 (by simp-implicitDefEqProofs [CO];rfl) ?_;refine Q9 (ρ:=[.v (.lst Y),.v (.lst (J.map vd)),.v (.lst (fs.map N0)),.v (.lst (C.map vd)),.o [],.no,.no,.no,.no,.no,.no]) (by simp) ?_;refine WD (x:=cE 0 C.length) (by simp-implicitDefEqProofs [r1]) ?_;refine ER (qv1 (.lst Y) (.lst (J.map vd)) (.lst (fs.map N0)) C fs T) ?_ ⟨[],_,_,_,rfl,by rw[aEc,aEj];exact eT⟩ ?_
   .rintro i _ U ρ ⟨c,a5,O,Q,rfl,q⟩;have U:i<C.length:=by lia
    obtain⟨A,eA⟩:∃A,C[i]?=some A:=⟨C[i],aAg U⟩;have hA:=aAk eA;have iA:=qB eA;rw[EQ eA,QE]at q;simp-implicitDefEqProofs only[K0,aBv,aBw];refine YZ (x:=cE (i+1) (C.length-(i+1))) (by simp-implicitDefEqProofs [r2 i U]) ?_;refine BE (qv2 (.lst Y) (.lst (J.map vd)) (.lst (fs.map N0)) C fs T i A) ?_ ⟨c,_,_,rfl,q⟩ ?_
    .rintro j _ hj ρ ⟨c,O,Q,rfl,q⟩;have hj:j<C.length:=by lia
     obtain⟨B,eB⟩:∃A,C[j]?=some A:=⟨C[j],aAg hj⟩;have hB:=aAk eB;have iB:=qB eB;rw[EQ eB]at q;have dl:c.length<=63:=by have:=ll aFr q;rw[aAD]at this;lia
     have dl':c.length<sizeLine:=aCt dl (by decide);simp-implicitDefEqProofs only[K0,aBv,aBw];refine oj (ρ:=[.v (.lst Y),.v (.lst (J.map vd)),.v (.lst (fs.map N0)),.v (.lst (C.map vd)),.o (c.map u8),.v (.int (i:Int)),.v (.int (j:Int)),.v (.lst ((Q7 fs (A,B)).map N0)),.no,.no,.no]) ?_ ?_
     .simp-implicitDefEqProofs only[cA,X4,R.aa0,KE,aAj,kd lb];rw[O9 N0 (λf=>decide (G.c8 f.1 A=f.2)&&decide (G.c8 f.1 B=f.2)) N0 fs ?h]
      case h=>intro f hF;have l1:=CA (szf f hF) (cz A hA).mono;have l2:=CA (szf f hF) (cz B hB).mono;refine⟨[.v (N0 f),.v (.lst (C.map vd)),.v (.int (i:Int)),.v (.int (j:Int))],rfl,?_,λ_=>rfl⟩;simp-implicitDefEqProofs only[VH,aS,eV,fY,pW,cA,X4,R.aa0,iA,iB,l1,l2,qN];cases decide (G.c8 f.1 A=f.2)<;>rfl
      rfl
     .have gt:∀n:Nat,WS (.int (n:Int)) (.int 1)=.ok (.bl (decide (1<n))):=λn=>by have e:decide ((1:Int)<(n:Int))=decide (1<n):=decide_eq_decide.mpr (by lia);rw[<-e];rfl
      by_cases hb:1<(Q7 fs (A,B)).length
      .rw[VI hb]at q;refine⟨[.v (.lst Y),.v (.lst (J.map vd)),.v (.lst (fs.map N0)),.v (.lst (C.map vd)),.o ((c++[(A,B)]).map u8),.v (.int (i:Int)),.v (.int (j:Int)),.v (.lst ((Q7 fs (A,B)).map N0)),.no,.no,.no],?_,c++[(A,B)],_,_,rfl,by rw[<-q];simp⟩;have ap:qQ 4 [.v (.lst Y),.v (.lst (J.map vd)),.v (.lst (fs.map N0)),.v (.lst (C.map vd)),.o (c.map u8),.v (.int (i:Int)),.v (.int (j:Int)),.v (.lst ((Q7 fs (A,B)).map N0)),.no,.no,.no] (u8 (A,B))=.ok (.nx [.v (.lst Y),.v (.lst (J.map vd)),.v (.lst (fs.map N0)),.v (.lst (C.map vd)),.o ((c++[(A,B)]).map u8),.v (.int (i:Int)),.v (.int (j:Int)),.v (.lst ((Q7 fs (A,B)).map N0)),.no,.no,.no]):=by rw[aCs];exact kd (by rw[aAj];exact dl')
       have tp:bK [vd A,vd B]=.ok (u8 (A,B)):=rfl;simp-implicitDefEqProofs only[aS,eV,fY,pW,cA,X4,oZ,R.aa0,nW,aAj,gt,decide_eq_true hb,qN,if_true,iA,iB,tp,ap]
      .rw[ZT hb]at q;refine⟨[.v (.lst Y),.v (.lst (J.map vd)),.v (.lst (fs.map N0)),.v (.lst (C.map vd)),.o (c.map u8),.v (.int (i:Int)),.v (.int (j:Int)),.v (.lst ((Q7 fs (A,B)).map N0)),.no,.no,.no],?_,c,_,_,rfl,q⟩;simp-implicitDefEqProofs only[aS,eV,fY,pW,oZ,R.aa0,nW,aAj,gt,decide_eq_false hb,qN,aAt,if_false]
    .rintro ρ ⟨c,O,Q,rfl,q⟩;rw[show i+1+(C.length-(i+1))=C.length by lia,aDO]at q;exact⟨c,_,_,_,rfl,q⟩
   .rintro ρ ⟨c,a5,O,Q,rfl,q⟩;rw[aDR,aDO]at q;have q:c=T:=by rw[<-q];exact(aBR c).symm
    subst q;have tl:c.length<sizeLine:=aCt EL (by decide);refine Q9 (by simp-implicitDefEqProofs [WX];rfl) ?_;refine Q9 (by simp-implicitDefEqProofs [EO];rfl) ?_;have il:∀l:List D,DT "list" (.lst l)=true:=λ_=>rfl;have it:∀l:List D,DT "tuple" (.tup l)=true:=λ_=>rfl;refine Q9 (by simp-implicitDefEqProofs [GJ dE,GJ dC,il];rfl) ?_;refine OB (ds:=c.map u8) (λρ=>∃z,ρ=[.v (.lst Y),.v (.lst (J.map vd)),.v (.lst (fs.map N0)),.v (.lst (C.map vd)),.o (c.map u8),a5,O,Q,.v (.lst (C.map vd)),.o (c.map u8),z]) ?_ ⟨_,rfl⟩ ?_
    .rintro d hd ρ ⟨z,rfl⟩;obtain⟨e,he,rfl⟩:=aAl.mp hd;exact⟨[.v (.lst Y),.v (.lst (J.map vd)),.v (.lst (fs.map N0)),.v (.lst (C.map vd)),.o (c.map u8),a5,O,Q,.v (.lst (C.map vd)),.o (c.map u8),.v (u8 e)],by simp-implicitDefEqProofs [yj,it],_,rfl⟩
    .rintro ρ ⟨z,rfl⟩;have ap:qQ 9 [.v (.lst Y),.v (.lst (J.map vd)),.v (.lst (fs.map N0)),.v (.lst (C.map vd)),.o (c.map u8),a5,O,Q,.v (.lst (C.map vd)),.o (c.map u8),z] (.int 0)=.ok (.nx [.v (.lst Y),.v (.lst (J.map vd)),.v (.lst (fs.map N0)),.v (.lst (C.map vd)),.o (c.map u8),a5,O,Q,.v (.lst (C.map vd)),.o (c.map u8++[.int 0]),z]):=kd (by rw[aAj];exact tl);have eq1:KJ (.lst (c.map u8)) (.lst (c.map u8))=.ok (.bl true):=by unfold KJ;rw[kd ⟨dE,dE⟩,J6]
     have eq2:KJ (.lst (C.map vd)) (.lst (C.map vd))=.ok (.bl true):=by unfold KJ;rw[kd ⟨dC,dC⟩,J6]
     refine Q9 (ρ:=[.v (.lst Y),.v (.lst (J.map vd)),.v (.lst (fs.map N0)),.v (.lst (C.map vd)),.o (c.map u8),a5,O,Q,.v (.lst (C.map vd)),.o (c.map u8++[.int 0]),z]) ?_ ?_
     .simp-implicitDefEqProofs only[oZ,R.aa0];exact ap
     simp-implicitDefEqProofs [xw,EO,eq1,eq2]
  .exact absurd h (by simp)
end
end
end K21
section
namespace K21
open PySem L2 DL M
def truth (ns:List Int)(a:ns.length<=63)(b:∀x∈ns,aBa x<=1048576):iZ [.lst (ns.map D.int)]=.ok (.bl true):=by unfold iZ;exact kd ⟨by simpa using a,VO b⟩
section
variable [Tabs]
def all_mk {l:PySem.W.OpenLaw}{w:cy}{K:lr}{h:df}{mg:cH}{fa f33 Pt:bc}(X:K.In h)(G:h.Ns cq mg)(hfa:mg "law"=some (.ref fa))
  (g0:Got K "way_between" aE)
  (g1:Got K "cross_of" gJ)
  (g2:Got K "product_of" bV)
  (g3:Got K "common_divisor" P4)
  (g4:Got K "plane_through" R6)
  (g5:Got K "side_of" lB)
  (g6:Got K "first_real_way" P3)
  (g7:Got K "dimension_of" C0)
  (g8:Got K "refuse_flat" Z5)
  (g9:Got K "points_on" Y3)
  (g10:Got K "plane_about" Z8)
  (g11:Got K "first_pair" bO)
  (g12:Got K "turn_of" lD)
  (g13:Got K "left_chain" bW)
  (g14:Got K "ring_of" kP)
  (g15:Got K "pairs_round" Z1)
  (g16:Got K "faces_from" bS)
  (g17:TV K "faces_of" K4 Pt)
  (g18:Got K "edges_of" aX)
  (g19:Got K "_law_cell" dM)
  (g20:Got K "_law_way" gA)
  (g21:Got K "_law_cross" bU)
  (g22:Got K "_law_product" W5)
  (g23:Got K "_law_point" bG)
  (g24:Got K "_law_points" J3)
  (g25:Got K "_law_solid" M5)
  (g26:Got K "_law_slants" P8)
  (g27:Got K "_law_slanted" X8)
  (g28:Got K "_law_land" Y5)
  (g29:Got K "_law_plane" T6)
  (g30:Got K "_law_planes" J0)
  (g31:Got K "_law_on" kE)
  (g32:Got K "_law_corners" L5)
  {od33 an33:Option bc} {sl33:Array (Option af)} {oc33 kV33 dc33 pm33 cd33 ct33:af}
  (a33:PySem.W.nsIn K cq "law"=some (some (.ref f33))) (l33:K.lookup f33=some ⟨oc33,od33,.func (PySem.W.fnOf "law" "law" (C8 fV) (p6 fV) (c6 fV) .none kV33 dc33 pm33 an33 cd33 ct33),sl33⟩) (e33:PySem.W.codeIn K cd33 "law"=true) (k33:PySem.W.keepIn K (.ref f33)=true)
  (z_abs:PySem.W.nsIn K cq "abs"=some none)
  (z_len:PySem.W.nsIn K cq "len"=some none)
  (z_any:PySem.W.nsIn K cq "any"=some none)
  (z_min:PySem.W.nsIn K cq "min"=some none)
  (z_list:PySem.W.nsIn K cq "list"=some none)
  (B:PySem.W.nsIn K cq "reversed"=some none)
  (z_zip:PySem.W.nsIn K cq "zip"=some none)
  (z_sorted:PySem.W.nsIn K cq "sorted"=some none)
  (z_set:PySem.W.nsIn K cq "set"=some none)
  (z_max:PySem.W.nsIn K cq "max"=some none)
  (z_range:PySem.W.nsIn K cq "range"=some none)
  (z_tuple:PySem.W.nsIn K cq "tuple"=some none)
  (z:PySem.W.nsIn K cq "enumerate"=some none)
  (o:PySem.W.nsIn K cq "isinstance"=some none)
  {nc:bc} {L:Option bc} {C E H:Tok} {N:Nat} {O:Array (Option af)}
  (Q:PySem.W.nsIn K cq "NO_WAY"=some (some (.ref nc))) (T:K.lookup nc=some ⟨.type "tuple",L,.seq #[.int 0 C,.int 0 E,.int 0 H] N,O⟩)
  (nt:(Pt,tbK)∈Tabs.tbs)
  (truth:∀ns:List Int,ns.length<=63->(∀x∈ns,aBa x<=1048576)->iZ [.lst (ns.map D.int)]=.ok (.bl true)):
  ∃fd:eQ,(∀(s:bb) (v:af),BindsTo s fd ⟨[v],[]⟩ [("script",v)])/\∀base:df,K.In base->base.Ns cq mg->jG mg base->FnOk l.prog w K mg base sZ 11 fa fd ["script"] (vM K):=by
 have e:=hfa.symm.trans (PySem.W.mg_of X G a33);cases e;have ve:=PySem.W.mg_none_of X G z_abs;have dh:=PySem.W.mg_none_of X G z_len;have b_any:=PySem.W.mg_none_of X G z_any;have mo:=PySem.W.mg_none_of X G z_min;have jh:=PySem.W.mg_none_of X G z_list;have ku:=PySem.W.mg_none_of X G B;have b_zip:=PySem.W.mg_none_of X G z_zip;have bf:=PySem.W.mg_none_of X G z_sorted;have jl:=PySem.W.mg_none_of X G z_set;have vg:=PySem.W.mg_none_of X G z_max;have eh:=PySem.W.mg_none_of X G z_range;have eu:=PySem.W.mg_none_of X G z_tuple;have jm:=PySem.W.mg_none_of X G z;have je:=PySem.W.mg_none_of X G o;have dc:KO K mg "NO_WAY" [0,0,0]:=YL (PySem.W.mg_of X G Q) T;refine⟨PySem.W.fnOf "law" "law" (C8 fV) (p6 fV) (c6 fV) .none kV33 dc33 pm33 an33 cd33 ct33,λs v=>.of_eq rfl,λbase _ _ hB=>?_⟩;have br:w9 l.prog w K mg base 1 "way_between" 2 l6:=n9 (g0.def X G);have fu:w9 l.prog w K mg base 1 "cross_of" 2 v5:=C9 (g1.def X G);have cb:w9 l.prog w K mg base 1 "product_of" 2 j5:=y8 (g2.def X G);have a:w9 l.prog w K mg base 1 "common_divisor" 1 F9:=N7 ve (g3.def X G);have c:=R7 fu br a cb (g4.def X G);have U:w9 l.prog w K mg base 1 "side_of" 2 aV:=jW (g5.def X G);have b:w9 l.prog w K mg base 1 "first_real_way" 1 A1:=F8 dc (g6.def X G);have gv:=F5 br b fu cb dh b_any (g7.def X G);have g:=Z9 gv (g8.def X G);have jn:=F4 U (g9.def X G);have ip:=J4 br cb fu c dc (g10.def X G);have p:=bB jn ip gv mo (g11.def X G);have Y:=kB cb fu br (g12.def X G);have q:=T8 Y dh (g13.def X G);have r_ring_of:=jX q jh ku (g14.def X G);have ir:w9 l.prog w K mg base 1 "pairs_round" 1 w5:=J2 jh b_zip (g15.def X G);have r:=bP ip r_ring_of ir dh bf (g16.def X G);have I:=gO jn g p r bf jl hB nt (g17.def X G);have jo:DR l.prog w K mg base 10 "edges_of" 1 aZ:=dW I ir mo vg bf jl (g18.def X G);have J:=jo.cal;have jr:w9 l.prog w K mg base 1 "_law_cell" 2 bQ:=K5 dh (g19.def X G);have la:w9 l.prog w K mg base 1 "_law_way" 2 l6:=K1 (g20.def X G);have jf:w9 l.prog w K mg base 1 "_law_cross" 2 v5:=M4 (g21.def X G);have bp:w9 l.prog w K mg base 1 "_law_product" 2 j5:=u3 (g22.def X G);have t:w9 l.prog w K mg base 1 "_law_point" 2 aN:=bD eh eu (g23.def X G);have k:=Z2 jr t eh jm (g24.def X G);have u:=bF la jf bp (g25.def X G);have m:w9 l.prog w K mg base 1 "_law_slants" 1 V4:=Y9 (g26.def X G);have d:w9 l.prog w K mg base 1 "_law_slanted" 2 J9:=W6 (g27.def X G);have A:=cR u k jr d m (g28.def X G);have y:=U5 bp ve eu (g29.def X G);have n:=Y8 jf la bp y bf jl eh dh mo vg eu (g30.def X G);have ng:=V2 bp (g31.def X G);have f:=W9 ng dh bf jl (g32.def X G);exact UC (o_law A n f ng J jo eh dh jh je eu<|LF (st:=fV) l33 e33 k33) truth
end
end K21
namespace PySem.W.Fast
def tw1569597724463654302:=0
def tw15770358405534601422:=0
def tw9785189539774912425:=0
def tw3224809651582133362:=0
def tw7362875365965105843:=0
def tw2187536731171887988:=0
def tw11278999918738429841:=0
def tw1293222028156761464:=0
def tw5225975351095788896:=0
def tw16971202212588494238:=0
def tw3780003905602110324:=0
def tw6100659973545541922:=0
def tw668640824979023335:=0
def tw7123082509741272685:=0
def tw12893573072929080394:=0
def tw13970812745176076355:=0
def tw1080932013501477212:=0
def tw6501844027262274893:=0
def tw12595889767155285776:=0
def tw6029855803333951342:=0
def tw5119119892000801194:=0
def tw9288829850768557466:=0
def tw15152867437411009748:=0
def tw10348024726483125315:=0
def tw15337595607833646034:=0
def tw10504235710234713315:=0
def tw8131282593152743364:=0
def tw6664648625284597521:=0
def tw8860691328014143172:=0
def tw1494796054488454740:=0
def tw2285982391803846093:=0
def tw5097126117544985388:=0
def tw7644456424863380303:=0
def tw17843408645555716752:=0
def tw6516164733164470481:=0
def tw9839460970155110613:=0
def tw5728259889595168015:=0
def tw7408516965014894691:=0
def tw11657365575864409203:=0
def tw11782245167922949821:=0
def tw4700784818117830005:=0
def tw8080144494702051881:=0
def tw950022321930980053:=0
def tw12465086626341542432:=0
def tw14527409597206008163:=0
def tw17976021178866380215:=0
def tw16618113547207332607:=0
def tw4360959772527918905:=0
def tw14133215112972124879:=0
def tw14485534411670762434:=0
def tw14930394150237353823:=0
def tw17569606968250427049:=0
def tw17798841850904007590:=0
def tw2672067094135510338:=0
def tw17590874412189701881:=0
def tw15513131321759324322:=0
def tw7288424388568323640:=0
def tw11772049816244038826:=0
def tw17722951992531091465:=0
def tw11227564854760618370:=0
def tw11632353974515115093:=0
def tw7057454236394488579:=0
def tw6335112314102624901:=0
def tw16389005945313968811:=0
def tw14652669727672282262:=0
def tw2959740489273026928:=0
def tw6504999672102183842:=0
def tw2516061942895263888:=0
def tw16897251307416790242:=0
def tw13388806052481076906:=0
def tw12338248323409318530:=0
def tw2896915361013874930:=0
def tw16670955398674214686:=0
def tw6086571534582546086:=0
def tw2986800921482300574:=0
def tw2029423087690239696:=0
def tw11618083476642677013:=0
def tw16628818353584016353:=0
def tw9429481921132228506:=0
def tw9365590437335240862:=0
def tw12340986798453221722:=0
def tw8273192824461867280:=0
def tw18002287449002954996:=0
def tw1993175450402517267:=0
def tw13547811541560601155:=0
def tw5708494888905809263:=0
def tw4074678943698375960:=0
def tw9274721384922185162:=0
def tw9638619743551521215:=0
def tw14752990537959041135:=0
def tw7688921608629123145:=0
def tw3947362717546773691:=0
def tw4916113430698781238:=0
def tw6855767169116779509:=0
def tw11760429148423449791:=0
def tw13818614126809146362:=0
def tw1427875068685021261:=0
def tw17026276433369464562:=0
def tw6265248627968644555:=0
def tw10733396143681118440:=0
def tw18428994962002818073:=0
def tw1939641319572839893:=0
def tw15725781674904224600:=0
def tw15951409837529257895:=0
def tw600873161990192421:=0
def tw1969266950949104888:=0
def tw13136579379923752804:=0
def tw7068680359881818629:=0
def tw10190437217849093041:=0
def tw552903745952108030:=0
def tw17927176710501726233:=0
def tw18343456740698351122:=0
def tw5958118373243562075:=0
def tw15691214728374035090:=0
def tw15666273992538985677:=0
def tw10207382411713375124:=0
def tw12692110973303471108:=0
def tw4838460672060809828:=0
def tw14579062763913106278:=0
def tw1714345878546797291:=0
def tw987422778093796965:=0
def tw6319644909028717891:=0
def tw12179748315751148638:=0
def tw7183513180107005871:=0
def tw4907106131732780977:=0
def tw8083569490908929499:=0
def tw725744912069600304:=0
def tw16806346686639986748:=0
def tw15941418515512743034:=0
def tw5973155127383603537:=0
def tw2706089440033799015:=0
def tw13078850989430401728:=0
def tw5810259105407880039:=0
def tw15347641834419324003:=0
def tw17322368624702442885:=0
def tw190584793067617525:=0
def tw5944085694958798913:=0
def tw9825470726039696167:=0
def tw12888787711655784657:=0
def tw4356557319049310968:=0
def tw18234014707218141582:=0
def tw15523905749446769935:=0
def tw18330431630206696265:=0
def tw4614193423661555511:=0
def tw1301908593557709208:=0
def tw2218607292180941027:=0
def tw9641583678434788683:=0
def tw12078423446850105153:=0
def tw13127754975645228460:=0
def tw13156114576181600936:=0
def tw15115243045443878116:=0
def tw15674311170033643490:=0
def tw16832166598571229297:=0
def tw17063425935935625446:=0
def tw17407211300869475553:=0
end PySem.W.Fast
open PySem PySem.W PyProof.Rows
set_option maxRecDepth 100000 in
theorem PySem.Challenge.cw_stakebodies_k21_edges_by_planes_holds : PySem.Challenge.rw_stakebodies_k21_edges_by_planes.Holds := by
 w_on;o_law;k_head;(case hw=>w_witness2)
 k_fill
 letI tabs9:DL.Tabs:=⟨[(169,K21.tbK)]⟩
 refine DL.RW (l:=PySem.Challenge.rw_stakebodies_k21_edges_by_planes) (k:=11) rfl rfl ⟨rfl,by decide,by decide⟩ (λw h Y=>⟨PySem.W.km_in_of Y,PySem.W.km_tabs_of Y⟩) (DL.US (c:=173) (by k_mem) (λw=>by kernel_rfl)) (aAF.mpr ⟨aAE,aDm⟩) (λw=>by kernel_rfl) ?F
 case F=>
  intro w mg fa h KX G hmg;refine' K21.all_mk KX G hmg ?_ ?_ ?_ ?_ ?_ ?_ ?_ ?_ ?_ ?_ ?_ ?_ ?_ ?_ ?_ ?_ ?_ ?_ ?_ ?_ ?_ ?_ ?_ ?_ ?_ ?_ ?_ ?_ ?_ ?_ ?_ ?_ ?_ ?a33 ?l33 ?e33 ?k33 ?z_abs ?z_len ?z_any ?z_min ?z_list ?z_reversed ?z_zip ?z_sorted ?z_set ?z_max ?z_range ?z_tuple ?z_enumerate ?z_isinstance ?ca_NO_WAY ?cl_NO_WAY (aBh.mpr rfl) K21.truth
  all_goals first|(refine' DL.ZO ?a ?l ?c ?k;(case a=>k_is);(case l=>k_is);(case c=>k_is);(case k=>k_is))|(refine' DL.RZ ?a ?l ?c ?k rfl ?n;(case a=>k_is);(case l=>k_is);(case c=>k_is);(case k=>k_is);(case n=>kernel_rfl))|k_is|skip
end
