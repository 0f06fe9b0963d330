import PyProof.Rows.All
import Wide.All
import OpenK.AllK
import Wide.FinOn
import Lean
import PyProof.EqAt
import PyProof.EqKinds
import PyProof.TupleCall
import PyProof.NeKinds
import KE.RegKIsAll
import PyProof.ExcClass3
import PySem.SetTable
import PySem.Value
import PyProof.Rows.SortShellK
import OpenK.KOwn
import KE.KNestM
import PyProof.Rows.StrWeight2
import KE.KRevSl
import PyProof.CollectIter
import PyProof.SetKind
import PyProof.Walks
import PyProof.ForAny
import PyProof.FactsAll.set_1
import PyProof.FactsAll.set_2
import PyProof.ZipIter
import KE.KRevIter
import PyProof.ListNew
import PyProof.ConsumeS
import KE.KIsAll
import PyProof.DictWalks
import KE.KDictList
import PyProof.WalksMore
import PySem.Challenge.RW_stakebodies_k51_folds
set_option Elab.async false
set_option linter.all false
set_option backward.eqns.nonrecursive false
set_option maxRecDepth 100000
set_option maxHeartbeats 4000000
theorem ji{c:Prop}{h:Decidable c}(k:c){α:Sort _}{t e:α}:ite c t e=t:=if_pos k
theorem jn{c:Prop}{h:Decidable c}(k:¬c){α:Sort _}{t e:α}:ite c t e=e:=if_neg k
theorem jr{α:Sort _}{β:Sort _}{a b:α}(f:α->β)(h:a=b):f a=f b:=congrArg f h
abbrev ka:=PySem.W.Frag
abbrev kb:PySem.Str:="__debug__"
abbrev kc:PySem.Str:="__classdict__"
open PySem renaming Value → af, starEach → a5, Shared → a9, wpAny → bb, Addr → bc, model → bo, mainGlobals → bt, Program → bu, Around → cf, World → cp, Heap → cq, Expr → cu, backTo → cv, Stmt → dm, bootBuiltins → dq, eval → dz, cLine → dA, FuncData → dC, cellsFrom → dV, swapsWith → et, compareOp → eQ, assignEach → eR, binaryOp → eY, NameKind → e9, rawInt → fb, SetTable → fh, codeAmong → fo, foldedSetIterable → f6, codeAny → f7, argBest → gs, pyNext → gv, IsPair → gA, assignInOrder → gB, swapsWithSole → gC, swappedStores → gW, bindName → hE, behindInMarks → hF, attributeBase → hV, sliceBounds → h9, Scope → ik, assign → il, updateSeq → iu, holding → i3, pickOrder → jd, Model → je, wpAny_bind → aAa, wpAny_pure → aAb, wpAny_Call_Name_kw → aAK, wpAny_holding → aAP, wpAny_newObj_type → aBo, wpAny_call_entry → aBy, wpAny_specialOf → aBz, wpAny_truthy_bool → aBD, codeAny_builtin → aBI, wpAny_mono → aBP, wpAny_seqItems → aBR, plainId_quiet → aCa, wpAny_setField_rec → aCb, wpAny_updateSeq → aCd, wpAny_setState_of → aCk, builtinLookup_eq_fast → aCu, wpAny_forIn_list → aCx, wpAny_callSpecial?_slot → aCA, wpAny_field → aCT, wpAny_passesOwn → aCW, wpAny_execs_cons → aDf, wpAny_rule → aDi, wpAny_nextOf_list_item → aDk, wpAny_callSpecialIfBoundUnlessNone?_slot → aDo, codeAny_mono → aDt, typeLookup_type → aDv, wpAny_pyIter_list → aDx, wpAny_isInstance → aDG, wpAny_typeOf → aDI, wpAny_execs_nil → aDO, wpAny_standAt → aDP, wpAny_letGo → aDZ, wpAny_bindName → aEa, wpAny_isTrue_Compare1 → aEk, codeAny_call_builtin → aEr, wpAny_attempt → aEs, wpAny_loadPart' → aEy, pushCells_keeps → aEz, wpAny_setEntries_of → aEB, slot_dict_contains → aEV, isSubtype_type → aEX, wpAny_tryCatch → aEZ, wpAny_Assign_Name → aFh, wpAny_pyIter_slot → aFk, wpAny_loadPart_at → aFl, sizeLine_eq → aFm, noFill_tuple_add → aFs, beq_builtin_none → aFu, wpAny_askSetting → aFv, concat_meets → aFF, wpAny_call → aFH, wpAny_newTuple → aFS, wpAny_Expr_any → aFT
open PySem.Heap renaming get?_push_of_some → aAc, lt_size → aAf, get?_push_size → aAr, get?_update_other → aAD, get?_update_self → aBs, size_push → aBE, get?_none_of_le → aEq
open List renaming mem_cons → aAd, mem_cons_of_mem → aAe, getElem?_eq_getElem → aAg, length_map → aAj, mem_of_getElem? → aAm, mem_map → aAo, size_toArray → aAp, getD_eq_getElem?_getD → aAq, map_cons → aAt, length_cons → aAu, set_cons_zero → aAx, pairwise_cons → aAy, getElem?_append_right → aAz, set_cons_succ → aAA, getElem?_eq_some_iff → aAB, mem_append_right → aAE, length_append → aAF, not_mem_nil → aAG, cons_append → aAI, reverse_cons → aAL, getElem?_map → aAM, mem_append → aAQ, nodup_cons → aAR, getElem?_append_left → aAS, mem_map_of_mem → aAX, length_nil → aAY, mem_singleton → aBb, lookup_cons → aBc, getLast?_cons_cons → aBf, mem_cons_self → aBg, getElem_of_mem → aBh, getElem?_set_self → aBj, dropLast_concat → aBk, mem_reverse → aBn, getElem?_replicate → aBu, replicate_succ → aBv, replicate_zero → aBw, mem_flatMap → aBx, nil_append → aBA, pairwise_map → aBB, getElem?_zip_eq_some → aBC, mem_append_left → aBF, append_nil → aBG, lookup_cons_self → aBH, map_append → aBJ, range → aBK, mem_filterMap → aBM, mem_filter → aBQ, length_take → aBT, all_eq_true → aBU, mem_iff_getElem? → aBW, zip_cons_cons → aBY, map_nil → aCe, getElem_mem → aCf, nodup_iff_pairwise_ne → aCg, filterMap_cons → aCj, length_reverse → aCm, pairwise_iff_getElem → aCo, getElem?_eq_none_iff → aCq, map_map → aCr, length_replicate → aCt, getElem?_set_ne → aCy, mem_range → aCE, nodup_append → aCH, getElem?_toArray → aCQ, replicate → aCR, mem_of_getLast? → aCU, forIn_cons → aCZ, getElem?_cons_zero → aDc, any_eq_true → aDe, nodup_nil → aDh, filterMap_map → aDl, map → aDn, perm_ext_iff_of_nodup → aDz, drop_eq_getElem_cons → aDC, length_drop → aDF, filter_sublist → aDH, pairwise_singleton → aDK, of_mem_zip → aDL, sum_cons → aDM, set → aDW, length_pos_of_mem → aDX, append_assoc → aDY, forIn_nil → aEb, pairwise_reverse → aEd, dropLast_eq_take → aEj, zipIdx_cons → aEn, getElem_map → aEo, map_congr_left → aEv, foldl_cons → aEx, zipIdx_nil → aEA, length_pos_iff → aEE, exists_cons_of_ne_nil → aEG, head?_reverse → aEM, getLast?_cons → aEN, exists_mem_of_ne_nil → aEW, length_erase_of_mem → aFb, ext_getElem? → aFe, eraseIdx_cons_succ → aFn, getElem?_cons_succ → aFo, map_reverse → aFt, range_succ_eq_map → aFy, take_append_drop → aFB, mem_erase_of_ne → aFJ, mem_of_mem_drop → aFK, length_dropLast → aFN, drop_zero → aFV, all_cons → aGd
open Nat renaming le_refl → aAh, ne_of_lt → aAk, lt_of_lt_of_le → aAs, le_trans → aAw, zero_le → aBe, lt_irrefl → aBl, lt_succ_of_lt → aBq, lt_of_le_of_lt → aBN, reduceAdd → aCC, reduceSub → aCD, le_of_succ_le → aCI, le_of_lt → aDb, lt_succ_self → aDg, lt_or_eq_of_le → aDm, zero_add → aDr, ne_of_gt → aDs, mul_le_mul → aEc, le_of_eq → aEi, le_of_not_lt → aEm, lt_or_gt_of_ne → aER, mod_lt → aFd, le_of_lt_succ → aFf, gcd_dvd_left → aFr, le_add_right → aFw, not_lt_zero → aFD, lt_trans → aGm, succ_pos → aGn
open False renaming elim → aAi
open Option.some renaming inj → aAl, injEq → aGi
open Bool renaming false_eq_true → aAn, and_eq_true → aAJ, false_ne_true → aAV, not_true → aCz, eq_iff_iff → aDR, and_eq_true_iff → aFR, and_false → aFU
open Int renaming mul_eq_zero → aAv, mul_le_mul_of_nonneg_left → aAO, le_of_lt → aAT, mul_le_mul_of_nonneg_right → aAU, mul_pos → aBa, mul_neg_of_pos_of_neg → aBi, mul_nonneg → aBX, toNat_natCast → aCl, eq_of_mul_eq_mul_left → aCn, le_refl → aCJ, neg_mul_neg → aDp, lt_or_le → aDq, mul_nonpos_of_nonneg_of_nonpos → aDJ, gcd → aDT, mul_comm → aEe, mul_zero → aEf, mul_ediv_cancel' → aEp, toNat → aEC, neg_ediv_of_dvd → aEF, mul_lt_mul_of_pos_left → aEH, le_of_mul_le_mul_right → aEI, fdiv_eq_ediv_of_nonneg → aEL, natAbs_eq_zero → aEO, ofNat_dvd_left → aEP, neg_nonneg_of_nonpos → aFa, mul_assoc → aGa
open Array renaming getElem?_toList → aAC, getElem?_eq_getElem → aAH, length_toList → aBd, getElem?_eq_some_iff → aCh, forIn_toList → aCw, getElem?_eq_none → aCN, replicate → aEw, perm_iff_toList_perm → aEJ, getD → aFc, toList → aFE, getElem_toList → aFQ, toList_append → aFZ
open PySem.Builtin.Tuple renaming tupleHashOf → aAN, tupleExact → aCX, tupleItemsOf → aDA
open PySem.Builtin.Int renaming intBits → aAW
open PySem.PassesOwn renaming never → aAZ
open PySem.Around renaming under_plainId → aBm, frames_deeper → aFL
open PyProof.Rows renaming callWith_type1 → aBp, callWith_builtin1 → aBr, wpS_bind → aBt, wpS_pure → aCp, slot_tuple_getitem → aCF, envOfC → aCL, assignInOrder_cons → aCP, wpS_forRange → aEg, listItems_at → aEh, fdiv_fmod_facts → aEt, pairsOf_size → aES, assignInOrder_nil → aFg, KK_mirror_equal → aFC, mirror_perm → aFW, wpS_reverse → aFX
open Or renaming inr → aBL, inl → aCG
open PySem.Obj renaming mapSeq → aBO, putSet → aEu
open PySem.Builtin.SmallTypes renaming nextOf → aBS, ownedTupleIsFree → aBV, ownedTupleHandOut → aDE
open PySem.NameKind renaming cell → aBZ
open PySem.Builtin.List renaming listExtendWith → aCc, listLengthHint → aCK, listItems → aCM, listTooLong → aCY, listSameRef → aDa, listTouch → aFA
open Ne renaming symm → aCi
open ForInStep renaming yield → aCs
open PySem.Value renaming type → aCv, ref → aCV, bool → aDw, builtin → aDy, int → aGr
open PySem.Builtin.Range renaming rangeSize → aCB, small → aFY
open PySem.F renaming plain_min_loop → aCO, plain_extend_loop → aDd, slot_zip_next → aDV, entry_min_loop → aFx
open PySem.Builtin.Slice renaming slicePlaces → aCS, sliceAdjust → aDB, sliceApplied → aEK
open Option renaming map_eq_some_iff → aDj, isSome_iff_exists → aFj
open PySem.Str renaming ofString → aDu
open PySem.SetTable renaming below → aDD, bits → aDN, fits → aGe, insertAt → aGl, tooFull → aGp
open PySem.Calls renaming spliced_cons → aDQ, spliced_nil → aFi, callWith_builtin → aFz, evalArgs_plain → aFM
open PySem.SeqAt.EqAt renaming same → aDS, int_int → aET, of_refs → aEU, int_tuple → aFO, tuple_int → aFP, int_str → aGb, str_int → aGc
open Classical renaming propDecidable → aDU, byContradiction → aEY
open PySem.Builtin.Builtins renaming bindParams → aED
open Prod renaming ext → aEQ
open PySem.Moved renaming trans → aFp
open PySem.Builtin.Frozenset renaming slot0 → aFq
open List.cons renaming injEq → aFG
open List.Pairwise renaming filter → aFI, nil → aGf
open Sum renaming inl → aGg, inr → aGh
open True renaming intro → aGj
open PySem.Heap.SameBut renaming refl → aGk
open PySem.pickOrder renaming go → aGo
open Array.Perm renaming refl → aGq
abbrev C7:=PySem.Value->PySem.Shared->Prop
abbrev N9:=List (PySem.Addr×PySem.Obj)
abbrev Y1:=PySem.Str->Option PySem.Value
abbrev xG:=Bool->PySem.Shared->Prop
noncomputable section
namespace G
structure V where
 x:Int
 y:Int
 z:Int
deriving DecidableEq
instance:Add V:=⟨λu v=>⟨u.x+v.x,u.y+v.y,u.z+v.z⟩⟩
instance:Sub V:=⟨λu v=>⟨u.x-v.x,u.y-v.y,u.z-v.z⟩⟩
instance:Neg V:=⟨λu=>⟨-u.x,-u.y,-u.z⟩⟩
instance:HMul Int V V:=⟨λk u=>⟨k*u.x,k*u.y,k*u.z⟩⟩
instance:OfNat V 0:=⟨⟨0,0,0⟩⟩
@[simp]def a3v (u v:V):(u+v).x=u.x+v.x:=rfl
@[simp]def a3r (u v:V):(u+v).y=u.y+v.y:=rfl
@[simp]def a3y (u v:V):(u+v).z=u.z+v.z:=rfl
@[simp]def XC (u v:V):(u-v).x=u.x-v.x:=rfl
@[simp]def XU (u v:V):(u-v).y=u.y-v.y:=rfl
@[simp]def YC (u v:V):(u-v).z=u.z-v.z:=rfl
@[simp]def XO (u:V):(-u).x=-u.x:=rfl
@[simp]def XM (u:V):(-u).y=-u.y:=rfl
@[simp]def YN (u:V):(-u).z=-u.z:=rfl
@[simp]def LY (k:Int)(u:V):(k*u).x=k*u.x:=rfl
@[simp]def RN (k:Int)(u:V):(k*u).y=k*u.y:=rfl
@[simp]def PJ (k:Int)(u:V):(k*u).z=k*u.z:=rfl
@[simp]def W3:(0:V).x=0:=rfl
@[simp]def V4:(0:V).y=0:=rfl
@[simp]def W2:(0:V).z=0:=rfl
def ext {u v:V}(a:u.x=v.x)(b:u.y=v.y)(c:u.z=v.z):u=v:=by cases u;cases v;simp_all
def qO {u v:V}:u=v↔u.x=v.x/\u.y=v.y/\u.z=v.z:=⟨λh=>by subst h;exact⟨rfl,rfl,rfl⟩,λ⟨a,b,c⟩=>ext a b c⟩
def d6 (u v:V):Int:=u.x*v.x+u.y*v.y+u.z*v.z
def cr (u v:V):V:=⟨u.y*v.z-u.z*v.y,u.z*v.x-u.x*v.z,u.x*v.y-u.y*v.x⟩
def i8 (a u v:V):Int:=d6 a (cr u v)
@[simp]def VG (u v:V):(cr u v).x=u.y*v.z-u.z*v.y:=rfl
@[simp]def UO (u v:V):(cr u v).y=u.z*v.x-u.x*v.z:=rfl
@[simp]def TY (u v:V):(cr u v).z=u.x*v.y-u.y*v.x:=rfl
def BF (a u v w:V):i8 a u v*w+i8 a v w*u+i8 a w u*v=i8 u v w*a:=by apply ext<;>simp[i8,d6]<;>grind
def MX (f a u v w:V):i8 a u v*d6 f w+i8 a v w*d6 f u+i8 a w u*d6 f v=i8 u v w*d6 f a:=by simp[i8,d6];grind
def j7 (a u v:V):i8 a v u=-i8 a u v:=by simp[i8,d6];grind
def B9 (a u:V):i8 a u u=0:=by simp[i8,d6];grind
def aF (a u v w:V):i8 a (u+v) w=i8 a u w+i8 a v w:=by simp[i8,d6];grind
def aH (a u v w:V):i8 a u (v+w)=i8 a u v+i8 a u w:=by simp[i8,d6];grind
def MT (a u v w:V):i8 a u (v-w)=i8 a u v-i8 a u w:=by simp[i8,d6];grind
def zZ (a:V)(k:Int)(u v:V):i8 a u (k*v)=k*i8 a u v:=by simp[i8,d6];grind
def dJ (u v:V):d6 u v=d6 v u:=by simp[d6];grind
def bJ (f u v:V):d6 f (u+v)=d6 f u+d6 f v:=by simp[d6];grind
def f8 (f u v:V):d6 f (u-v)=d6 f u-d6 f v:=by simp[d6];grind
def u5 (f:V)(k:Int)(v:V):d6 f (k*v)=k*d6 f v:=by simp[d6];grind
def G3 (f:V)(k:Int)(v:V):d6 (k*f) v=k*d6 f v:=by simp[d6];grind
def M6 (f:V):d6 f 0=0:=by simp[d6]
def U3 (a u v:V):d6 (cr a u) v=i8 a u v:=by simp[i8,d6];grind
def y7 {u:V}(h:u≠0):0<d6 u u:=by
 have f:u.x≠0\/u.y≠0\/u.z≠0:=by
  by_cases a:u.x=0
  .by_cases b:u.y=0
   .by_cases c:u.z=0
    .exact absurd (ext a b c) h
    .exact .inr (.inr c)
   .exact .inr (.inl b)
  .exact .inl a
 have e:∀t:Int,0<=t*t:=λt=>by
  rcases Int.le_total 0 t with q|q
  .exact aBX q q
  .have:=aBX (aFa q) (aFa q);rwa [aDp]at this
 have d:∀t:Int,t≠0->0<t*t:=λt g=>by
  have:=e t;have:t*t≠0:=λz=>by rcases aAv.mp z with q|q<;>exact g q
  omega
 have a:=e u.x;have b:=e u.y;have c:=e u.z;unfold d6;rcases f with q|q|q
 .have:=d _ q;omega
 .have:=d _ q;omega
 .have:=d _ q;omega
def x5 (h:n≠0)(a:d6 n u=0)(b:d6 n v=0)(c:d6 n w=0):i8 u v w=0:=by
 have e:i8 u v w*d6 n n=0:=by have:=MX n n u v w;rw[a,b,c]at this;simp at this;omega
 rcases aAv.mp e with q|q
 .exact q
 .have:=y7 h;omega
def u8 (v:V):(0:Int)*v=0:=ext (by simp) (by simp) (by simp)
def oE (v:V):v+0=v:=ext (by simp) (by simp) (by simp)
def gN (v:V):0+v=v:=ext (by simp) (by simp) (by simp)
structure Cone (Pos:V->Prop):Prop where
 add:∀{u v},Pos u->Pos v->Pos (u+v)
 mul:∀{k:Int} {u},0<k->Pos u->Pos (k*u)
 irr:¬Pos 0
section
variable{Pos:V->Prop} (C:Cone Pos)
include C
theorem Cone.comb {p q:Int}{u w:V}(a:0<p)(d:0<=q)(b:Pos w)(c:Pos u):Pos (p*w+q*u):=by
 by_cases h:q=0
 .subst h;rw[u8,oE];exact C.mul a b
 .exact C.add (C.mul a b) (C.mul (by lia) c)
theorem Cone.sgn {k:Int}{v:V}(b:Pos v)(h:Pos (k*v)):0<k:=by
 by_cases c:0<k
 .exact c
 .exfalso;by_cases d:k=0
  .subst d;rw[u8]at h;exact C.irr h
  .have a:=C.add h (C.mul (k:=-k) (by lia) b);have e:k*v+-k*v=0:=ext (by simp;grind) (by simp;grind) (by simp;grind);rw[e]at a;exact C.irr a
theorem Cone.tr {a u v w:V}(b:Pos u)(c:Pos v)(d:Pos w)(f:i8 u v w=0)(g:0<i8 a u v)(i:0<=i8 a v w):0<i8 a u w:=by
 refine C.sgn c (k:=i8 a u w) ?_;have e:i8 a u w*v=i8 a u v*w+i8 a v w*u:=by have h:=BF a u v w;rw[f,u8,j7 a u w]at h;have j:=jr V.x h;have l:=jr V.y h;have m:=jr V.z h;simp at j l m;exact ext (by simp;grind) (by simp;grind) (by simp;grind)
 rw[e];exact C.comb g i d b
theorem Cone.tr' {a u v w:V}(b:Pos u)(c:Pos v)(d:Pos w)(f:i8 u v w=0)(g:0<=i8 a u v)(i:0<i8 a v w):0<i8 a u w:=by
 refine C.sgn c (k:=i8 a u w) ?_;have e:i8 a u w*v=i8 a v w*u+i8 a u v*w:=by have h:=BF a u v w;rw[f,u8,j7 a u w]at h;have j:=jr V.x h;have l:=jr V.y h;have m:=jr V.z h;simp at j l m;exact ext (by simp;grind) (by simp;grind) (by simp;grind)
 rw[e];exact C.comb i g b d
end
structure ConeM (a:V)(Pos:V->Prop):Prop extends Cone Pos where
 inv:∀{u} (k:Int),Pos u->Pos (u+k*a)
def ConeM.tr {a:V}{Pos:V->Prop}(C:ConeM a Pos){u v w:V}(b:Pos u)(c:Pos v)(d:Pos w)(f:0<i8 a u v)(g:0<=i8 a v w):0<i8 a u w:=by
 refine C.sgn c (k:=i8 a u w) ?_;have e:i8 a u w*v=(i8 a u v*w+i8 a v w*u)+(-i8 u v w)*a:=by have h:=BF a u v w;rw[j7 a u w]at h;have i:=jr V.x h;have j:=jr V.y h;have l:=jr V.z h;simp at i j l;exact ext (by simp;grind) (by simp;grind) (by simp;grind)
 rw[e];exact C.inv _ (C.comb f g d b)
def i4 (w:V):Prop:=0<w.x\/(w.x=0/\(0<w.y\/(w.y=0/\0<w.z)))
instance(w:V):Decidable (i4 w):=inferInstanceAs (Decidable<|_\/_)
def y6:Cone i4 where
 add:=λ{u v} d e=>by unfold i4 at*;simp;lia
 mul:=λ{k u} a h=>by
  unfold i4 at*
  simp;rcases h with h|⟨h,b|⟨b,c⟩⟩
  .exact .inl (aBa a h)
  .exact .inr ⟨by rw[h];simp,.inl (aBa a b)⟩
  .exact .inr ⟨by rw[h];simp,.inr ⟨by rw[b];simp,aBa a c⟩⟩
 irr:=by unfold i4;simp
def N3 (w:V):Prop:=i4 (-w)
def CO:-(0:V)=0:=rfl
def aK:Cone N3 where
 add:=λ{u v} a b=>by have e:-(u+v)=-u+-v:=ext (by simp;lia) (by simp;lia) (by simp;lia);unfold N3 at*;rw[e];exact y6.add a b
 mul:=λ{k u} c h=>by have e:-(k*u)=k*(-u):=ext (by simp;grind) (by simp;grind) (by simp;grind);unfold N3 at*;rw[e];exact y6.mul c h
 irr:=by unfold N3;rw[CO];exact y6.irr
def VW (w:V):i4 w\/w=0\/N3 w:=by
 unfold N3 i4;rw[qO];simp
 lia
def w9 (v:V):v-v=0:=ext (by simp) (by simp) (by simp)
def fB (a u:V):i8 a u 0=0:=by simp[i8,d6]
def K5 (a u v:V):i8 a u (-v)=-i8 a u v:=by simp[i8,d6];grind
def aS (a u v:V):i8 a (-u) v=-i8 a u v:=by simp[i8,d6];grind
structure Row (n:V)(Pos:V->Prop)(T:V->Prop):Prop where
 cone:Cone Pos
 nz:n≠0
 pl:∀X Y,T X->T Y->d6 n (X-Y)=0
 tot:∀X Y,T X->T Y->X=Y\/Pos (X-Y)\/Pos (Y-X)
def Lft (n:V)(Pos:V->Prop)(a b X:V):Prop:=0<=i8 n (b-a) (X-a)/\(i8 n (b-a) (X-a)=0->(X=a\/Pos (X-a))/\(X=b\/Pos (b-X)))
def turn (n P Q R:V):Int:=i8 n (Q-P) (R-Q)
def X5 (n P:V):List V->List V
 |b::a::r=>if turn n a b P<=0 then X5 n P (a::r)else b::a::r
 |r=>r
def w4 (n:V)(ps:List V):List V:=ps.foldl (λc P=>P::X5 n P c) []
def F3:List V->List (V×V)
 |b::a::r=>(a,b)::F3 (a::r)
 |_=>[]
def tQ (n:V):List V->Prop
 |b::a::c::r=>0<i8 n (a-c) (b-a)/\tQ n (a::c::r)
 |_=>True
def tQ.tail (h:tQ n (b::r)):tQ n r:=by
 match r,h with
 |[],_=>trivial
 |[_],_=>trivial
 |_::_::_,h=>exact h.2
def P4 (h:e∈F3 r):e∈F3 (b::r):=by
 match r,h with
 |a::r,h=>exact aAe _ h
section
variable{n:V} {Pos:V->Prop} {T:V->Prop} (F:Row n Pos T)
include F
structure ChOk (n:V)(Pos:V->Prop)(done:V->Prop)(c:List V):Prop where
 mem:∀X∈c,done X
 ed:∀e∈F3 c,Pos (e.2-e.1)/\∀X,done X->Lft n Pos e.1 e.2 X
 bend:tQ n c
 last:∀X,done X->∀z,c.getLast?=some z->X=z\/Pos (X-z)
theorem Row.ac9 {done:V->Prop}(f:∀X,done X->T X)(m:Pos x)(o:d6 n x=0):∀(c:List V),(∀X∈c,done X)->(∀e∈F3 c,Pos (e.2-e.1))->tQ n c->(∀b a r,c=b::a::r->0<i8 n (b-a) x)->∀e∈F3 c,0<i8 n (e.2-e.1) x
 |[],_,_,_,_,e,d=>by cases d
 |[_],_,_,_,_,e,d=>by cases d
 |[b,a],_,_,_,h,e,d=>by simp[F3]at d;subst d;exact h b a [] rfl
 |b::a::p::r,g,j,s,h,e,d=>by
  have i:=h b a _ rfl;rcases aAd.mp d with q|q
  .subst q;exact i
  .refine Row.ac9 f m o (a::p::r) (λX t=>g X (aAe _ t)) (λe d=>j e (P4 d)) s.tail ?_ e q;intro w y z k;injection k with k l;injection l with l A;subst k l;have u:=j (p,a) (P4 (by simp[F3]));have v:=j (a,b) (by simp[F3]);exact F.cone.tr u v m (x5 F.nz (F.pl _ _ (f _ (g _ (by simp))) (f _ (g _ (by simp)))) (F.pl _ _ (f _ (g _ (by simp))) (f _ (g _ (by simp)))) o) s.1 (aAT i)
theorem Row.weak (c:Pos u)(a:Pos v)(d:Pos w)(j:d6 n u=0)(k:d6 n v=0)(l:d6 n w=0)(m:0<=i8 n u v)(o:0<=i8 n v w):0<=i8 n u w:=by
 have b:=x5 F.nz j k l;by_cases p:0<i8 n u v
 .exact aAT (F.cone.tr c a d b p o)
 .by_cases q:0<i8 n v w
  .exact aAT (F.cone.tr' c a d b m q)
  .have r:i8 n u v=0:=by lia
   have s:i8 n v w=0:=by lia
   have h:=BF n u v w;rw[r,s,b,u8,u8,u8,gN,gN]at h;by_cases z:i8 n w u=0
   .rw[j7];lia
   .exfalso;have e:v=0:=by have f:=jr V.x h;have g:=jr V.y h;have i:=jr V.z h;simp at f g i;exact ext ((aAv.mp f).resolve_left z) ((aAv.mp g).resolve_left z) ((aAv.mp i).resolve_left z)
    rw[e]at a;exact F.cone.irr a
theorem Row.ad5 {done:V->Prop}(hd:∀X,done X->T X)(v:T P)(m:∀X,done X->Pos (P-X)):∀(c:List V),ChOk n Pos done c->c≠[]->
  (∀X q,c.head?=some q->done X->(X=q\/Pos (X-q))->0<=i8 n (P-q) (X-q))->
  ∃q r,X5 n P c=q::r/\ChOk n Pos done (q::r)/\(∀X,done X->(X=q\/Pos (X-q))->0<=i8 n (P-q) (X-q))/\∀a w,r=a::w->0<turn n a q P
 |[],_,h,_=>absurd rfl h
 |[b],ok,_,o=>⟨b,[],rfl,ok,λX d h=>o X b rfl d h,λa w e=>by cases e⟩
 |b::a::r,ok,_,o=>by
  by_cases A:turn n a b P<=0
  .have e:X5 n P (b::a::r)=X5 n P (a::r):=by rw[X5,ji A]
   rw[e];have i:=ok.mem b (by simp);have s:=ok.mem a (by simp);have O:=ok.ed (a,b) (by simp[F3]);refine Row.ad5 hd v m (a::r) ⟨λX d=>ok.mem X (aAe _ d),λe he=>ok.ed e (P4 he),ok.bend.tail,λX d z t=>ok.last X d z (by rw[aBf];exact t)⟩ (by simp) ?_;intro X q hq d B;have C:a=q:=aAl hq;subst C;have hu:Pos (b-a):=O.1;have hp:Pos (P-b):=m b i;have Q:Pos (P-a):=m a s;have U:d6 n (b-a)=0:=F.pl _ _ (hd _ i) (hd _ s);have pp:d6 n (P-b)=0:=F.pl _ _ v (hd _ i);have E:d6 n (P-a)=0:=F.pl _ _ v (hd _ s);unfold turn at A;have H:0<=i8 n (P-b) (b-a):=by rw[j7];lia
   rcases F.tot X b (hd X d) (hd b i)with z|z|z
   .
    subst z;have f:P-a=(P-X)+(X-a):=ext (by simp;lia) (by simp;lia) (by simp;lia);rw[f,aF,B9];lia
   .
    have I:=o X b rfl d (.inr z);have px:d6 n (X-b)=0:=F.pl _ _ (hd _ d) (hd _ i);have j:Pos (P-X):=m X d;have J:i8 n (P-a) (X-a)*(P-b)=i8 n (P-b) (X-b)*(P-a)+i8 n (P-b) (b-a)*(P-X):=by
     have k:=BF n (b-a) (X-b) (P-b);rw[x5 F.nz U px pp,u8]at k;have f:P-a=(b-a)+(P-b):=ext (by simp;lia) (by simp;lia) (by simp;lia);have e2:X-a=(b-a)+(X-b):=ext (by simp;lia) (by simp;lia) (by simp;lia);have e3:P-X=(P-b)-(X-b):=ext (by simp;lia) (by simp;lia) (by simp;lia);rw[f,e2,e3];generalize b-a=u at*
     generalize X-b=x at*
     generalize P-b=p at*
     rw[aF,aH,aH,B9];have I:=jr V.x k;have Y:=jr V.y k;have t:=jr V.z k;rw[j7 n p x]at k I Y t;simp at I Y t;have s1:=j7 n p x;have s2:=j7 n p u;have s3:=j7 n u x;apply ext<;>simp<;>grind
    by_cases zz:0<=i8 n (P-a) (X-a)
    .exact zz
    .exfalso;have L:Pos ((-i8 n (P-a) (X-a))*(P-b)):=F.cone.mul (by lia) hp;have N:Pos (-i8 n (P-a) (X-a)*(P-b)+(i8 n (P-b) (X-b)*(P-a)+i8 n (P-b) (b-a)*(P-X))):=by
      by_cases y1:i8 n (P-b) (X-b)=0
      .rw[y1,u8,gN];by_cases y2:i8 n (P-b) (b-a)=0
       .rw[y2,u8,oE];exact L
       .exact F.cone.add L (F.cone.mul (by lia) j)
      .exact F.cone.add L (F.cone.comb (by lia) H Q j)
     rw[<-J]at N;have e0:-i8 n (P-a) (X-a)*(P-b)+i8 n (P-a) (X-a)*(P-b)=0:=by apply ext<;>simp<;>grind
     rw[e0]at N;exact F.cone.irr N
   .
    rcases B with g|g
    .subst g;rw[w9,fB];exact aCJ _
    .have hl:=(O.2 X d).1;have l:0<=i8 n (P-a) (b-a):=by have f:P-a=(P-b)+(b-a):=ext (by simp;lia) (by simp;lia) (by simp;lia);rw[f,aF,B9];lia
     exact F.weak Q hu g E U (F.pl _ _ (hd _ d)<|hd _ s) l hl
  .have e:X5 n P (b::a::r)=b::a::r:=by rw[X5,jn A]
   refine⟨b,a::r,e,ok,λX d h=>o X b rfl d h,λa' w e'=>?_⟩;injection e' with f _;subst f
   lia
theorem Row.push {done:V->Prop}(hd:∀X,done X->T X)(C:T P)(s:∀X,done X->Pos (P-X))(ok:ChOk n Pos done c)(I:c≠[])(J:∀X q,c.head?=some q->done X->X=q\/Pos (q-X)):
  ChOk n Pos (λX=>done X\/X=P) (P::X5 n P c):=by
 obtain⟨q,r,e,f,u,j⟩:=F.ad5 hd C s c ok I (λX q u d h=>by
  rcases h with h|h
  .subst h;rw[w9,fB];exact aCJ _
  .exfalso;rcases J X q u d with z|z
   .subst z;rw[w9]at h;exact F.cone.irr h
   .have:=F.cone.add h z;have v:X-q+(q-X)=0:=ext (by simp;lia) (by simp;lia) (by simp;lia);rw[v]at this;exact F.cone.irr this)
 rw[e];have l:=f.mem q (by simp);have i:Pos (P-q):=s q l;have m:d6 n (P-q)=0:=F.pl _ _ C (hd _ l);refine⟨λX d=>?_,λg w=>?_,?_,λX d z t=>?_⟩
 .rcases aAd.mp d with h|h
  .exact .inr h
  .exact .inl (f.mem X h)
 .rcases aAd.mp w with h|h
  .subst h;refine⟨i,λX d=>?_⟩;rcases d with d|d
   .rcases F.tot X q (hd _ d) (hd _ l)with z|z|z
    .subst z;exact⟨by rw[w9,fB];exact aCJ _,λ_=>⟨.inl rfl,.inr i⟩⟩
    .exact⟨u X d (.inr z),λ_=>⟨.inr z,.inr (s X d)⟩⟩
    .
     have:0<i8 n (P-q) (X-q):=by
      match r,j,f with
      |[],_,f=>
       rcases f.last X d q rfl with y|y
       .subst y;rw[w9]at z;exact absurd z F.cone.irr
       .exfalso;have:=F.cone.add y z;have v:X-q+(q-X)=0:=ext (by simp;lia) (by simp;lia) (by simp;lia);rw[v]at this;exact F.cone.irr this
      |a::o,j,f=>
       have x:=j a o rfl;unfold turn at x;have L:=f.mem a (by simp);have E:=f.ed (a,q) (by simp[F3]);have H:=(E.2 X d).1;have p:X-a=(q-a)-(q-X):=ext (by simp;lia) (by simp;lia) (by simp;lia);dsimp only at H;rw[p,MT,B9]at H;have N:0<=i8 n (q-X) (q-a):=by rw[j7];lia
       have:=F.cone.tr' (a:=n) z E.1 i (x5 F.nz (F.pl _ _ (hd _ l)<|hd _ d) (F.pl _ _ (hd _ l)<|hd _ L) m) N x;have A:X-q=-(q-X):=ext (by simp;lia) (by simp;lia) (by simp;lia);rw[A,K5,j7];lia
     exact⟨aAT this,λz=>by dsimp only at z;lia⟩
   .subst d;exact⟨by rw[B9];exact aCJ _,λ_=>⟨.inr i,.inl rfl⟩⟩
  .
   have k:=f.ed g h;refine⟨k.1,λX d=>?_⟩;rcases d with d|d
   .exact k.2 X d
   .subst d;have x:=F.ac9 hd i m (q::r) f.mem (λe w=>(f.ed e w).1) f.bend (λb a o O=>by injection O with p A;subst p;exact j a o A) g h
    have Q:=(k.2 q l).1;have:0<i8 n (g.2-g.1) (X-g.1):=by have p:X-g.1=(q-g.1)+(X-q):=ext (by simp;lia) (by simp;lia) (by simp;lia);rw[p,aH];lia
    exact⟨aAT this,λz=>by lia⟩
 .match r,j,f with
  |[],_,_=>trivial
  |a::o,j,f=>exact⟨j a o rfl,f.bend⟩
 .rcases d with d|d
  .exact f.last X d z (by rw[aBf]at t;exact t)
  .subst d;have B:(q::r).getLast?=some z:=by rw[aBf]at t;exact t
   exact .inr (s z<|f.mem z<|aCU B)
end
section
variable{n:V} {Pos:V->Prop} {T:V->Prop} (F:Row n Pos T)
include F
theorem ChOk.congr {done a:V->Prop}(ok:ChOk n Pos done c)(h:∀X,done X↔a X):ChOk n Pos a c:=
 ⟨λX b=>(h X).mp (ok.mem X b),λe d=>⟨(ok.ed e d).1,λX b=>(ok.ed e d).2 X ((h X).mpr b)⟩,ok.bend,λX b=>ok.last X ((h X).mpr b)⟩
theorem Row.fold:∀(rest:List V) (done:V->Prop) (c:List V),ChOk n Pos done c->c≠[]->(∀X q,c.head?=some q->done X->X=q\/Pos (q-X))->(∀X,done X->T X)->(∀X∈rest,T X)->
  (∀X Y,done X->Y∈rest->Pos (Y-X))->rest.Pairwise (λa b=>Pos (b-a))->
  ChOk n Pos (λX=>done X\/X∈rest) (rest.foldl (λc P=>P::X5 n P c) c)/\rest.foldl (λc P=>P::X5 n P c) c≠[]/\(∀X q,(rest.foldl (λc P=>P::X5 n P c) c).head?=some q->(done X\/X∈rest)->X=q\/Pos (q-X))
 |[],done,c,ok,h,i,j,k,g,m=>⟨ChOk.congr F ok λX=>by simp,h,λX q f d=>by
   rcases d with d|d
   .exact i X q f d
   .cases d⟩
 |P::rest,done,c,ok,h,i,j,k,g,m=>by
  have o:=k P (by simp);have s:=F.push j o (λX d=>g X P d (by simp)) ok h i;have p:=aAy.mp m;obtain⟨t,u,v⟩:=Row.fold rest (λX=>done X\/X=P) (P::X5 n P c) s (by simp) (λX q f d=>by
    have l:P=q:=aAl f;subst l;rcases d with d|d
    .exact .inr (g X P d (by simp))
    .exact .inl d) (λX d=>by
    rcases d with d|d
    .exact j X d
    .subst d;exact o) (λX d=>k X (aAe _ d)) (λX Y d r=>by
    rcases d with d|d
    .exact g X Y d (aAe _ r)
    .subst d;exact p.1 Y r) p.2
  have e:∀X,((done X\/X=P)\/X∈rest)↔(done X\/X∈P::rest):=λX=>by simp[or_assoc]
  exact⟨ChOk.congr F t e,u,λX q f d=>v X q f ((e X).mpr d)⟩
theorem Row.ad3 (j:ps≠[])(g:∀X∈ps,T X)(k:ps.Pairwise (λa b=>Pos (b-a))):
  ChOk n Pos (λX=>X∈ps) (w4 n ps)/\w4 n ps≠[]/\(∀X q,(w4 n ps).head?=some q->X∈ps->X=q\/Pos (q-X)):=by
 match ps,j with
 |p::rest,_=>
  have h:=aAy.mp k;have ok:ChOk n Pos (λX=>X=p) [p]:=⟨λX c=>by simpa using c,λe l=>by simp[F3]at l,trivial,λX c z i=>by simp at i;subst i;exact .inl c⟩
  obtain⟨m,o,r⟩:=F.fold rest (λX=>X=p) [p] ok (by simp) (λX q d c=>by have f:p=q:=aAl d;subst f;exact .inl c) (λX c=>by subst c;exact g _ (by simp)) (λX c=>g X (aAe _ c)) (λX Y c s=>by subst c;exact h.1 Y s) h.2
  have e:∀X,(X=p\/X∈rest)↔X∈p::rest:=λX=>by simp
  refine⟨ChOk.congr F m e,o,λX q d c=>r X q d ((e X).mpr c)⟩
end
def j8 (n:V)(a:List V):List V:=(w4 n a).reverse.dropLast++(w4 n a.reverse).reverse.dropLast
def t6:List V->List (V×V)
 |a::b::r=>(a,b)::t6 (b::r)
 |_=>[]
theorem mI:∀(l:List V) (a b:V),t6 (l++[a]++[b])=t6 (l++[a])++[(a,b)]
 |[],a,b=>rfl
 |[x],a,b=>rfl
 |x::y::l,a,b=>by have:=mI (y::l) a b;simp only[aAI,t6]at this⊢;rw[this]
theorem fU:∀c:List V,t6 c.reverse=(F3 c).reverse
 |[]=>rfl
 |[_]=>rfl
 |b::a::r=>by
  have d:=fU (a::r);rw[aAL,aAL]at*
  rw[mI,d,F3,aAL]
theorem lT:∀(l:List V) (a:V) (m:List V),t6 (l++a::m)=t6 (l++[a])++t6 (a::m)
 |[],a,m=>by cases m<;>rfl
 |[x],a,m=>rfl
 |x::y::l,a,m=>by have:=lT (y::l) a m;simp only[aAI,t6]at this⊢;rw[this]
def U7 (l:List V):List (V×V):=l.zip (l.tail++l.take 1)
theorem qH:∀(l:List V) (z:V),l.zip (l.tail++[z])=t6 (l++[z])
 |[],z=>rfl
 |[a],z=>rfl
 |a::b::r,z=>by have:=qH (b::r) z;simp only[List.tail_cons,aAI,t6,aBY]at this⊢;rw[this]
def V9:U7 (a::l)=t6 (a::l++[a]):=qH (a::l) a
def KR (i:w4 n a=M::c)(j:w4 n a.reverse=m::d)(g:(M::c).getLast?=some m)(k:(m::d).getLast?=some M)(l:c≠[]):
  U7 (j8 n a)=(F3 (w4 n a)).reverse++(F3 (w4 n a.reverse)).reverse:=by
 rw[<-fU,<-fU];unfold j8;rw[i,j,aAL,aAL,aBk,aBk];have b:∃e,c.reverse=m::e:=by
  have:c.getLast?=some m:=by
   match c,l with
   |x::c,_=>rw[aBf]at g;exact g
  rw[<-aEM]at this;match o:c.reverse,this with
  |x::r,this=>exact⟨r,by rw[show x=m from aAl this]⟩
 obtain⟨e,b⟩:=b;have f:∃h,d.reverse++[m]=M::h:=by
  have:(m::d).reverse.head?=some M:=by rw[aEM];exact k
  rw[aAL]at this;match o:d.reverse++[m],this with
  |x::r,this=>exact⟨r,by rw[show x=M from aAl this]⟩
 obtain⟨h,f⟩:=f;have p:c.reverse++d.reverse=m::(e++d.reverse):=by rw[b];rfl
 rw[p,V9];have q:m::(e++d.reverse)++[m]=c.reverse++(d.reverse++[m]):=by rw[b];simp
 rw[q,f,lT]
def p7 (a b:V):-(a-b)=b-a:=ext (by simp;lia) (by simp;lia) (by simp;lia)
def o9:N3 (a-b)↔i4 (b-a):=by unfold N3;rw[p7]
def J2 (h:i4 (a-a)):False:=by rw[w9]at h;exact y6.irr h
def x4 (h:i4 (a-b))(h':i4 (b-a)):False:=by have:=y6.add h h';have c:a-b+(b-a)=0:=ext (by simp;lia) (by simp;lia) (by simp;lia);rw[c]at this;exact y6.irr this
def Q3 (a b:V):a=b\/i4 (a-b)\/i4 (b-a):=by
 rcases VW (a-b)with h|h|h
 .exact .inr (.inl h)
 .refine .inl (ext ?_ ?_ ?_)
  .have:=jr V.x h;simp at this;lia
  .have:=jr V.y h;simp at this;lia
  .have:=jr V.z h;simp at this;lia
 .exact .inr (.inr (o9.mp h))
def Btw (P Q X:V):Prop:=(i4 (Q-P)->(X=P\/i4 (X-P))/\(X=Q\/i4 (Q-X)))/\(i4 (P-Q)->(X=P\/i4 (P-X))/\(X=Q\/i4 (X-Q)))
structure EdgeOf (n:V)(T:V->Prop)(P Q:V):Prop where
 p:T P
 q:T Q
 ne:P≠Q
 left:∀X,T X->0<=i8 n (Q-P) (X-P)
 btw:∀X,T X->i8 n (Q-P) (X-P)=0->Btw P Q X
section
variable{n:V} {T:V->Prop}
def EdgeOf.next (h:EdgeOf n T P Q)(h':EdgeOf n T P R):Q=R:=by
 have k:=h.left R h'.q;have g:=h'.left Q h.q;rw[j7]at g;have i:i8 n (Q-P) (R-P)=0:=by lia
 have j:i8 n (R-P) (Q-P)=0:=by rw[j7];lia
 have d:=h.btw R h'.q i;have f:=h'.btw Q h.q j;rcases Q3 Q P with e|e|e
 .exact absurd e.symm h.ne
 .have b:=d.1 e;have c:i4 (R-P):=b.1.resolve_left (aCi h'.ne);rcases b.2 with q|q
  .exact q.symm
  .rcases(f.1 c).2 with a|a
   .exact a
   .exact(x4 q a).elim
 .have b:=d.2 e;have c:i4 (P-R):=b.1.resolve_left (aCi h'.ne);rcases b.2 with q|q
  .exact q.symm
  .rcases(f.2 c).2 with a|a
   .exact a
   .exact(x4 q a).elim
def qM (n P Q X:V):i8 n (Q-P) (X-P)=i8 n (Q-P) (X-Q):=by have e:X-P=(X-Q)+(Q-P):=ext (by simp;lia) (by simp;lia) (by simp;lia);rw[e,aH,B9];lia
end
theorem nR {Pos:V->Prop}(X:V):∀(c:List V),(∀Y∈c,X=Y\/Pos (X-Y)\/Pos (Y-X))->(∀q,c.head?=some q->X=q\/Pos (q-X))->(∀z,c.getLast?=some z->X=z\/Pos (X-z))->c≠[]->
  (∀u,Pos u->Pos (-u)->False)->X∈c\/∃a b,(a,b)∈F3 c/\Pos (X-a)/\Pos (b-X)
 |[],_,_,_,h,_=>absurd rfl h
 |[q],_,d,f,_,g=>by
  rcases d q rfl with e|e
  .exact .inl (by simp[e])
  .rcases f q rfl with e'|e'
   .exact .inl (by simp[e'])
   .exact(g _ e (by rw[p7];exact e')).elim
 |b::a::r,i,d,f,_,g=>by
  rcases d b rfl with e|e
  .exact .inl (by simp[e])
  .rcases i a (by simp)with y|y|y
   .exact .inl (by simp[y])
   .exact .inr ⟨a,b,by simp[F3],y,e⟩
   .rcases nR X (a::r) (λY j=>i Y (aAe _ j)) (λq k=>by have:a=q:=aAl k;subst this;exact .inr y) (λz l=>f z (by rw[aBf];exact l)) (by simp) g with h|⟨m,n,h,o⟩
    .exact .inl (aAe _ h)
    .exact .inr ⟨m,n,P4 h,o⟩
def Row.ad6 {Pos:V->Prop}{T:V->Prop}(F:Row n Pos T)(f:T a)(g:T b)(c:T P)(h:T Q)(i:Pos (P-a))(j:Pos (b-P))(k:Pos (Q-P))(l:0<=i8 n (b-a) (P-a))(d:0<i8 n (Q-P) (a-P))(m:0<=i8 n (Q-P) (b-P)):False:=by
 have o:i8 n (Q-P) (a-P)=i8 n (P-a) (Q-P):=by have e:a-P=-(P-a):=(p7 _ _).symm;rw[e,K5,j7];lia
 rw[o]at d;have:=F.cone.tr i k j (x5 F.nz (F.pl _ _ c f) (F.pl _ _ h c)<|F.pl _ _ g c) d m;have p:b-a=(b-P)+(P-a):=ext (by simp;lia) (by simp;lia) (by simp;lia);rw[p,aF,B9,j7]at l
 lia
structure Sheet (n:V)(ts:List V):Prop where
 nz:n≠0
 pl:∀X∈ts,∀Y∈ts,d6 n (X-Y)=0
 ord:ts.Pairwise (λa b=>i4 (b-a))
 two:∃X∈ts,∃Y∈ts,X≠Y
section
variable{n:V} {ts:List V} (S:Sheet n ts)
include S
theorem Sheet.row:Row n i4 (λX=>X∈ts):=⟨y6,S.nz,λX Y a b=>S.pl X a Y b,λX Y _ _=>Q3 X Y⟩
theorem Sheet.af1:Row n N3 (λX=>X∈ts):=⟨aK,S.nz,λX Y a b=>S.pl X a Y b,λX Y _ _=>by
 rcases Q3 X Y with h|h|h
 .exact .inl h
 .exact .inr (.inr (o9.mpr h))
 .exact .inr (.inl (o9.mpr h))⟩
theorem Sheet.ne:ts≠[]:=by obtain⟨X,a,_⟩:=S.two;intro e;rw[e]at a;cases a
theorem Sheet.ab1:ChOk n i4 (λX=>X∈ts) (w4 n ts)/\w4 n ts≠[]/\(∀X q,(w4 n ts).head?=some q->X∈ts->X=q\/i4 (q-X)):=
 S.row.ad3 S.ne (λ_ h=>h) S.ord
theorem Sheet.ab2:ChOk n N3 (λX=>X∈ts) (w4 n ts.reverse)/\w4 n ts.reverse≠[]/\(∀X q,(w4 n ts.reverse).head?=some q->X∈ts->X=q\/N3 (q-X)):=by
 have h:=S.af1.ad3 (ps:=ts.reverse) (by simpa using S.ne) (λX h=>by simpa using h) (by rw[aEd];exact S.ord.imp λh=>o9.mpr h)
 obtain⟨a,b,c⟩:=h;exact⟨ChOk.congr S.af1 a λX=>by simp,b,λX q d e=>c X q d (by simpa using e)⟩
theorem Sheet.ae4 (h:(a,b)∈F3 (w4 n ts))(g:a∈ts)(i:b∈ts):EdgeOf n (λX=>X∈ts) a b/\i4 (b-a):=by obtain⟨c,d⟩:=S.ab1.1.ed _ h;dsimp only at c d;refine⟨⟨g,i,λe=>by subst e;exact J2 c,λX f=>(d X f).1,λX f z=>⟨λ_=>(d X f).2 z,λy=>(x4 c y).elim⟩⟩,c⟩
theorem Sheet.ae2 (h:(a,b)∈F3 (w4 n ts.reverse))(i:a∈ts)(j:b∈ts):EdgeOf n (λX=>X∈ts) a b/\i4 (a-b):=by obtain⟨g,d⟩:=S.ab2.1.ed _ h;dsimp only at g d;have c:=o9.mp g;refine⟨⟨i,j,λe=>by subst e;exact J2 c,λX f=>(d X f).1,λX f z=>⟨λy=>(x4 c y).elim,λ_=>?_⟩⟩,c⟩;obtain⟨k,l⟩:=(d X f).2 z;exact⟨k.imp id o9.mp,l.imp id o9.mp⟩
theorem M0 (h:(a,b)∈F3 c):a∈c/\b∈c:=by
 induction c with
 |nil=>cases h
 |cons x c d=>
  match c,h,d with
  |[],h,_=>cases h
  |y::r,h,d=>
   rcases aAd.mp h with e|e
   .cases e;simp
   .have:=d e;exact⟨aAe _ this.1,aAe _ this.2⟩
theorem Sheet.ends:∃m M c d,m∈ts/\M∈ts/\i4 (M-m)/\(∀X∈ts,X=m\/i4 (X-m))/\(∀X∈ts,X=M\/i4 (M-X))/\w4 n ts=M::c/\w4 n ts.reverse=m::d/\(M::c).getLast?=some m/\(m::d).getLast?=some M/\c≠[]/\d≠[]:=by
 obtain⟨j,t,u⟩:=S.ab1;obtain⟨l,v,w⟩:=S.ab2;obtain⟨M,c,a⟩:=aEG t;obtain⟨m,d,b⟩:=aEG v;have o:M∈ts:=j.mem M (by rw[a];simp);have r:m∈ts:=l.mem m (by rw[b];simp);have p:∀X∈ts,X=M\/i4 (M-X):=λX f=>u X M (by rw[a];rfl) f;have g:∀X∈ts,X=m\/i4 (X-m):=λX f=>(w X m (by rw[b];rfl) f).imp id o9.mp;obtain⟨z,h⟩:∃z,(M::c).getLast?=some z:=by simp[aEN]
 obtain⟨y,i⟩:∃z,(m::d).getLast?=some z:=by simp[aEN]
 have x:z=m:=by
  have A:z∈ts:=j.mem z (by rw[a];exact aCU h);rcases j.last m r z (by rw[a];exact h)with e|e
  .exact e.symm
  .rcases g z A with e'|e'
   .exact e'
   .exact(x4 e e').elim
 have B:y=M:=by
  have C:y∈ts:=l.mem y (by rw[b];exact aCU i);rcases l.last M o y (by rw[b];exact i)with e|e
  .exact e.symm
  .rcases p y C with e'|e'
   .exact e'
   .exact(x4 (o9.mp e) e').elim
 subst x B;have q:i4 (y-z):=by
  obtain⟨X,f,Y,E,ne⟩:=S.two;rcases g y o with e|e
  .exfalso;subst e;have k:∀W∈ts,W=y:=λW s=>by
    rcases g W s with e|e
    .exact e
    .rcases p W s with e'|e'
     .exact e'
     .exact(x4 e e').elim
   exact ne ((k X f).trans (k Y E).symm)
  .exact e
 refine⟨z,y,c,d,r,o,q,g,p,a,b,h,i,λe=>?_,λe=>?_⟩
 .subst e;have:y=z:=by simpa using h
  subst this;exact J2 q
 .subst e;have:z=y:=by simpa using i
  subst this;exact J2 q
theorem Sheet.pair (h:(P,Q)∈U7 (j8 n ts)):EdgeOf n (λX=>X∈ts) P Q:=by
 obtain⟨m,M,c,d,i,j,k,l,o,a,b,e,f,g,p⟩:=S.ends;rw[KR a b e f g,aAQ,aBn,aBn]at h;rcases h with h|h
 .have:=M0 S h;exact(S.ae4 h (S.ab1.1.mem _ this.1)<|S.ab1.1.mem _ this.2).1
 .have:=M0 S h;exact(S.ae2 h (S.ab2.1.mem _ this.1)<|S.ab2.1.mem _ this.2).1
theorem bP (h:P∈l):∃Q,(P,Q)∈U7 l:=by
 obtain⟨i,b,e⟩:=aBh h;have c:l.length=(l.tail++l.take 1).length:=by
  match l,b with
  |a::l,_=>simp
 refine⟨(l.tail++l.take 1)[i]'(by lia),?_⟩;unfold U7;refine List.mem_of_getElem (i:=i) (h:=by rw[List.length_zip];lia) ?_;rw[List.getElem_zip,e]
theorem Sheet.ac7 (h:EdgeOf n (λX=>X∈ts) P Q):P∈j8 n ts:=by
 obtain⟨m,M,c,d,T,U,mM,C,E,A,B,h3,h4,hc,hd⟩:=S.ends;obtain⟨o,H,I⟩:=S.ab1;obtain⟨i,J,L⟩:=S.ab2;unfold j8;rw[aAQ,A,B,aAL,aAL,aBk,aBk,aBn,aBn];rcases Q3 Q P with e|e|e
 .exact absurd e.symm h.ne
 .
  left;rcases nR (Pos:=i4) P (w4 n ts) (λY _=>Q3 P Y) (λq s=>I P q s h.p) (λz t=>o.last P h.p z t) H (λu a b=>by have:=y6.add a b;have v:u+-u=0:=ext (by simp;lia) (by simp;lia) (by simp;lia);rw[v]at this;exact y6.irr this)with r|⟨a,b,r,g,w⟩
  .rw[A]at r;rcases aAd.mp r with q|q
   .subst q;rcases E Q h.q with y|y
    .exact absurd y.symm h.ne
    .exact(x4 e y).elim
   .exact q
  .exfalso;have j:=M0 S r;have f:=o.mem _ j.1;have k:=o.mem _ j.2;have N:=h.left a f;have x:i8 n (Q-P) (a-P)≠0:=λz=>by
    rcases((h.btw a f z).1 e).1 with y|y
    .subst y;exact J2 g
    .exact x4 g y
   exact S.row.ad6 f k h.p h.q g w e ((o.ed _ r).2 P h.p).1 (by lia) (h.left b k)
 .right;rcases nR (Pos:=N3) P (w4 n ts.reverse) (λY _=>S.af1.tot P Y h.p (by rename_i O;exact i.mem Y O)) (λq s=>L P q s h.p) (λz t=>i.last P h.p z t) J (λu a b=>by have:=aK.add a b;have v:u+-u=0:=ext (by simp;lia) (by simp;lia) (by simp;lia);rw[v]at this;exact aK.irr this)with r|⟨a,b,r,g,w⟩
  .rw[B]at r;rcases aAd.mp r with q|q
   .subst q;rcases C Q h.q with y|y
    .exact absurd y.symm h.ne
    .exact(x4 e y).elim
   .exact q
  .exfalso;have j:=M0 S r;have f:=i.mem _ j.1;have k:=i.mem _ j.2;have N:=h.left a f;have l:=o9.mp g;have x:i8 n (Q-P) (a-P)≠0:=λz=>by
    rcases((h.btw a f z).2 e).1 with y|y
    .subst y;exact J2 l
    .exact x4 l y
   exact S.af1.ad6 f k h.p h.q g w (o9.mpr e) ((i.ed _ r).2 P h.p).1 (by lia) (h.left b k)
theorem Sheet.aa1:(P,Q)∈U7 (j8 n ts)↔EdgeOf n (λX=>X∈ts) P Q:=by
 refine⟨S.pair,λh=>?_⟩;obtain⟨R,a⟩:=bP S (S.ac7 h);have:=(S.pair a).next h
 subst this;exact a
end
theorem N8 {Pos:V->Prop}(C:Cone Pos):∀(c:List V),(∀e∈F3 c,Pos (e.2-e.1))->c.Pairwise (λb a=>Pos (b-a))
 |[],_=>aGf
 |[x],_=>aDK _ _
 |b::a::r,h=>by
  have d:=N8 C (a::r) (λe g=>h e (P4 g));have f:=h (a,b) (by simp[F3]);refine aAy.mpr ⟨λy i=>?_,d⟩;rcases aAd.mp i with e|e
  .subst e;exact f
  .have:=(aAy.mp d).1 y e;have s:=C.add f this;have j:b-a+(a-y)=b-y:=ext (by simp;lia) (by simp;lia) (by simp;lia);dsimp only at s
   rwa [j]at s
theorem jX:∀{h:V} {c:List V} {X:V},X∈c->∃b,(X,b)∈F3 (h::c)
 |h,[],X,d=>by cases d
 |h,a::r,X,d=>by
  rcases aAd.mp d with e|e
  .subst e;exact⟨h,by simp[F3]⟩
  .obtain⟨b,f⟩:=jX (h:=a) e;exact⟨b,P4 f⟩
section
variable{n:V} {ts:List V} (S:Sheet n ts)
include S
theorem Sheet.aa3 (h:X∈j8 n ts):X∈ts:=by obtain⟨Q,a⟩:=bP S h;exact(S.pair a).p
theorem Sheet.aa5:(j8 n ts).Nodup:=by
 obtain⟨m,M,c,d,E,H,I,J,L,f,g,N,O,Q,T⟩:=S.ends;obtain⟨i,U,Y⟩:=S.ab1;obtain⟨j,n2,t2⟩:=S.ab2;unfold j8;rw[f,g,aAL,aAL,aBk,aBk];have p:=N8 y6 (w4 n ts) λe k=>(i.ed e k).1;have q:=N8 aK (w4 n ts.reverse) λe k=>(j.ed e k).1;rw[f]at p;rw[g]at q;have v:=(aAy.mp p).2;have w:=(aAy.mp q).2;rw[aCH];refine⟨?_,?_,?_⟩
 .rw[aCg,aEd];exact v.imp λ{a b} h e=>by subst e;exact J2 h
 .rw[aCg,aEd];exact w.imp λ{a b} h e=>by subst e;exact J2 (o9.mp h)
 .intro x r y s e;subst e;rw[aBn]at r s;obtain⟨b,l⟩:=jX (h:=M) r;obtain⟨b',o⟩:=jX (h:=m) s;rw[<-f]at l;rw[<-g]at o;have t:=M0 S l;have u:=M0 S o;obtain⟨z,A⟩:=S.ae4 l (i.mem _ t.1) (i.mem _ t.2);obtain⟨B,C⟩:=S.ae2 o (j.mem _ u.1) (j.mem _ u.2);have:=z.next B;subst this;exact x4 A C
theorem Sheet.ab5:∃m r,j8 n ts=m::r/\m∈ts/\∀X∈ts,X=m\/i4 (X-m):=by
 obtain⟨m,M,c,d,f,k,l,g,o,h,i,e,p,j,q⟩:=S.ends;have a:∃b,c.reverse=m::b:=by
  have:c.getLast?=some m:=by
   match c,j with
   |x::c,_=>rw[aBf]at e;exact e
  rw[<-aEM]at this;match s:c.reverse,this with
  |x::r,this=>exact⟨r,by rw[show x=m from aAl this]⟩
 obtain⟨b,a⟩:=a;refine⟨m,b++d.reverse,?_,f,g⟩;unfold j8;rw[h,i,aAL,aAL,aBk,aBk,a];rfl
theorem MQ (h:Q∈l):∃P,(P,Q)∈U7 l:=by
 match l,h with
 |a::r,h=>
  have b:Q∈r++[a]:=by simpa[or_comm]using h
  obtain⟨i,c,e⟩:=aBh b;have d:i<(a::r).length:=by simpa using c
  refine⟨(a::r)[i],?_⟩;show _∈(a::r).zip (r++[a]);refine List.mem_of_getElem (i:=i) (h:=by rw[List.length_zip];simp;omega) ?_;rw[List.getElem_zip,e]
theorem wT (h:(P,Q)∈U7 l):P∈l/\Q∈l:=by
 have b:=aDL h;refine⟨b.1,?_⟩;match l,b.2 with
 |a::r,z=>simpa[or_comm]using z
theorem Sheet.strict (h:EdgeOf n (λX=>X∈ts) P Q)(x:X∈j8 n ts)(s:X≠P)(t:X≠Q):0<i8 n (Q-P) (X-P):=by
 have c:=S.aa3 x;have E:=h.left X c;by_cases z:i8 n (Q-P) (X-P)=0
 .exfalso;have b:=h.btw X c z;obtain⟨Y,B⟩:=bP S x;have g:=S.pair B;have u:=g.left P h.p;have l:=g.left Q h.q;rcases Q3 Q P with e|e|e
  .exact h.ne e.symm
  .have m:=b.1 e;have d:=m.1.resolve_left s;have f:=m.2.resolve_left t;have C:i8 n (X-P) (Q-X)=0:=by have a:Q-P=(Q-X)+(X-P):=ext (by simp;lia) (by simp;lia) (by simp;lia);rw[a,aF,B9,j7]at z;lia
   have o:0<=i8 n (X-P) (Y-X):=by have a:P-X=-(X-P):=(p7 _ _).symm;rw[a,K5]at u;rw[j7];lia
   rcases Q3 Y X with y|y|y
   .exact g.ne y.symm
   .have H:=S.row.weak d y f (S.pl _ c _ h.p) (S.pl _ g.q _ c) (S.pl _ h.q _ c) o l;by_cases i:0<i8 n (X-P) (Y-X)
    .have:=y6.tr d y f (x5 S.nz (S.pl _ c _ h.p) (S.pl _ g.q _ c)<|S.pl _ h.q _ c) i l
     lia
    .have j:i8 n (Y-X) (P-X)=0:=by have a:P-X=-(X-P):=(p7 _ _).symm;rw[a,K5,j7];lia
     rcases((g.btw P h.p j).1 y).1 with k|k
     .exact s k.symm
     .exact x4 k d
   .have r:i4 (X-Y):=y;have A:0<=i8 n (X-Y) (X-P):=by have a:Y-X=-(X-Y):=(p7 _ _).symm;rw[a,K5,j7]at o;lia
    have v:0<=i8 n (Q-X) (X-Y):=by have a:Y-X=-(X-Y):=(p7 _ _).symm;rw[a,aS,j7]at l;lia
    by_cases i:0<i8 n (Q-X) (X-Y)
    .have:=y6.tr f r d (x5 S.nz (S.pl _ h.q _ c) (S.pl _ c _ g.q)<|S.pl _ c _ h.p) i A;rw[j7]at this;lia
    .have j:i8 n (Y-X) (Q-X)=0:=by have a:Y-X=-(X-Y):=(p7 _ _).symm;rw[a,aS,j7];lia
     rcases((g.btw Q h.q j).2 r).1 with k|k
     .exact t k.symm
     .exact x4 k f
  .have m:=b.2 e;have d:=m.1.resolve_left s;have f:=m.2.resolve_left t;have C:i8 n (P-X) (X-Q)=0:=by have a:Q-P=-((P-X)+(X-Q)):=ext (by simp;lia) (by simp;lia) (by simp;lia);have w:X-P=-(P-X):=(p7 _ _).symm;rw[a,w,aS,K5,aF,B9,j7]at z;lia
   rcases Q3 Y X with y|y|y
   .exact g.ne y.symm
   .
    have v:0<=i8 n (X-Q) (Y-X):=by have a:Q-X=-(X-Q):=(p7 _ _).symm;rw[a,K5,j7]at l;lia
    by_cases i:0<i8 n (X-Q) (Y-X)
    .have:=y6.tr f y d (x5 S.nz (S.pl _ c _ h.q) (S.pl _ g.q _ c)<|S.pl _ h.p _ c) i u;rw[j7]at this;lia
    .have j:i8 n (Y-X) (Q-X)=0:=by have a:Q-X=-(X-Q):=(p7 _ _).symm;rw[a,K5,j7];lia
     rcases((g.btw Q h.q j).1 y).1 with k|k
     .exact t k.symm
     .exact x4 k f
   .have r:i4 (X-Y):=y;have A:0<=i8 n (P-X) (X-Y):=by have a:Y-X=-(X-Y):=(p7 _ _).symm;rw[a,aS,j7]at u;lia
    have v:0<=i8 n (X-Y) (X-Q):=by have a:Y-X=-(X-Y):=(p7 _ _).symm;have w:Q-X=-(X-Q):=(p7 _ _).symm;rw[a,w,aS,K5]at l;lia
    by_cases i:0<i8 n (P-X) (X-Y)
    .have:=y6.tr d r f (x5 S.nz (S.pl _ h.p _ c) (S.pl _ c _ g.q)<|S.pl _ c _ h.q) i v
     lia
    .have j:i8 n (Y-X) (P-X)=0:=by have a:Y-X=-(X-Y):=(p7 _ _).symm;rw[a,aS,j7];lia
     rcases((g.btw P h.p j).2 r).1 with k|k
     .exact s k.symm
     .exact x4 k d
 .lia
end
def jJ {a:V}(h:a≠0):a.x≠0\/a.y≠0\/a.z≠0:=by
 by_cases p:a.x=0
 .by_cases q:a.y=0
  .by_cases r:a.z=0
   .exact absurd (ext p q r) h
   .exact .inr (.inr r)
  .exact .inr (.inl q)
 .exact .inl p
def A5 {a w:V}(c:a≠0)(h:cr a w=0):∃k m:Int,0<k/\k*w=m*a:=by
 have d:=jr V.x h;have f:=jr V.y h;have g:=jr V.z h;simp at d f g;have b:∀k m:Int,k≠0->k*w=m*a->∃k m:Int,0<k/\k*w=m*a:=λk m n e=>by
  by_cases p:0<k
  .exact⟨k,m,p,e⟩
  .refine⟨-k,-m,by lia,?_⟩;have i:=jr V.x e;have j:=jr V.y e;have l:=jr V.z e;simp at i j l;apply ext<;>simp<;>grind
 rcases jJ c with p|p|p
 .exact b a.x w.x p (by apply ext<;>simp<;>grind)
 .exact b a.y w.y p (by apply ext<;>simp<;>grind)
 .exact b a.z w.z p (by apply ext<;>simp<;>grind)
def ConeM.ad4 {Pos:V->Prop}(C:ConeM a Pos)(c:a≠0)(d:Pos w):cr a w≠0:=λh=>by
 obtain⟨k,m,f,e⟩:=A5 c h;have b:=C.inv (-m) (C.mul f d);rw[e]at b;have g:m*a+-m*a=0:=by apply ext<;>simp<;>grind
 rw[g]at b;exact C.irr b
def G0 (a A:V):List V->V->V->V×V
 |[],c,b=>(c,b)
 |P::d,c,b=>if c=0\/0<d6 c (P-A)then G0 a A d (cr a (P-A)) P else G0 a A d c b
def VS (a A:V)(Pos:V->Prop)(seen:V->Prop)(c b:V):Prop:=
 (c=0/\∀P,seen P->cr a (P-A)=0)\/(seen b/\Pos (b-A)/\c=cr a (b-A)/\∀P,seen P->i8 a (b-A) (P-A)<=0)
def iX (h:cr a w=0)(u:V):i8 a u w=0:=by
 have e:i8 a u w=-d6 (cr a w) u:=by simp[i8,d6];grind
 rw[e,h];simp[d6]
theorem uD {Pos:V->Prop}(C:ConeM a Pos)(n:a≠0):∀(J:List V) (seen:V->Prop) (d c:V),VS a A Pos seen d c->(∀P,seen P->Pos (P-A)\/cr a (P-A)=0)->(∀P∈J,Pos (P-A)\/cr a (P-A)=0)->
  VS a A Pos (λP=>seen P\/P∈J) (G0 a A J d c).1 (G0 a A J d c).2
 |[],seen,d,c,h,_,_=>by
  show VS a A Pos _ d c;rcases h with⟨g,f⟩|⟨g,f,i,j⟩
  .exact .inl ⟨g,λP b=>f P (by simpa using b)⟩
  .exact .inr ⟨.inl g,f,i,λP b=>j P (by simpa using b)⟩
 |Q::J,seen,d,c,h,o,p=>by
  have k:=p Q (by simp);have RW:VS a A Pos (λP=>seen P\/P=Q) (if d=0\/0<d6 d (Q-A)then(cr a<|Q-A)else d) (if d=0\/0<d6 d (Q-A)then Q else c):=by
   rcases h with⟨g,f⟩|⟨g,f,i,j⟩
   .rw[ji (.inl g),ji (.inl g)];by_cases z:cr a (Q-A)=0
    .exact .inl ⟨z,λP b=>by
      rcases b with b|b
      .exact f P b
      .subst b;exact z⟩
    .refine .inr ⟨.inr rfl,k.resolve_right z,rfl,λP b=>?_⟩;rcases b with b|b
     .rw[iX (f P b)];exact aCJ _
     .subst b;rw[B9];exact aCJ _
   .have s:d≠0:=by rw[i];exact C.ad4 n f
    have l:d6 d (Q-A)=i8 a (c-A) (Q-A):=by rw[i,U3]
    by_cases z:0<d6 d (Q-A)
    .rw[ji (.inr z),ji (.inr z)];have t:Pos (Q-A):=by
      rcases k with q|q
      .exact q
      .rw[l,iX q]at z;lia
     refine .inr ⟨.inr rfl,t,rfl,λP b=>?_⟩;rcases b with b|b
     .by_cases u:i8 a (Q-A) (P-A)<=0
      .exact u
      .exfalso;have m:Pos (P-A):=by
        rcases o P b with q|q
        .exact q
        .rw[iX q]at u;lia
       have:=C.tr f t m (by rw[<-l];exact z) (by lia);have:=j P b
       lia
     .subst b;rw[B9];exact aCJ _
    .rw[jn (by rintro(q|q);exact s q;exact z q),jn (by rintro(q|q);exact s q;exact z q)];refine .inr ⟨.inl g,f,i,λP b=>?_⟩;rcases b with b|b
     .exact j P b
     .subst b;rw[<-l];lia
  have r:=uD C n J (λP=>seen P\/P=Q) _ _ RW (λP b=>by
   rcases b with b|b
   .exact o P b
   .subst b;exact k) (λP b=>p P (aAe _ b))
  have e:G0 a A (Q::J) d c=G0 a A J (if d=0\/0<d6 d (Q-A)then(cr a<|Q-A)else d) (if d=0\/0<d6 d (Q-A)then Q else c):=by rw[G0];split<;>rfl
  rw[e];have v:(λP=>(seen P\/P=Q)\/P∈J)=(λP=>seen P\/P∈Q::J):=by funext P;simp[or_assoc]
  rw[<-v];exact r
def MS {Pos:V->Prop}(C:ConeM a Pos)(d:a≠0)(f:∀P∈J,Pos (P-A)\/cr a (P-A)=0)(g:∃P∈J,Pos (P-A)):
  (G0 a A J 0 A).2∈J/\Pos ((G0 a A J 0 A).2-A)/\∀P∈J,i8 a ((G0 a A J 0 A).2-A) (P-A)<=0:=by
 have h:=uD C d J (λ_=>False) 0 A (.inl ⟨rfl,λ_ h=>h.elim⟩) (λ_ h=>h.elim) f;rcases h with⟨e,b⟩|⟨e,b,k,i⟩
 .obtain⟨P,c,j⟩:=g;exact absurd (b P<|.inr c) (C.ad4 d j)
 .exact⟨by simpa using e,b,λP c=>i P (.inr c)⟩
def n6 (v:V):Nat:=Nat.gcd (Nat.gcd v.x.natAbs v.y.natAbs) v.z.natAbs
def gT (v:V)(g:Int):V:=⟨v.x/g,v.y/g,v.z/g⟩
def X3 (n:V):Prop:=n6 n=1
def oZ (k:Int)(v:V):n6 (k*v)=k.natAbs*n6 v:=by unfold n6;simp[Int.natAbs_mul,Nat.gcd_mul_left]
def dZ (h:n6 v=0):v=0:=by unfold n6 at h;have a:=Nat.gcd_eq_zero_iff.mp h;have b:=Nat.gcd_eq_zero_iff.mp a.1;exact ext (aEO.mp b.1) (aEO.mp b.2) (aEO.mp a.2)
def yP (v:V):(n6 v:Int)∣v.x/\(n6 v:Int)∣v.y/\(n6 v:Int)∣v.z:=by
 unfold n6;refine⟨?_,?_,?_⟩
 .exact aEP.mpr (Nat.dvd_trans (aFr _ _)<|aFr _ _)
 .exact aEP.mpr (Nat.dvd_trans (aFr _ _)<|Nat.gcd_dvd_right _ _)
 .exact aEP.mpr (Nat.gcd_dvd_right _ _)
def kR (h:c≠0):0<(n6 c:Int)/\c=(n6 c:Int)*gT c (n6 c)/\X3 (gT c (n6 c)):=by
 have i:n6 c≠0:=λz=>h (dZ z);have a:0<(n6 c:Int):=by lia
 obtain⟨b,d,f⟩:=yP c;have e:c=(n6 c:Int)*gT c (n6 c):=by
  apply ext
  .show _=_*(c.x/_);rw[aEp b]
  .show _=_*(c.y/_);rw[aEp d]
  .show _=_*(c.z/_);rw[aEp f]
 refine⟨a,e,?_⟩;have:=jr n6 e;rw[oZ]at this;simp only[Int.natAbs_natCast]at this;unfold X3;have g:n6 c*1=n6 c*n6 (gT c<|n6 c):=by lia
 exact(Nat.eq_of_mul_eq_mul_left (by lia) g).symm
def X3.ne (h:X3 n):n≠0:=λe=>by subst e;unfold X3 at h;exact absurd h (by decide)
def nG {n m:V}{k l:Int}(f:X3 n)(g:X3 m)(h:0<k)(i:0<l)(e:k*n=l*m):n=m:=by
 have:=jr n6 e;rw[oZ,oZ,f,g]at this;have a:k=l:=by lia
 subst a;have b:=jr V.x e;have c:=jr V.y e;have d:=jr V.z e;simp at b c d;exact ext (aCn (by lia) b) (aCn (by lia) c) (aCn (by lia) d)
def d4 (P Q R:V):V×Int:=let n:=gT (cr (Q-P)<|R-P) (n6<|cr (Q-P)<|R-P);(n,d6 n P)
structure IsFace (J:List V)(n:V)(d:Int):Prop where
 prim:X3 n
 sup:∀X∈J,d6 n X<=d
 three:∃A∈J,∃B∈J,∃C∈J,d6 n A=d/\d6 n B=d/\d6 n C=d/\cr (B-A) (C-A)≠0
def K8 (a:d6 n u=0)(b:d6 n v=0):cr n (cr u v)=0:=by simp[d6]at a b;apply ext<;>simp<;>grind
def pV (f:c≠0)(b:cr n c=0)(d:cr m c=0):cr n m=0:=by
 have h:cr c n=0:=by have:=jr V.x b;have:=jr V.y b;have:=jr V.z b;simp at*;apply ext<;>simp<;>grind
 have i:cr c m=0:=by have:=jr V.x d;have:=jr V.y d;have:=jr V.z d;simp at*;apply ext<;>simp<;>grind
 obtain⟨k,p,r,j⟩:=A5 f h;obtain⟨l,q,s,o⟩:=A5 f i;have e:(k*l)*cr n m=0:=by
  have:(k*l)*cr n m=cr (k*n) (l*m):=by apply ext<;>simp<;>grind
  rw[this,j,o];apply ext<;>simp<;>grind
 have a:k*l≠0:=λz=>by rcases aAv.mp z with q|q<;>lia
 have b:=jr V.x e;have d:=jr V.y e;have g:=jr V.z e;simp only[LY,RN,PJ,W3,V4,W2]at b d g;exact ext ((aAv.mp b).resolve_left a) ((aAv.mp d).resolve_left a) ((aAv.mp g).resolve_left a)
def jQ {J:List V}{n m:V}{d e:Int}(f:X3 n)(a:X3 m)(sn:∀X∈J,d6 n X<=d)(g:∀X∈J,d6 m X<=e){A B C Z:V}(y:d6 n A=d)(E:d6 n B=d)(H:d6 n C=d)(h:d6 m A=e)(i:d6 m B=e)(j:d6 m C=e)
  (o:cr (B-A) (C-A)≠0) (r:Z∈J) (hz:d6 n Z<d):n=m/\d=e:=by
 have s:cr n (cr (B-A)<|C-A)=0:=K8 (by rw[f8];lia) (by rw[f8];lia);have t:cr m (cr (B-A)<|C-A)=0:=K8 (by rw[f8];lia) (by rw[f8];lia);have p:=pV o t s;obtain⟨k,l,b,c⟩:=A5 a.ne p;have u:0<l:=by
  have q:=jr (λv=>d6 v (Z-A)) c;rw[G3,G3]at q;have w:d6 n (Z-A)<0:=by rw[f8];lia
  have I:d6 m (Z-A)<=0:=by rw[f8];have:=g Z r;lia
  have L:k*d6 n (Z-A)<0:=aBi b w;by_cases z:0<l
  .exact z
  .exfalso;have:0<=l*d6 m (Z-A):=by
    have:=aBX (show 0<=-l by lia) (show 0<=-d6 m (Z-A)by lia)
    rwa [aDp]at this
   lia
 have x:=nG f a b u c;subst x;exact⟨rfl,by lia⟩
def b8 (A B:V)(J:List V):V×Int:=d4 A B (G0 (B-A) A J 0 A).2
def x6 (n:V)(d:Int)(J:List V):List V:=J.filter λX=>decide (d6 n X=d)
def d7:X∈x6 n d J↔X∈J/\d6 n X=d:=by simp[x6]
def V1 (h:cr (Q-P) (R-P)≠0):∃g:Int,0<g/\cr (Q-P) (R-P)=g*(d4 P Q R).1/\X3 (d4 P Q R).1/\(d4 P Q R).2=d6 (d4 P Q R).1 P:=by obtain⟨a,b,c⟩:=kR h;exact⟨_,a,b,c,rfl⟩
def V8 {Pos:V->Prop}(C:ConeM (B-A) Pos)(c:B-A≠0)(m:∀P∈J,Pos (P-A)\/cr (B-A) (P-A)=0)(n:∃P∈J,Pos (P-A)):
  ∃(a:V) (g:Int),a∈J/\Pos (a-A)/\0<g/\cr (B-A) (a-A)=g*(b8 A B J).1/\X3 (b8 A B J).1/\(b8 A B J).2=d6 (b8 A B J).1 A/\
   (∀P∈J,d6 (b8 A B J).1 P<=(b8 A B J).2)/\d6 (b8 A B J).1 B=(b8 A B J).2/\d6 (b8 A B J).1 a=(b8 A B J).2/\
   (∀P∈J,d6 (b8 A B J).1 P=(b8 A B J).2->i8 (B-A) (a-A) (P-A)=0):=by
 obtain⟨o,d,p⟩:=MS C c m n;have q:=C.ad4 c d;obtain⟨g,f,i,r,j⟩:=V1 q;have b:∀w:V,g*d6 (b8 A B J).1 w=i8 (B-A) ((G0 (B-A) A J 0 A).2-A) w:=λw=>by have:d6 (cr (B-A)<|(G0 (B-A) A J 0 A).2-A) w=i8 (B-A) ((G0 (B-A) A J 0 A).2-A) w:=U3 _ _ _;rw[<-this,i,G3];rfl
 have t:(b8 A B J).2=d6 (b8 A B J).1 A:=j;have k:∀w:V,i8 (B-A) ((G0 (B-A) A J 0 A).2-A) w=0->d6 (b8 A B J).1 w=0:=λw s=>by have:=b w;rw[s]at this;exact(aAv.mp this).resolve_left (by lia)
 refine⟨_,g,o,d,f,i,r,j,λP l=>?_,?_,?_,λP l e=>?_⟩
 .have h:=p P l;rw[<-b]at h;have:d6 (b8 A B J).1 (P-A)<=0:=by
   by_cases z:d6 (b8 A B J).1 (P-A)<=0
   .exact z
   .have:=aBa f (show 0<d6 (b8 A B J).1 (P-A)by lia)
    lia
  rw[f8]at this
  lia
 .have:=k (B-A) (by simp[i8,d6];grind);rw[f8]at this;lia
 .have:=k ((G0 (B-A) A J 0 A).2-A) (B9 _ _);rw[f8]at this;lia
 .rw[<-b,f8];have:d6 (b8 A B J).1 P-d6 (b8 A B J).1 A=0:=by lia
  rw[this];simp
def yC {Pos:V->Prop}(C:ConeM a Pos)(c:a≠0)(d:Pos o)(e:Pos w)(h:i8 a o w=0):0<d6 (cr a o) (cr a w):=by
 by_cases z:0<d6 (cr a o) (cr a w)
 .exact z
 .exfalso;have f:=C.ad4 c d;have g:=y7 f;have i:Pos (d6 (cr a o) (cr a o)*w+(-d6 (cr a o) (cr a w))*o):=C.comb g (by lia) e d;refine C.ad4 c i ?_;have b:cr (cr a o) (cr a w)=i8 a o w*a:=by simp[i8,d6];apply ext<;>simp<;>grind
  rw[h,u8]at b;have j:cr a (d6 (cr a o) (cr a o)*w+(-d6 (cr a o) (cr a w))*o)=d6 (cr a o) (cr a o)*cr a w+(-d6 (cr a o) (cr a w))*cr a o:=by apply ext<;>simp<;>grind
  rw[j];have k:∀p q:V,d6 p p*q+(-d6 p q)*p=cr p (cr q p):=λp q=>by simp[d6];apply ext<;>simp<;>grind
  rw[k];have l:cr (cr a w) (cr a o)=0:=by have m:=jr V.x b;have n:=jr V.y b;have r:=jr V.z b;simp only[VG,UO,TY,W3,V4,W2]at m n r;apply ext<;>simp only[VG,UO,TY,W3,V4,W2]<;>grind
  rw[l];apply ext<;>simp
def Btw.symm (h:Btw P Q X):Btw Q P X:=⟨λa=>⟨(h.2 a).2,(h.2 a).1⟩,λa=>⟨(h.1 a).2,(h.1 a).1⟩⟩
def sS (g:n≠0)(c:d6 n (a-b)=0):ConeM (a-b) (λw=>d6 n w<0\/(d6 n w=0/\0<i8 n (b-a) w))where
 add:=λ{u v} i j=>by
  rw[bJ,aH]
  lia
 mul:=λ{k u} d h=>by
  rw[u5,zZ];rcases h with h|⟨h,f⟩
  .exact .inl (aBi d h)
  .exact .inr ⟨by rw[h];simp,aBa d f⟩
 irr:=by rw[M6,fB];lia
 inv:=λ{u} k h=>by
  have e:i8 n (b-a) (a-b)=0:=by have:a-b=-(b-a):=(p7 _ _).symm;rw[this,K5,B9];rfl
  rw[bJ,aH,u5,zZ,c,e];simpa using h
def W8 (a:n≠0)(f:d6 n u=0)(g:d6 n w=0)(h:i8 n u w=0):cr u w=0:=by
 have i:cr n (cr u w)=0:=K8 f g;obtain⟨k,m,o,e⟩:=A5 a i;have q:=jr (d6 n) e;rw[u5,u5]at q;have:d6 n (cr u w)=0:=h;rw[this]at q;have j:m=0:=by
  have:=y7 a;have l:m*d6 n n=0:=by lia
  rcases aAv.mp l with z|z
  .exact z
  .lia
 rw[j,u8]at e;have b:=jr V.x e;have c:=jr V.y e;have d:=jr V.z e;simp only[LY,RN,PJ,W3,V4,W2]at b c d;exact ext ((aAv.mp b).resolve_left (by lia)) ((aAv.mp c).resolve_left (by lia)) ((aAv.mp d).resolve_left (by lia))
def jN (h:cr u w=0):cr (-u) w=0:=by have a:=jr V.x h;have b:=jr V.y h;have c:=jr V.z h;simp only[VG,UO,TY,W3,V4,W2]at a b c;apply ext<;>simp<;>grind
def tL (A:n≠0)(Q:∀X∈J,d6 n X<=d)(hz:∃Z∈J,d6 n Z<d)(h:EdgeOf n (λX=>X∈x6 n d J) a b):
  IsFace J (b8 b a J).1 (b8 b a J).2/\EdgeOf (b8 b a J).1 (λX=>X∈x6 (b8 b a J).1 (b8 b a J).2 J) b a:=by
 obtain⟨B,da⟩:=d7.mp h.p;obtain⟨pb,db⟩:=d7.mp h.q;have i:d6 n (a-b)=0:=by rw[f8];lia
 have r:d6 n (b-a)=0:=by rw[f8];lia
 have C:=sS (n:=n) A i;have j:a-b≠0:=λe=>h.ne (by have T:=jr V.x e;have U:=jr V.y e;have Y:=jr V.z e;simp at T U Y;exact ext (by lia) (by lia) (by lia))
 have s:∀P∈J,(d6 n (P-b)<0\/(d6 n (P-b)=0/\0<i8 n (b-a) (P-b)))\/cr (a-b) (P-b)=0:=λP E=>by
  have h1:=Q P E;by_cases z:d6 n P<d
  .exact .inl (.inl (by rw[f8];lia))
  .have e:d6 n P=d:=by lia
   have tP:P∈x6 n d J:=d7.mpr ⟨E,e⟩;have l:=h.left P tP;rw[qM]at l;have H:d6 n (P-b)=0:=by rw[f8];lia
   by_cases y:0<i8 n (b-a) (P-b)
   .exact .inl (.inr ⟨H,y⟩)
   .have y0:i8 n (b-a) (P-b)=0:=by lia
    have:=jN (W8 A r H y0);rw[p7]at this;exact .inr this
 obtain⟨Z,hZ,hz⟩:=hz;obtain⟨c,g,o1,t,g0,I,gp,L,u,N,sO,O⟩:=V8 C j s ⟨Z,hZ,.inl (by rw[f8];lia)⟩;refine⟨⟨gp,u,b,pb,a,B,c,o1,L.symm,N,sO,C.ad4 j t⟩,⟨d7.mpr ⟨pb,L.symm⟩,d7.mpr ⟨B,N⟩,λe=>h.ne e.symm,λX v=>?_,λX v e=>?_⟩⟩
 .obtain⟨f,w⟩:=d7.mp v;have z:=O X f w;have o:g*i8 (b8 b a J).1 (a-b) (X-b)=d6 (cr (a-b)<|c-b) (cr (a-b)<|X-b):=by rw[I];unfold i8;rw[G3]
  have:0<=d6 (cr (a-b)<|c-b) (cr (a-b)<|X-b):=by
   rcases s X f with q|q
   .exact aAT (yC C j t q z)
   .rw[q,M6];exact aCJ _
  rw[<-o]at this;by_cases zz:0<=i8 (b8 b a J).1 (a-b) (X-b)
  .exact zz
  .have:=aBi g0 (show i8 (b8 b a J).1 (a-b) (X-b)<0 by lia)
   lia
 .obtain⟨f,w⟩:=d7.mp v;have z:=O X f w;have o:g*i8 (b8 b a J).1 (a-b) (X-b)=d6 (cr (a-b)<|c-b) (cr (a-b)<|X-b):=by rw[I];unfold i8;rw[G3]
  rw[e]at o;rcases s X f with q|q
  .have:=yC C j t q z;rw[<-o]at this;simp at this
  .
   have dX:d6 n X=d:=by obtain⟨k,m,hk,e⟩:=A5 j q;have q:=jr (d6 n) e;rw[u5,u5,i]at q;have:d6 n (X-b)=0:=(aAv.mp (show k*d6 n (X-b)=0 by lia)).resolve_left (by lia);rw[f8]at this;lia
   refine(h.btw X (d7.mpr ⟨f,dX⟩) ?_).symm;rw[qM];have:cr (b-a) (X-b)=0:=by
    have:=jN q
    rwa [p7]at this
   unfold i8;rw[this,M6]
def A4:List V->Option V
 |[]=>none
 |w::a=>if w≠0 then some w else A4 a
def u0 (h:A4 ws=some w):w∈ws/\w≠0:=by
 induction ws with
 |nil=>cases h
 |cons v ws a=>
  unfold A4 at h;split at h
  .rename_i b;cases h;exact⟨by simp,b⟩
  .have:=a h;exact⟨aAe _ this.1,this.2⟩
def N4 (h:A4 ws=none):∀w∈ws,w=0:=by
 induction ws with
 |nil=>intro w a;cases a
 |cons v ws b=>
  unfold A4 at h;split at h
  .cases h
  .rename_i c;intro w a;rcases aAd.mp a with e|e
   .subst e;exact Decidable.not_not.mp c
   .exact b h w e
def K9:List V->Nat
 |[]=>0
 |p::c=>
  let a:=(p::c).map (· -p)
  match A4 a with
  |none=>0
  |some b=>match A4 (a.map<|cr b)with
   |none=>1
   |some d=>if a.any (λw=>decide (d6 d w≠0))then 3 else 2
def j5 (J:List V):Prop:=∃A∈J,∃B∈J,∃C∈J,∃D∈J,i8 (B-A) (C-A) (D-A)≠0
def rQ (h:K9 J=3):j5 J:=by
 match J,h with
 |p::u,h=>
  unfold K9 at h;dsimp only at h;split at h
  .cases h
  .rename_i b e;split at h
   .cases h
   .rename_i f g;split at h
    .rename_i d;obtain⟨i,v⟩:=u0 e;obtain⟨c,w⟩:=u0 g;obtain⟨x,c,j⟩:=aAo.mp c;rw[aDe]at d;obtain⟨k,l,m⟩:=d;obtain⟨B,n,o⟩:=aAo.mp i;obtain⟨C,q,r⟩:=aAo.mp c;obtain⟨D,s,t⟩:=aAo.mp l;refine⟨p,by simp,B,n,C,q,D,s,?_⟩;rw[o,r,t];have a:d6 f k≠0:=by simpa using m
     rw[<-j,U3]at a;exact a
    .cases h
def QF (h:K9 J≠3):¬j5 J:=by
 rintro⟨A,i,B,j,C,k,D,l,s⟩;match J,h,i,j,k,l with
 |p::d,h,i,j,k,l=>
  unfold K9 at h;dsimp only at h;have m:∀X∈p::d,X-p∈(p::d).map (· -p):=λX b=>aAo.mpr ⟨X,b,rfl⟩;have c:∀n:V,n≠0->(∀X∈p::d,d6 n (X-p)=0)->False:=λn t o=>by
   have q:∀X∈p::d,d6 n (X-A)=0:=λX b=>by have f:=o X b;have g:=o A i;rw[f8]at*;lia
   exact s (x5 t (q B j) (q C k)<|q D l)
  split at h
  .rename_i f;have z:=N4 f;refine c ⟨1,0,0⟩ (λe=>by have:=jr V.x e;simp at this) λX b=>?_;rw[z _ (m X b)];exact M6 _
  .rename_i a f;obtain⟨I,v⟩:=u0 f;split at h
   .rename_i g;have z:=N4 g;have w:∀X∈p::d,cr a (X-p)=0:=λX b=>z _ (aAo.mpr ⟨_,m X b,rfl⟩);obtain⟨u,y,L⟩:∃u:V,cr a u≠0/\True:=by
     rcases jJ v with q|q|q
     .exact⟨⟨0,1,0⟩,λe=>q (by have:=jr V.z e;simpa using this),trivial⟩
     .exact⟨⟨1,0,0⟩,λe=>q (by have:=jr V.z e;simpa using this),trivial⟩
     .exact⟨⟨0,1,0⟩,λe=>q (by have:=jr V.x e;simpa using this),trivial⟩
    refine c (cr a u) y λX b=>?_;rw[U3,iX (w X b)]
   .rename_i r g;obtain⟨N,E⟩:=u0 g;split at h
    .exact h rfl
    .rename_i H;refine c r E λX b=>?_;by_cases z:d6 r (X-p)=0
     .exact z
     .exact absurd (aDe.mpr ⟨X-p,m X b,by simpa using z⟩) H
def MJ (h:K9 J<2):∀X∈J,∀Y∈J,∀Z∈J,cr (Y-X) (Z-X)=0:=by
 match J,h with
 |[],_=>intro X b;cases b
 |p::c,h=>
  unfold K9 at h;dsimp only at h;have j:∀X∈p::c,X-p∈(p::c).map (· -p):=λX b=>aAo.mpr ⟨X,b,rfl⟩;intro X b Y l Z n;split at h
  .rename_i g;have z:=N4 g;have e:∀W∈p::c,W=p:=λW i=>by have:=z _ (j W i);have d:=jr V.x this;have f:=jr V.y this;have o:=jr V.z this;simp at d f o;exact ext (by lia) (by lia) (by lia)
   rw[e X b,e Y l,w9];apply ext<;>simp
  .rename_i a g;obtain⟨C,q⟩:=u0 g;split at h
   .rename_i r;have z:=N4 r;have m:∀X∈p::c,cr a (X-p)=0:=λX b=>z _ (aAo.mpr ⟨_,j X b,rfl⟩);have k:∀U∈p::c,∀W∈p::c,cr (U-W) a=0:=λU s W i=>by have d:=m U s;have f:=m W i;have t:=jr V.x d;have u:=jr V.y d;have v:=jr V.z d;have w:=jr V.x f;have A:=jr V.y f;have B:=jr V.z f;simp at t u v w A B;apply ext<;>simp<;>grind
    exact pV q (k Y l X b) (k Z n X b)
   .split at h<;>lia
def JR (h:2<=K9 J):∃X∈J,∃Y∈J,∃Z∈J,cr (Y-X) (Z-X)≠0:=by
 match J,h with
 |[],h=>exact absurd h (by simp[K9])
 |p::m,h=>
  unfold K9 at h;dsimp only at h;split at h
  .lia
  .rename_i a c;obtain⟨d,n⟩:=u0 c;split at h
   .lia
   .rename_i o e;obtain⟨b,f⟩:=u0 e;obtain⟨q,b,g⟩:=aAo.mp b;obtain⟨B,i,j⟩:=aAo.mp d;obtain⟨C,k,l⟩:=aAo.mp b;exact⟨p,by simp,B,i,C,k,by rw[j,l,g];exact f⟩
def j5.off (h:j5 J)(f:n≠0):∃Z∈J,d6 n Z≠d:=by
 obtain⟨A,g,B,i,C,j,D,k,l⟩:=h;by_cases a:d6 n A=d
 .by_cases b:d6 n B=d
  .by_cases c:d6 n C=d
   .by_cases e:d6 n D=d
    .exact absurd (x5 f (by rw[f8];lia) (by rw[f8];lia) (by rw[f8];lia)) l
    .exact⟨D,k,e⟩
   .exact⟨C,j,c⟩
  .exact⟨B,i,b⟩
 .exact⟨A,g,a⟩
def j5.below (h:j5 J)(b:n≠0)(c:∀X∈J,d6 n X<=d):∃Z∈J,d6 n Z<d:=by obtain⟨Z,a,e⟩:=h.off (d:=d) b;exact⟨Z,a,by have:=c Z a;lia⟩
def kk:V:=⟨0,0,1⟩
def f9 (m:V)(J:List V):V×V:=
 let u:=b8 m (m+kk) J
 let a:=x6 u.1 u.2 J
 if K9 a=2 then(m,m+kk)else(a.getD 0 0,a.getD 1 0)
def EQ:ConeM kk (λw=>0<w.x\/(w.x=0/\0<w.y))where
 add:=λ{u v} c d=>by simp;lia
 mul:=λ{k u} a h=>by
  simp;rcases h with h|⟨h,b⟩
  .exact .inl (aBa a h)
  .exact .inr ⟨by rw[h];simp,aBa a b⟩
 irr:=by simp
 inv:=λ{u} k h=>by simpa[kk]using h
def AV (h:d6 n a=0):ConeM a (λw=>d6 n w<0)where
 add:=λ{u v} d e=>by rw[bJ];lia
 mul:=λ{k u} b h=>by rw[u5];exact aBi b h
 irr:=by rw[M6];lia
 inv:=λ{u} k c=>by rw[bJ,u5,h];simpa using c
def M2 (m k:V):m+k-m=k:=ext (by simp;lia) (by simp;lia) (by simp;lia)
def gO (Q:j5 J)(ho:J.Pairwise (λa b=>i4 (b-a)))(hm:m∈J)(hl:∀X∈J,X=m\/i4 (X-m)):
  IsFace J (b8 (f9 m J).1 (f9 m J).2 J).1 (b8 (f9 m J).1 (f9 m J).2 J).2:=by
 have C:ConeM (m+kk-m) (λw=>0<w.x\/(w.x=0/\0<w.y)):=by rw[M2];exact EQ
 have ba:m+kk-m≠0:=by rw[M2];intro e;have:=jr V.z e;simp[kk]at this
 have T:∀P∈J,(0<(P-m).x\/((P-m).x=0/\0<(P-m).y))\/cr (m+kk-m) (P-m)=0:=λP v=>by
  rw[M2];rcases hl P v with e|e
  .right;subst e;rw[w9];apply ext<;>simp
  .unfold i4 at e;rcases e with e|⟨U,e|⟨e2,e3⟩⟩
   .exact .inl (.inl e)
   .exact .inl (.inr ⟨U,e⟩)
   .right;apply ext
    .simp[kk];simp at e2;lia
    .simp[kk];simp at U;lia
    .simp[kk]
 have hx:∃P∈J,0<(P-m).x\/((P-m).x=0/\0<(P-m).y):=by
  by_cases z:∃P∈J,0<(P-m).x\/((P-m).x=0/\0<(P-m).y)
  .exact z
  .exfalso;obtain⟨Z,c,e⟩:=Q.off (n:=⟨1,0,0⟩) (d:=m.x) (λe=>by have:=jr V.x e;simp at this);have w:=(T Z c).resolve_left λq=>z ⟨Z,c,q⟩;rw[M2]at w;have:=jr V.y w;simp[kk]at this;simp[d6]at e
   lia
 obtain⟨j,g,o1,o2,g0,ge,I,gd,f,sB,sO,sP⟩:=V8 C ba T hx;have h:m∈x6 (b8 m (m+kk) J).1 (b8 m (m+kk) J).2 J:=d7.mpr ⟨hm,gd.symm⟩;have k:j∈x6 (b8 m (m+kk) J).1 (b8 m (m+kk) J).2 J:=d7.mpr ⟨o1,sO⟩;have L:m≠j:=λe=>by subst e;rw[w9]at o2;simp at o2
 by_cases h2:K9 (x6 (b8 m (m+kk) J).1 (b8 m (m+kk) J).2 J)=2
 .have e:f9 m J=(m,m+kk):=by unfold f9;simp only[h2,if_true]
  rw[e];obtain⟨X,E,Y,H,Z,c,hc⟩:=JR (J:=x6 (b8 m (m+kk) J).1 (b8 m (m+kk) J).2 J) (by lia);have E:=d7.mp E;have H:=d7.mp H;have c:=d7.mp c;exact⟨I,f,X,E.1,Y,H.1,Z,c.1,E.2,H.2,c.2,hc⟩
 .
  have h1:K9 (x6 (b8 m (m+kk) J).1 (b8 m (m+kk) J).2 J)≠3:=λz=>by obtain⟨A,hA,B,hB,C,hC,D,hD,hd⟩:=rQ z;have hA:=d7.mp hA;have hB:=d7.mp hB;have hC:=d7.mp hC;have hD:=d7.mp hD;exact hd (x5 I.ne (by rw[f8];lia) (by rw[f8];lia) (by rw[f8];lia))
  have bg:K9 (x6 (b8 m (m+kk) J).1 (b8 m (m+kk) J).2 J)<2:=by
   have:K9 (x6 (b8 m (m+kk) J).1 (b8 m (m+kk) J).2 J)<=3:=by
    generalize x6 (b8 m (m+kk) J).1 (b8 m (m+kk) J).2 J=t;unfold K9;split
    .lia
    .dsimp only;split
     .lia
     .split
      .lia
      .split<;>lia
   lia
  have l:=MJ bg;have e:f9 m J=((x6 (b8 m (m+kk) J).1 (b8 m (m+kk) J).2 J).getD 0 0,(x6 (b8 m (m+kk) J).1 (b8 m (m+kk) J).2 J).getD 1 0):=by unfold f9;simp only[h2,if_false]
  rw[e];have ord:(x6 (b8 m (m+kk) J).1 (b8 m (m+kk) J).2 J).Pairwise (λa b=>i4 (b-a)):=aFI _ ho;have i:∀X,X∈x6 (b8 m (m+kk) J).1 (b8 m (m+kk) J).2 J↔X∈J/\d6 (b8 m (m+kk) J).1 X=(b8 m (m+kk) J).2:=λX=>d7;generalize x6 (b8 m (m+kk) J).1 (b8 m (m+kk) J).2 J=t at*
  match t,h,k with
  |[],h,_=>cases h
  |[x],h,k=>simp at h k;exact absurd (h.trans k.symm) L
  |x::y::r,h,k=>
   dsimp only[List.getD_cons_zero,List.getD_cons_succ];have o:i4 (y-x):=(aAy.mp ord).1 y (by simp);have ox:=(i x).mp (by simp);have oy:=(i y).mp (by simp);have p:y-x≠0:=λz=>by rw[z]at o;exact y6.irr o
   have na:d6 (b8 m (m+kk) J).1 (y-x)=0:=by rw[f8];lia
   have C2:=AV na;obtain⟨Z,c,hz⟩:=Q.below I.ne f;obtain⟨s,g2,p1,p2,p0,pe,pp,pd,u,N,O,sP2⟩:=V8 C2 p (J:=J) (λP v=>by
    have:=f P v;by_cases q:d6 (b8 m (m+kk) J).1 P<(b8 m (m+kk) J).2
    .exact .inl (by rw[f8];lia)
    .exact .inr (l x (by simp) y (by simp) P ((i P).mpr ⟨v,by lia⟩))) ⟨Z,c,by rw[f8];lia⟩
   exact⟨pp,u,x,ox.1,y,oy.1,s,p1,pd.symm,N,O,C2.ad4 p p2⟩
def aX {a b:V}(h:a-b=0):a=b:=by have c:=jr V.x h;have d:=jr V.y h;have e:=jr V.z h;simp at c d e;exact ext (by lia) (by lia) (by lia)
def IsFace.aa2 (f:J.Pairwise (λa b=>i4 (b-a)))(h:IsFace J n d):Sheet n (x6 n d J)where
 nz:=h.prim.ne
 pl:=λX g Y i=>by have:=(d7.mp g).2;have:=(d7.mp i).2;rw[f8];lia
 ord:=aFI _ f
 two:=by obtain⟨A,j,B,k,C,l,a,b,c,e⟩:=h.three;refine⟨A,d7.mpr ⟨j,a⟩,B,d7.mpr ⟨k,b⟩,λz=>e ?_⟩;subst z;rw[w9];apply ext<;>simp
def IsFace.ac8 {J:List V}{n:V}{d:Int}(h:IsFace J n d){a b:V}(c:EdgeOf n (λX=>X∈x6 n d J) a b):∃X∈x6 n d J,0<i8 n (b-a) (X-a):=by
 by_cases z:∃X∈x6 n d J,0<i8 n (b-a) (X-a)
 .exact z
 .exfalso;have u:=h.prim.ne;obtain⟨pa,da⟩:=d7.mp c.p;obtain⟨pb,db⟩:=d7.mp c.q;have f:d6 n (b-a)=0:=by rw[f8];lia
  have v:b-a≠0:=λe=>c.ne (aX e).symm;have k:∀X∈J,d6 n X=d->cr (b-a) (X-a)=0:=λX g i=>by have o:=d7.mpr ⟨g,i⟩;have l:=c.left X o;have l':¬0<i8 n (b-a) (X-a):=λq=>z ⟨X,o,q⟩;exact W8 u f (by rw[f8];lia) (by lia)
  obtain⟨A,r,B,w,C,E,s,H,I,e⟩:=h.three;have t:∀X∈J,d6 n X=d->∀Y∈J,d6 n Y=d->cr (X-Y) (b-a)=0:=λX g i Y L N=>by have j:=k X g i;have m:=k Y L N;have O:=jr V.x j;have Q:=jr V.y j;have T:=jr V.z j;have U:=jr V.x m;have b2:=jr V.y m;have b3:=jr V.z m;simp at O Q T U b2 b3;apply ext<;>simp<;>grind
  exact e (pV v (t B w H A r s)<|t C E I A r s)
def LJ (k:j5 J)(c:IsFace J n d)(f:IsFace J m e)(h:EdgeOf n (λX=>X∈x6 n d J) a b)(g:EdgeOf m (λX=>X∈x6 m e J) b a)(i:X∈x6 n d J)(j:0<i8 n (b-a) (X-a)):d6 m X<e:=by
 obtain⟨l,o⟩:=d7.mp i;have y:=f.sup X l;by_cases z:d6 m X=e
 .exfalso;obtain⟨A,r⟩:=d7.mp h.p;obtain⟨pb,s⟩:=d7.mp h.q;obtain⟨_,t⟩:=d7.mp g.q;obtain⟨_,u⟩:=d7.mp g.p;obtain⟨Z,v,w⟩:=k.below c.prim.ne c.sup;have x:cr (b-a) (X-a)≠0:=λq=>by unfold i8 at j;rw[q,M6]at j;lia
  obtain⟨rfl,rfl⟩:=jQ c.prim f.prim c.sup f.sup r s o t u z x v w;have:=g.left X i;have B:i8 n (a-b) (X-b)=-i8 n (b-a) (X-a):=by simp[i8,d6];grind
  lia
 .lia
def zH:List V->V
 |[]=>0
 |X::l=>X+zH l
theorem oM (n:V):∀l:List V,d6 n (zH l)=(l.map (d6 n)).sum
 |[]=>M6 n
 |X::l=>by simp only[zH,aAt,aDM];rw[bJ,oM n l]
theorem BR {α:Type}(f g:α->Int):∀l:List α,(∀x∈l,f x<=g x)->(l.map f).sum<=(l.map g).sum
 |[],_=>aCJ _
 |x::l,h=>by
  simp only[aAt,aDM];have:=h x (by simp);have:=BR f g l (λy a=>h y (aAe _ a))
  lia
theorem DQ {α:Type}(f g:α->Int):∀l:List α,(∀x∈l,f x<=g x)->(∃x∈l,f x<g x)->(l.map f).sum<(l.map g).sum
 |[],_,⟨x,b,_⟩=>by cases b
 |x::l,h,⟨y,a,c⟩=>by
  simp only[aAt,aDM];have d:=h x (by simp);have i:=BR f g l (λy a=>h y (aAe _ a));rcases aAd.mp a with e|e
  .subst e;lia
  .have:=DQ f g l (λy a=>h y (aAe _ a)) ⟨y,e,c⟩
   lia
theorem aE {α:Type}(c:Int):∀l:List α,(l.map λ_=>c).sum=(l.length:Int)*c
 |[]=>by simp
 |x::l=>by simp only[aAt,aDM,aAu];rw[aE c l];push_cast;grind
def B8 (J:List V)(X:V):V:=(J.length:Int)*X-zH J
def T4 (J:List V)(n:V)(d:Int):Int:=(J.length:Int)*d-d6 n (zH J)
def uY (J:List V)(n X:V):d6 n (B8 J X)=(J.length:Int)*d6 n X-d6 n (zH J):=by unfold B8;rw[f8,u5]
def eS (a:j5 J)(b:n≠0)(h:∀X∈J,d6 n X<=d):0<T4 J n d:=by
 unfold T4;rw[oM,<-aE];have:=DQ (d6 n) (λ_=>d) J h (a.below b h)
 lia
def len_pos (a:j5 J):0<(J.length:Int):=by
 obtain⟨A,b,_⟩:=a;have:0<J.length:=aDX b
 lia
def Z3 (h:d6 n X=d):d6 n (B8 J X)=T4 J n d:=by rw[uY,h];rfl
def pK (h:d6 n X<=d):d6 n (B8 J X)<=T4 J n d:=by
 rw[uY];unfold T4;have:=aAO h (show(0:Int)<=J.length by lia)
 lia
def PU (a:0<(J.length:Int))(h:d6 n X<d):d6 n (B8 J X)<T4 J n d:=by
 rw[uY];unfold T4;have:=aEH h a
 lia
def WL (J:List V)(a b X:V):i8 (B8 J a) (B8 J b) (B8 J X)=(J.length:Int)*(J.length:Int)*d6 (B8 J a) (cr (b-a) (X-a)):=by unfold B8;generalize(J.length:Int)=N;generalize zH J=s;simp[i8,d6];grind
def xN (h:cr w c=0)(x y:V):d6 w y*d6 c x=d6 w x*d6 c y:=by
 have e:d6 w y*d6 c x-d6 w x*d6 c y=d6 (cr w c) (cr y x):=by simp[d6];grind
 rw[h]at e;have:d6 0 (cr y x)=0:=by simp[d6]
 lia
def ES (c:j5 J)(e:IsFace J n d)(i:d6 n a=d)(m:d6 n b=d)(o:d6 n X=d)(h:0<i8 n (b-a) (X-a)):0<i8 (B8 J a) (B8 J b) (B8 J X):=by
 rw[WL];have f:=len_pos c;refine aBa (aBa f f) ?_;have g:=e.prim.ne;have p:cr n (cr (b-a)<|X-a)=0:=K8 (by rw[f8];lia) (by rw[f8];lia);have q:=xN p n (B8 J a);have j:0<d6 n (B8 J a):=by rw[Z3 i];exact eS c g e.sup
 have k:0<d6 (cr (b-a)<|X-a) n:=by rw[dJ];exact h
 have r:=aBa j k;have l:=y7 g;rw[dJ (B8 J a)];by_cases z:0<d6 (cr (b-a)<|X-a) (B8 J a)
 .exact z
 .exfalso;have:d6 n n*d6 (cr (b-a)<|X-a) (B8 J a)<=0:=by have:=aAO (show d6 (cr (b-a)<|X-a) (B8 J a)<=0 by lia) (aAT l);simpa using this
  lia
def SG (c:j5 J)(f:IsFace J n d)(i:IsFace J m e)(g:EdgeOf n (λX=>X∈x6 n d J) a b)(j:EdgeOf m (λX=>X∈x6 m e J) b a)(O:d6 m B*T4 J n d<=d6 n B*T4 J m e):0<=i8 (B8 J a) (B8 J b) B:=by
 obtain⟨X,k,l⟩:=f.ac8 g;have v:=LJ c f i g j k l;obtain⟨Q,o⟩:=d7.mp k;obtain⟨T,t⟩:=d7.mp g.p;obtain⟨pb,u⟩:=d7.mp g.q;obtain⟨_,w⟩:=d7.mp j.q;obtain⟨_,x⟩:=d7.mp j.p;have c0:=eS c f.prim.ne f.sup;have U:=eS c i.prim.ne i.sup;have A:=ES c f t u o l;by_cases z:0<=i8 (B8 J a) (B8 J b) B
 .exact z
 .exfalso;have h:∀y,d6 (T4 J n d*m-T4 J m e*n) y=T4 J n d*d6 m y-T4 J m e*d6 n y:=λy=>by rw[dJ,f8,u5,u5,dJ y m,dJ y n]
  have C:d6 (T4 J n d*m-T4 J m e*n) (B8 J a)=0:=by rw[h,Z3 t,Z3 w];grind
  have E:d6 (T4 J n d*m-T4 J m e*n) (B8 J b)=0:=by rw[h,Z3 u,Z3 x];grind
  have H:d6 (T4 J n d*m-T4 J m e*n) (B8 J X)<0:=by
   rw[h,Z3 o];have I:=PU (len_pos c) v;have:=aEH I c0;have Y:T4 J m e*T4 J n d=T4 J n d*T4 J m e:=aEe _ _
   lia
  have p:=xN (K8 C E) (B8 J X) B;have L:d6 (cr (B8 J a)<|B8 J b) (B8 J X)=i8 (B8 J a) (B8 J b) (B8 J X):=U3 _ _ _;have N:d6 (cr (B8 J a)<|B8 J b) B=i8 (B8 J a) (B8 J b) B:=U3 _ _ _;rw[L,N]at p;have r:0<d6 (T4 J n d*m-T4 J m e*n) (B8 J X)*i8 (B8 J a) (B8 J b) B:=Int.mul_pos_of_neg_of_neg H (by lia);rw[<-p]at r;have s:0<d6 (T4 J n d*m-T4 J m e*n) B:=by
   by_cases q:0<d6 (T4 J n d*m-T4 J m e*n) B
   .exact q
   .have:=aAU (show d6 (T4 J n d*m-T4 J m e*n) B<=0 by lia) (aAT A);simp at this;lia
  rw[h]at s;have e4:d6 m B*T4 J n d=T4 J n d*d6 m B:=aEe _ _;have e5:d6 n B*T4 J m e=T4 J m e*d6 n B:=aEe _ _
  lia
def AX {a b c d e f:Int}(g:0<b)(h:0<d)(i:0<f)(j:a*d<=c*b)(k:c*f<=e*d):a*f<=e*b:=by
 have m:=aAU j (aAT i);have n:=aAU k (aAT g);have l:(a*f)*d<=(e*b)*d:=by grind
 exact aEI l h
theorem GQ {α:Type}(p q:α->Int):∀(l:List α),l≠[]->(∀x∈l,0<q x)->∃x∈l,∀y∈l,p y*q x<=p x*q y
 |[],h,_=>absurd rfl h
 |[x],_,_=>⟨x,by simp,λy d=>by simp at d;subst d;exact aCJ _⟩
 |x::y::l,_,b=>by
  obtain⟨z,f,h⟩:=GQ p q (y::l) (by simp) (λw a=>b w (aAe _ a));by_cases c:p x*q z<=p z*q x
  .refine⟨z,aAe _ f,λw a=>?_⟩;rcases aAd.mp a with e|e
   .subst e;exact c
   .exact h w e
  .refine⟨x,by simp,λw a=>?_⟩;rcases aAd.mp a with e|e
   .subst e;exact aCJ _
   .exact AX (b w a) (b z<|aAe _ f) (b x (by simp)) (h w e) (by lia)
theorem vq (h:V->Int):∀(x:V) (l:List V),0<=h x->(∀z,(x::l).getLast?=some z->h z<=0)->l≠[]->∃u v,(u,v)∈t6 (x::l)/\0<=h u/\h v<=0
 |x,[],_,_,b=>absurd rfl b
 |x,y::r,d,a,_=>by
  by_cases c:h y<=0
  .exact⟨x,y,by simp[t6],d,c⟩
  .match r,a with
   |[],a=>exact absurd (a y rfl) c
   |z::r,a=>obtain⟨u,v,m,p⟩:=vq h y (z::r) (by lia) (λw e=>a w (by rw[aBf];exact e)) (by simp);exact⟨u,v,by simp only[t6]at m⊢;exact aAe _ m,p⟩
theorem lX:∀(l:List V) (x z w:V),(x::l).getLast?=some z->(z,w)∈t6 (x::l++[w])
 |[],x,z,w,h=>by simp at h;subst h;simp[t6]
 |y::l,x,z,w,h=>by rw[aBf]at h;have:=lX l y z w h;simp only[aAI,t6]at this⊢;exact aAe _ this
theorem gQ:∀(l:List V) (x w:V),∀e∈t6 (x::l),e∈t6 (x::l++[w])
 |[],x,w,e,h=>by simp[t6]at h
 |y::l,x,w,e,h=>by
  simp only[aAI,t6]at h⊢;rcases aAd.mp h with q|q
  .subst q;simp
  .exact aAe _ (gQ l y w e q)
def V6 (f:J.Pairwise (λa b=>i4 (b-a)))(c:IsFace J n d):∃r s t l,j8 n (x6 n d J)=r::s::t::l:=by
 have S:=c.aa2 f;obtain⟨r,l,e,_⟩:=S.ab5;match l,e with
 |[],e=>
  have h:(r,r)∈U7 (j8 n<|x6 n d J):=by rw[e];simp[U7]
  exact absurd rfl (S.pair h).ne
 |[s],e=>
  have g:(r,s)∈U7 (j8 n<|x6 n d J):=by rw[e];simp[U7]
  have i:(s,r)∈U7 (j8 n<|x6 n d J):=by rw[e];simp[U7]
  have j:=S.pair g;have k:=S.pair i;obtain⟨X,m,o⟩:=c.ac8 j;have:=k.left X m;have p:i8 n (r-s) (X-s)=-i8 n (s-r) (X-r):=by simp[i8,d6];grind
  lia
 |s::t::l,e=>exact⟨r,s,t,l,e⟩
def rS (N:j5 J)(ho:J.Pairwise (λa b=>i4 (b-a)))(fs:List (V×Int))(ba:fs≠[])(hf:∀f∈fs,IsFace J f.1 f.2)(hc:∀f∈fs,∀a b,EdgeOf f.1 (λX=>X∈x6 f.1 f.2 J) a b->∃g∈fs,EdgeOf g.1 (λX=>X∈x6 g.1 g.2 J) b a)(w:IsFace J n d):(n,d)∈fs:=by
 obtain⟨B,hBd⟩:∃B,B=zH ((x6 n d J).map (B8 J)):=⟨_,rfl⟩;have dB:∀m,d6 m B=((x6 n d J).map λX=>d6 m (B8 J X)).sum:=λm=>by rw[hBd,oM,aCr];rfl
 have cn:=eS N w.prim.ne w.sup;have ub:∀m e,(∀X∈J,d6 m X<=e)->d6 m B<=((x6 n d J).length:Int)*T4 J m e:=λm e hm=>by rw[dB,<-aE];exact BR _ _ _ λX i=>pK (hm X (d7.mp i).1)
 have eB:d6 n B=((x6 n d J).length:Int)*T4 J n d:=by rw[dB,<-aE];congr 1;exact aEv λX i=>Z3 (d7.mp i).2
 obtain⟨⟨m,e⟩,hm,htop⟩:=GQ (λf:V×Int=>d6 f.1 B) (λf=>T4 J f.1 f.2) fs ba λf h=>eS N (hf f h).prim.ne (hf f h).sup;have j:=hf _ hm;have O:∀a b,EdgeOf m (λX=>X∈x6 m e J) a b->0<=i8 (B8 J a) (B8 J b) B:=λa b hab=>by obtain⟨g,hg,hg2⟩:=hc _ hm a b hab;exact SG N j (hf g hg) hab hg2 (htop g hg)
 have S:=j.aa2 ho;obtain⟨r,s,t,l,er⟩:=V6 ho j;have nd:=S.aa5;have pr:=λ{P Q}=>S.aa1 (P:=P) (Q:=Q);rw[er]at pr nd;have rm:r∈j8 m (x6 m e J):=by rw[er];simp
 have on:∀X∈r::s::t::l,d6 m X=e:=λX i=>by rw[<-er]at i;exact(d7.mp<|S.aa3 i).2
 obtain⟨z,hz⟩:∃z,(s::t::l).getLast?=some z:=by simp[aEN]
 have c1:(r,s)∈U7 (r::s::t::l):=by rw[V9];simp[t6]
 have c2:(z,r)∈U7 (r::s::t::l):=by rw[V9];exact lX _ _ _ _ (by rw[aBf];exact hz)
 have w1:=O _ _ (pr.mp c1);have w2:=O _ _ (pr.mp c2);obtain⟨u,v,T,hu,hv⟩:=vq (λX=>i8 (B8 J r) (B8 J X) B) s (t::l) w1 (λy hy=>by
  have:y=z:=aAl (hy.symm.trans hz);subst this;have e1:i8 (B8 J r) (B8 J y) B=-i8 (B8 J y) (B8 J r) B:=by simp[i8,d6];grind
  lia) (by simp)
 have c3:(u,v)∈U7 (r::s::t::l):=by rw[V9];have:=gQ (t::l) s r _ T;simp only[aAI,t6]at this⊢;exact aAe _ this
 have g3:=pr.mp c3;have U:u∈s::t::l/\v∈s::t::l:=by
  have:=T;have hh:∀(l:List V) (p q:V),(p,q)∈t6 l->p∈l/\q∈l:=λl=>by
   induction l with
   |nil=>intro p q h;simp[t6]at h
   |cons x l ih=>
    intro p q h;match l,h,ih with
    |[],h,_=>simp[t6]at h
    |y::l,h,ih=>
     simp only[t6]at h;rcases aAd.mp h with c|c
     .cases c;simp
     .have:=ih p q c;exact⟨aAe _ this.1,aAe _ this.2⟩
  exact hh _ _ _ T
 have nr:=(aAR.mp nd).1;have ru:r≠u:=λq=>by subst q;exact nr U.1
 have rv:r≠v:=λq=>by subst q;exact nr U.2
 have st:=S.strict g3 rm ru rv;have du:=on u (aAe _ U.1);have dv:=on v (aAe _ U.2);have dr:=on r (by simp);have D0:=ES N j du dv dr st;have w3:=O _ _ g3;have k:=BF B (B8 J r) (B8 J u) (B8 J v);have a1:i8 B (B8 J u) (B8 J v)=i8 (B8 J u) (B8 J v) B:=by simp[i8,d6];grind
 have a2:i8 B (B8 J v) (B8 J r)=-i8 (B8 J r) (B8 J v) B:=by simp[i8,d6];grind
 have a3:i8 B (B8 J r) (B8 J u)=i8 (B8 J r) (B8 J u) B:=by simp[i8,d6];grind
 have a4:i8 (B8 J r) (B8 J u) (B8 J v)=i8 (B8 J u) (B8 J v) (B8 J r):=by simp[i8,d6];grind
 rw[a1,a2,a3,a4]at k;obtain⟨E,hal⟩:∃E,E=i8 (B8 J u) (B8 J v) B:=⟨_,rfl⟩;obtain⟨H,hbe⟩:∃H,H=-i8 (B8 J r) (B8 J v) B:=⟨_,rfl⟩;obtain⟨I,hga⟩:∃I,I=i8 (B8 J r) (B8 J u) B:=⟨_,rfl⟩;obtain⟨o,hDe⟩:∃o,o=i8 (B8 J u) (B8 J v) (B8 J r):=⟨_,rfl⟩;rw[<-hal,<-hbe,<-hga,<-hDe]at k;have al0:0<=E:=by lia
 have be0:0<=H:=by lia
 have ga0:0<=I:=by lia
 have De0:0<o:=by lia
 have cd:∀f:V,o*d6 f B=I*d6 f (B8 J v)+E*d6 f (B8 J r)+H*d6 f (B8 J u):=λf=>by
  have:=jr (d6 f) k;rw[bJ,bJ,u5,u5,u5,u5]at this
  lia
 have q1:=cd m;rw[Z3 dr,Z3 du,Z3 dv]at q1;have q2:=cd n;have cm:=eS N j.prim.ne j.sup;have pt:∀X∈r::s::t::l,X∈J:=λX i=>by rw[<-er]at i;exact(d7.mp<|S.aa3 i).1
 have r1:=pK (J:=J) (w.sup r (pt r (by simp)));have r2:=pK (J:=J) (w.sup u<|pt u<|aAe _ U.1);have r3:=pK (J:=J) (w.sup v<|pt v<|aAe _ U.2);have s1:=aAO r1 al0;have s2:=aAO r2 be0;have s3:=aAO r3 ga0;obtain⟨L,hL⟩:∃L:Int,L=((x6 n d J).length:Int):=⟨_,rfl⟩;have ub1:=ub m e j.sup;rw[<-hL]at eB ub1;have k1:o*L<=E+H+I:=by
  have:(o*L)*T4 J n d<=(E+H+I)*T4 J n d:=by
   rw[eB]at q2;have e1:o*L*T4 J n d=o*(L*T4 J n d):=aGa _ _ _;have e2:(E+H+I)*T4 J n d=E*T4 J n d+H*T4 J n d+I*T4 J n d:=by grind
   lia
  exact aEI this cn
 have k2:o*d6 m B=(E+H+I)*T4 J m e:=by rw[q1];grind
 have k3:(o*L)*T4 J m e<=o*d6 m B:=by rw[k2];exact aAU k1 (aAT cm)
 have k4:L*T4 J m e<=d6 m B:=by rw[aGa]at k3;exact Int.le_of_mul_le_mul_left k3 De0
 have all:∀X∈x6 n d J,d6 m X=e:=λX i=>by
  have le:d6 m X<=e:=j.sup X (d7.mp i).1;by_cases z:d6 m X=e
  .exact z
  .exfalso;have:=DQ (λX=>d6 m (B8 J X)) (λ_=>T4 J m e) (x6 n d J) (λY hY=>pK (j.sup Y (d7.mp hY).1)) ⟨X,i,PU (len_pos N) (by lia)⟩;rw[<-dB,aE,<-hL]at this
   lia
 obtain⟨A,hA,B',hB',C,hC,ea,eb,ec,hcr⟩:=w.three;obtain⟨Z,hZ,hz⟩:=N.below w.prim.ne w.sup;obtain⟨rfl,rfl⟩:=jQ w.prim j.prim w.sup j.sup ea eb ec (all A<|d7.mpr ⟨hA,ea⟩) (all B'<|d7.mpr ⟨hB',eb⟩) (all C<|d7.mpr ⟨hC,ec⟩) hcr hZ hz;exact hm
def l4 (J:List V)(f:V×Int):List V:=j8 f.1 (x6 f.1 f.2 J)
structure LInv (J:List V)(p0:V×V)(fs:List (V×Int))(walked:V×V->Prop)(waiting:List (V×V)):Prop where
 face:∀f∈fs,IsFace J f.1 f.2
 nd:fs.Nodup
 wk:∀e,walked e↔∃f∈fs,e∈U7 (l4 J f)
 cl:∀f∈fs,∀a b,(a,b)∈U7 (l4 J f)->(∃g∈fs,(b,a)∈U7 (l4 J g))\/(b,a)∈waiting
 wt:∀p∈waiting,(∃f∈fs,(p.2,p.1)∈U7 (l4 J f))\/(fs=[]/\p=p0)
 ne:fs=[]->waiting=[p0]
structure Good (J:List V)(m:V):Prop where
 solid:j5 J
 ord:J.Pairwise (λa b=>i4 (b-a))
 mem:m∈J
 least:∀X∈J,X=m\/i4 (X-m)
section
variable{J:List V} {m:V} (G:Good J m) {fs:List (V×Int)} {walked:V×V->Prop} {waiting rest:List (V×V)} {p:V×V}
include G
theorem DJ:LInv J (f9 m J) [] (λ_=>False) [f9 m J]where
 face:=λf h=>by cases h
 nd:=aDh
 wk:=λe=>⟨λh=>h.elim,λ⟨f,h,_⟩=>by cases h⟩
 cl:=λf h=>by cases h
 wt:=λq h=>.inr ⟨rfl,by simpa using h⟩
 ne:=λ_=>rfl
theorem NK (h:LInv J (f9 m J) fs walked waiting)(i:waiting=rest++[p])(j:walked p):LInv J (f9 m J) fs walked rest:=by
 have g:∀q,q∈waiting↔q=p\/q∈rest:=λq=>by rw[i];simp[or_comm]
 obtain⟨k,c,l⟩:=(h.wk p).mp j;have n:fs≠[]:=λe=>by subst e;cases c
 refine⟨h.face,h.nd,h.wk,λf o a b d=>?_,λq r=>h.wt q ((g q).mpr (.inr r)),λe=>absurd e n⟩;rcases h.cl f o a b d with q|q
 .exact .inl q
 .rcases(g (b,a)).mp q with z|z
  .subst z;exact .inl ⟨k,c,l⟩
  .exact .inr z
theorem zQ (h:LInv J (f9 m J) fs walked waiting)(d:p∈waiting)(e:¬walked p):IsFace J (b8 p.1 p.2 J).1 (b8 p.1 p.2 J).2/\b8 p.1 p.2 J∉fs/\(fs≠[]->p∈U7 (l4 J (b8 p.1 p.2 J))):=by
 rcases h.wt p d with⟨f,g,i⟩|⟨j,k⟩
 .have a:=h.face f g;have S:=a.aa2 G.ord;have l:=S.aa1.mp i;obtain⟨b,n⟩:=tL a.prim.ne a.sup (G.solid.below a.prim.ne a.sup) l;have o:=b.aa2 G.ord;have c:p∈U7 (l4 J<|b8 p.1 p.2 J):=o.aa1.mpr n;exact⟨b,λz=>e ((h.wk p).mpr ⟨_,z,c⟩),λ_=>c⟩
 .subst j k;exact⟨gO G.solid G.ord G.mem G.least,by simp,λz=>absurd rfl z⟩
theorem ME (h:LInv J (f9 m J) fs walked waiting)(l:waiting=rest++[p])(o:¬walked p){walked':V×V->Prop}(r:∀e,walked' e↔walked e\/e∈U7 (l4 J (b8 p.1 p.2 J)))(j:∀q,q∈waiting'↔q∈rest\/(q.2,q.1)∈U7 (l4 J (b8 p.1 p.2 J))):
  LInv J (f9 m J) (fs++[b8 p.1 p.2 J]) walked' waiting':=by
 have k:∀q,q∈waiting↔q=p\/q∈rest:=λq=>by rw[l];simp[or_comm]
 obtain⟨s,t,u⟩:=zQ G h ((k p).mpr (.inl rfl)) o;refine⟨λf c=>?_,?_,λe=>?_,λf c a b i=>?_,λq v=>?_,λe=>by simp at e⟩
 .rcases aAQ.mp c with z|z
  .exact h.face f z
  .have:f=b8 p.1 p.2 J:=by simpa using z
   subst this;exact s
 .rw[aCH];exact⟨h.nd,by simp,λa w b x=>λe=>by
   have:b=b8 p.1 p.2 J:=by simpa using x
   subst e this;exact t w⟩
 .rw[r,h.wk];constructor
  .rintro(⟨f,c,d⟩|d)
   .exact⟨f,aBF _ c,d⟩
   .exact⟨_,aAE _ (by simp),d⟩
  .rintro⟨f,c,d⟩;rcases aAQ.mp c with z|z
   .exact .inl ⟨f,z,d⟩
   .have:f=b8 p.1 p.2 J:=by simpa using z
    subst this;exact .inr d
 .rcases aAQ.mp c with z|z
  .rcases h.cl f z a b i with⟨g,A,e⟩|q
   .exact .inl ⟨g,aBF _ A,e⟩
   .rcases(k (b,a)).mp q with y|y
    .have B:fs≠[]:=λe=>by subst e;cases z
     exact .inl ⟨b8 p.1 p.2 J,aAE _ (by simp),by rw[y];exact u B⟩
    .exact .inr ((j _).mpr (.inl y))
  .have:f=b8 p.1 p.2 J:=by simpa using z
   subst this;exact .inr ((j _).mpr (.inr i))
 .rcases(j q).mp v with z|z
  .rcases h.wt q ((k q).mpr (.inr z))with⟨f,c,e⟩|⟨C,E⟩
   .exact .inl ⟨f,aBF _ c,e⟩
   .have:=h.ne C;exfalso;rw[l]at this;have n:=jr List.length this;simp at n;subst n;cases z
  .exact .inl ⟨_,aAE _ (by simp),z⟩
theorem MU (h:LInv J (f9 m J) fs walked []):fs≠[]/\∀n d,(n,d)∈fs↔IsFace J n d:=by
 have j:fs≠[]:=λe=>by have:=h.ne e;cases this
 refine⟨j,λn d=>⟨λc=>h.face _ c,λc=>?_⟩⟩;refine rS G.solid G.ord fs j h.face (λf c a b i=>?_) c;have S:=(h.face f c).aa2 G.ord;rcases h.cl f c a b (S.aa1.mpr i)with⟨g,k,e⟩|q
 .exact⟨g,k,((h.face g k).aa2 G.ord).aa1.mp e⟩
 .cases q
end
def kA (h:IsFace J n d):∃A∈J,∃B∈J,∃C∈J,cr (B-A) (C-A)≠0/\d4 A B C=(n,d):=by
 obtain⟨A,r,B,f,C,i,a,b,c,e⟩:=h.three;have j:∀B∈J,∀C∈J,d6 n B=d->d6 n C=d->cr (B-A) (C-A)≠0->0<d6 n (cr (B-A)<|C-A)->d4 A B C=(n,d):=λB f C i b c e m=>by
  obtain⟨g,w,E,H,I⟩:=V1 e;have p:cr n (cr (B-A)<|C-A)=0:=K8 (by rw[f8];lia) (by rw[f8];lia);obtain⟨k,l,s,o⟩:=A5 h.prim.ne p;have L:0<l:=by
   have q:=jr (d6 n) o;rw[u5,u5]at q;have:=aBa s m;have N:=y7 h.prim.ne;by_cases z:0<l
   .exact z
   .have:=aAU (show l<=0 by lia) (aAT N);simp at this;lia
  rw[E]at o;have O:(k*g)*(d4 A B C).1=l*n:=by rw[<-o];apply ext<;>simp<;>grind
  have t:=nG H h.prim (aBa s w) L O;refine aEQ t ?_;rw[I,t];exact a
 by_cases z:0<d6 n (cr (B-A)<|C-A)
 .exact⟨A,r,B,f,C,i,e,j B f C i b c e z⟩
 .have u:cr (C-A) (B-A)=-cr (B-A) (C-A):=by apply ext<;>simp<;>grind
  have v:cr (C-A) (B-A)≠0:=λq=>e (by rw[u]at q;have Q:=jr V.x q;have T:=jr V.y q;have U:=jr V.z q;simp only[XO,XM,YN,W3,V4,W2]at Q T U;exact ext (by simp only[W3];lia) (by simp only[V4];lia) (by simp only[W2];lia))
  have Y:d6 n (cr (B-A)<|C-A)≠0:=λq=>e (W8 h.prim.ne (by rw[f8];lia) (by rw[f8];lia) q);refine⟨A,r,C,i,B,f,v,j C i B f c b v ?_⟩;have:d6 n (cr (C-A)<|B-A)=-d6 n (cr (B-A)<|C-A):=by rw[u];simp[d6];grind
  lia
def cands (J:List V):List (V×Int):=J.flatMap λA=>J.flatMap λB=>J.map λC=>d4 A B C
def IS (J:List V):(cands J).length=J.length*(J.length*J.length):=by
 unfold cands;have h:∀(l:List V) (f:V->List (V×Int)) (k:Nat),(∀x,(f x).length=k)->(l.flatMap f).length=l.length*k:=λl f k a=>by
  induction l with
  |nil=>simp
  |cons x l b=>rw[List.flatMap_cons,aAF,b,a,aAu,Nat.succ_mul,Nat.add_comm]
 rw[h J _ (J.length*J.length) λA=>h J _ J.length λB=>by simp]
theorem J5 {α:Type}[DecidableEq α]:∀{l m:List α},l.Nodup->(∀x∈l,x∈m)->l.length<=m.length
 |[],_,_,_=>aBe _
 |x::l,m,h,a=>by
  have b:=a x (by simp);have c:=aAR.mp h;have:=J5 (l:=l) (m:=m.erase x) c.2 (λy d=>by
   have ne:y≠x:=λe=>by subst e;exact c.1 d
   exact(aFJ ne).mpr (a y<|aAe _ d))
  rw[aFb b]at this;have:0<m.length:=aDX b;simp only[aAu]
  lia
def JT {J:List V}{fs:List (V×Int)}(a:fs.Nodup)(b:∀f∈fs,IsFace J f.1 f.2):fs.length<=J.length*(J.length*J.length):=by rw[<-IS];refine J5 a λf h=>?_;obtain⟨A,c,B,d,C,g,_,e⟩:=kA (b f h);unfold cands;rw[aBx];refine⟨A,c,?_⟩;rw[aBx];exact⟨B,d,aAo.mpr ⟨C,g,e⟩⟩
section
variable{J:List V} (hs:j5 J) (ho:J.Pairwise (λa b=>i4 (b-a)))
include hs ho
theorem kG (c:IsFace J n d)(h:EdgeOf n (λX=>X∈x6 n d J) a b):
 IsFace J (b8 b a J).1 (b8 b a J).2/\EdgeOf (b8 b a J).1 (λX=>X∈x6 (b8 b a J).1 (b8 b a J).2 J) b a:=tL c.prim.ne c.sup (hs.below c.prim.ne c.sup) h
theorem iV (c:IsFace J n d)(e:EdgeOf n (λX=>X∈x6 n d J) a b)(f:EdgeOf n (λX=>X∈x6 n d J) b a):False:=by
 obtain⟨X,g,h⟩:=c.ac8 e;have:=f.left X g;have i:i8 n (a-b) (X-b)=-i8 n (b-a) (X-a):=by simp[i8,d6];grind
 lia
theorem xC (a:IsFace J n d)(l:X∈l4 J (n,d)):∃f g:V×Int,IsFace J f.1 f.2/\IsFace J g.1 g.2/\(n,d)≠f/\(n,d)≠g/\f≠g/\d6 n X=d/\d6 f.1 X=f.2/\d6 g.1 X=g.2:=by
 have S:=a.aa2 ho;obtain⟨Y,r⟩:=bP S l;obtain⟨W,m⟩:=MQ S l;have b:=S.aa1.mp r;have h:=S.aa1.mp m;obtain⟨j,c⟩:=kG hs ho a b;obtain⟨s,i⟩:=kG hs ho a h;have k:W≠Y:=λe=>by subst e;exact iV hs ho a b h
 refine⟨_,_,j,s,λe=>?_,λe=>?_,λe=>?_,(d7.mp b.p).2,(d7.mp c.q).2,(d7.mp i.p).2⟩
 .rw[<-e]at c;exact iV hs ho a b c
 .rw[<-e]at i;exact iV hs ho a h i
 .
  have st:=S.strict b (wT S m).1 (h.ne) k;have t:=(d7.mp h.p).2;have u:=(d7.mp b.p).2;have v:=(d7.mp b.q).2;have w:=(d7.mp c.p).2;have x:=(d7.mp c.q).2;have o:=(d7.mp i.q).2;rw[<-e]at o;have y:cr (Y-X) (W-X)≠0:=λq=>by unfold i8 at st;rw[q,M6]at st;lia
  obtain⟨Z,z,A⟩:=hs.below a.prim.ne a.sup;obtain⟨B,C⟩:=jQ a.prim j.prim a.sup j.sup u v t x w o y z A;have:(n,d)=b8 Y X J:=aEQ B C;rw[<-this]at c;exact iV hs ho a b c
theorem HR (o:IsFace J n d)(f:IsFace J m e)(h:EdgeOf n (λX=>X∈x6 n d J) a b)(ga:d6 m a=e)(gb:d6 m b=e):(m,e)=(n,d)\/(m,e)=b8 b a J:=by
 obtain⟨pa,da⟩:=d7.mp h.p;obtain⟨pb,db⟩:=d7.mp h.q;obtain⟨E,H⟩:=kG hs ho o h;have hab:d6 n (a-b)=0:=by rw[f8];lia
 have C:=sS (n:=n) o.prim.ne hab;have ba:a-b≠0:=λq=>h.ne (aX q);obtain⟨P,pP,eP,hP⟩:∃P∈J,d6 m P=e/\cr (a-b) (P-b)≠0:=by
  by_cases z:∃P∈J,d6 m P=e/\cr (a-b) (P-b)≠0
  .exact z
  .exfalso;obtain⟨A,hA,B,hB,D,hD,eA,eB,eD,hc⟩:=f.three;have k:∀X∈J,d6 m X=e->cr (a-b) (X-b)=0:=λX hX dX=>by
    by_cases q:cr (a-b) (X-b)=0
    .exact q
    .exact absurd ⟨X,hX,dX,q⟩ z
   have k2:∀X∈J,d6 m X=e->∀Y∈J,d6 m Y=e->cr (X-Y) (a-b)=0:=λX hX dX Y hY dY=>by have r:=k X hX dX;have c:=k Y hY dY;have a1:=jr V.x r;have a2:=jr V.y r;have a3:=jr V.z r;have H:=jr V.x c;have b2:=jr V.y c;have b3:=jr V.z c;simp at a1 a2 a3 H b2 b3;apply ext<;>simp<;>grind
   exact hc (pV ba (k2 B hB eB A hA eA)<|k2 D hD eD A hA eA)
 have mab:d6 m (a-b)=0:=by rw[f8];lia
 have mP:d6 m (P-b)=0:=by rw[f8];lia
 have par:cr m (cr (a-b)<|P-b)=0:=K8 mab mP;obtain⟨k,l,hk,I⟩:=A5 f.prim.ne par;have dl:∀w,k*i8 (a-b) (P-b) w=l*d6 m w:=λw=>by have:=jr (λv=>d6 v w) I;simp only[G3,U3]at this;exact this
 have l0:l≠0:=λq=>hP (by rw[q,u8]at I;have r:=jr V.x I;have c:=jr V.y I;have q3:=jr V.z I;simp only[LY,RN,PJ,W3,V4,W2]at r c q3;exact ext ((aAv.mp r).resolve_left (by lia)) ((aAv.mp c).resolve_left (by lia)) ((aAv.mp q3).resolve_left (by lia)))
 have L:∀Q∈J,d6 m (Q-b)<=0:=λQ hQ=>by rw[f8];have:=f.sup Q hQ;lia
 obtain⟨Z,hZ,hz⟩:=hs.below o.prim.ne o.sup;by_cases hl:0<l
 .
  right;obtain⟨O,hO,eO⟩:∃O∈x6 (b8 b a J).1 (b8 b a J).2 J,0<i8 (b8 b a J).1 (a-b) (O-b):=E.ac8 H;obtain⟨pO,dO⟩:=d7.mp hO;obtain⟨_,e1b⟩:=d7.mp H.p;obtain⟨_,e1a⟩:=d7.mp H.q;have t1:i8 (a-b) (P-b) (O-b)<=0:=by
   have q:=dl (O-b);have:=aAO (L O pO) (aAT hl);rw[aEf]at this;by_cases z:i8 (a-b) (P-b) (O-b)<=0
   .exact z
   .have:=aBa hk (show 0<i8 (a-b) (P-b) (O-b)by lia);lia
  have g:cr (b8 b a J).1 (cr (a-b)<|O-b)=0:=K8 (by rw[f8];lia) (by rw[f8];lia);obtain⟨k',s,N,i⟩:=A5 E.prim.ne g;have j:∀w,k'*i8 (a-b) (O-b) w=s*d6 (b8 b a J).1 w:=λw=>by have:=jr (λv=>d6 v w) i;simp only[G3,U3]at this;exact this
  have ju:0<s:=by
   have q:=jr (d6 (b8 b a J).1) i;rw[u5,u5]at q;have c:0<d6 (b8 b a J).1 (cr (a-b)<|O-b):=eO;have:=aBa N c;have hn:=y7 E.prim.ne;by_cases z:0<s
   .exact z
   .have:=aAU (show s<=0 by lia) (aAT hn);simp at this;lia
  have t2:i8 (a-b) (O-b) (P-b)<=0:=by
   have q:=j (P-b);have h0:d6 (b8 b a J).1 (P-b)<=0:=by rw[f8];have:=E.sup P pP;lia
   have:=aAO h0 (aAT ju);rw[aEf]at this;by_cases z:i8 (a-b) (O-b) (P-b)<=0
   .exact z
   .have:=aBa N (show 0<i8 (a-b) (O-b) (P-b)by lia);lia
  have t3:i8 (a-b) (O-b) (P-b)=0:=by rw[j7]at t1;lia
  have T:=j (P-b);rw[t3,aEf]at T;have U:d6 (b8 b a J).1 P=(b8 b a J).2:=by have:=(aAv.mp T.symm).resolve_left (by lia);rw[f8]at this;lia
  obtain⟨Z',t,u⟩:=hs.below f.prim.ne f.sup;obtain⟨r,c⟩:=jQ f.prim E.prim f.sup E.sup gb ga eP e1b e1a U hP t u;exact aEQ r c
 .
  left;have oa:l<0:=by lia
  obtain⟨O,hO,eO⟩:=o.ac8 h;obtain⟨pO,dO⟩:=d7.mp hO;rw[qM]at eO;have t1:0<=i8 (a-b) (P-b) (O-b):=by
   have q:=dl (O-b);have h2:0<=l*d6 m (O-b):=by
    have:=aBX (show 0<=-l by lia) (show 0<=-d6 m (O-b)by have:=L O pO;lia)
    rwa [aDp]at this
   by_cases z:0<=i8 (a-b) (P-b) (O-b)
   .exact z
   .have:=aBi hk (show i8 (a-b) (P-b) (O-b)<0 by lia);lia
  have g:cr n (cr (b-a)<|O-b)=0:=K8 (by rw[f8];lia) (by rw[f8];lia);obtain⟨k',s,N,i⟩:=A5 o.prim.ne g;have j:∀w,k'*i8 (b-a) (O-b) w=s*d6 n w:=λw=>by have:=jr (λv=>d6 v w) i;simp only[G3,U3]at this;exact this
  have ju:0<s:=by
   have q:=jr (d6 n) i;rw[u5,u5]at q;have c:0<d6 n (cr (b-a)<|O-b):=eO;have:=aBa N c;have hn:=y7 o.prim.ne;by_cases z:0<s
   .exact z
   .have:=aAU (show s<=0 by lia) (aAT hn);simp at this;lia
  have t2:i8 (b-a) (O-b) (P-b)<=0:=by
   have q:=j (P-b);have h0:d6 n (P-b)<=0:=by rw[f8];have:=o.sup P pP;lia
   have:=aAO h0 (aAT ju);rw[aEf]at this;by_cases z:i8 (b-a) (O-b) (P-b)<=0
   .exact z
   .have:=aBa N (show 0<i8 (b-a) (O-b) (P-b)by lia);lia
  have e3:i8 (b-a) (O-b) (P-b)=i8 (a-b) (P-b) (O-b):=by simp[i8,d6];grind
  have t3:i8 (b-a) (O-b) (P-b)=0:=by lia
  have T:=j (P-b);rw[t3,aEf]at T;have onn:d6 n P=d:=by have:=(aAv.mp T.symm).resolve_left (by lia);rw[f8]at this;lia
  obtain⟨Z',t,u⟩:=hs.below f.prim.ne f.sup;obtain⟨r,c⟩:=jQ f.prim o.prim f.sup o.sup gb ga eP db da onn hP t u;exact aEQ r c
end
def zU (i:j5 J)(j:m∈J)(k:∀X∈J,X=m\/i4 (X-m)):
  X3 (b8 m (m+kk) J).1/\m∈x6 (b8 m (m+kk) J).1 (b8 m (m+kk) J).2 J/\∃a∈x6 (b8 m (m+kk) J).1 (b8 m (m+kk) J).2 J,m≠a:=by
 have C:ConeM (m+kk-m) (λw=>0<w.x\/(w.x=0/\0<w.y)):=by rw[M2];exact EQ
 have l:m+kk-m≠0:=by rw[M2];intro e;have:=jr V.z e;simp[kk]at this
 have b:∀P∈J,(0<(P-m).x\/((P-m).x=0/\0<(P-m).y))\/cr (m+kk-m) (P-m)=0:=λP o=>by
  rw[M2];rcases k P o with e|e
  .right;subst e;rw[w9];apply ext<;>simp
  .unfold i4 at e;rcases e with e|⟨c,e|⟨p,B⟩⟩
   .exact .inl (.inl e)
   .exact .inl (.inr ⟨c,e⟩)
   .right;apply ext
    .simp[kk];simp at p;lia
    .simp[kk];simp at c;lia
    .simp[kk]
 have r:∃P∈J,0<(P-m).x\/((P-m).x=0/\0<(P-m).y):=by
  by_cases z:∃P∈J,0<(P-m).x\/((P-m).x=0/\0<(P-m).y)
  .exact z
  .exfalso;obtain⟨Z,f,e⟩:=i.off (n:=⟨1,0,0⟩) (d:=m.x) (λe=>by have:=jr V.x e;simp at this);have w:=(b Z f).resolve_left λq=>z ⟨Z,f,q⟩;rw[M2]at w;have:=jr V.y w;simp[kk]at this;simp[d6]at e
   lia
 obtain⟨a,g,s,h,E,H,t,u,v,I,A,L⟩:=V8 C l b r;refine⟨t,d7.mpr ⟨j,u.symm⟩,a,d7.mpr ⟨s,A⟩,λe=>?_⟩;subst e;rw[w9]at h;simp at h
section
variable{J:List V} (hs:j5 J) (ho:J.Pairwise (λa b=>i4 (b-a)))
include hs ho
theorem OV (c:IsFace J f.1 f.2)(d:IsFace J g.1 g.2)(j:(a,b)∈U7 (l4 J f))(k:(a,b)∈U7 (l4 J g)):f=g:=by
 have h:=(c.aa2 ho).aa1.mp j;have e:=(d.aa2 ho).aa1.mp k;obtain⟨l,i⟩:=kG hs ho c h;rcases HR hs ho c d h (d7.mp e.p).2 (d7.mp e.q).2 with q|q
 .exact q.symm
 .exfalso;have:g=b8 b a J:=q;rw[<-this]at i;exact iV hs ho d e i
theorem HM (h:l.Nodup):(U7 l).Nodup:=by
 have:((U7 l).map (·.1)).Nodup:=by
  unfold U7;rw[List.map_fst_zip]
  .exact h
  .simp;lia
 exact(aBB.mp this).imp λ{a b} h e=>h (by rw[e])
def IR (J:List V)(fs:List (V×Int)):List (V×V):=fs.flatMap λf=>U7 (l4 J f)
omit hs ho in
theorem QI (fs:List (V×Int)):(IR J fs).length=(fs.map λf=>(l4 J f).length).sum:=by
 induction fs with
 |nil=>rfl
 |cons f fs a=>show(U7 (l4 J f)++IR J fs).length=_;rw[aAF,a,aAt,aDM];congr 1;unfold U7;simp;lia
theorem pS:∀{fs:List (V×Int)},fs.Nodup->(∀f∈fs,IsFace J f.1 f.2)->(IR J fs).Nodup
 |[],_,_=>aDh
 |f::fs,j,d=>by have h:=aAR.mp j;have i:=d f (.head _);show(U7 (l4 J f)++IR J fs).Nodup;rw[aCH];refine⟨HM hs ho ((i.aa2 ho).aa5),pS h.2 λg c=>d g (.tail _ c),λe k n l q=>?_⟩;subst q;obtain⟨g,c,m⟩:=aBx.mp l;exact h.1 (OV hs ho i (d g<|.tail _ c) (a:=e.1) (b:=e.2) k m▸c)
theorem aU {fs:List (V×Int)}(r:fs.Nodup)(j:∀f∈fs,IsFace J f.1 f.2):(fs.map λf=>(l4 J f).length).sum+J.length<=J.length*J.length:=by
 have d:J.Nodup:=ho.imp λ{a b} h e=>by subst e;exact J2 h
 have s:=pS hs ho r j;have t:(IR J fs++J.map λa=>(a,a)).Nodup:=by rw[aCH];refine⟨s,aBB.mpr (d.imp λ{a b} h e=>h (Prod.mk.inj e).1),λe c y u q=>?_⟩;subst q;obtain⟨g,k,i⟩:=aBx.mp c;obtain⟨a,_,rfl⟩:=aAo.mp u;exact(((j g k).aa2 ho).aa1.mp i).ne rfl
 have v:∀e∈IR J fs++J.map (λa=>(a,a)),e∈J.flatMap λa=>J.map λb=>(a,b):=λe c=>by
  rcases aAQ.mp c with c|c
  .obtain⟨g,k,i⟩:=aBx.mp c;have i:(e.1,e.2)∈U7 (l4 J g):=i;have m:=((j g k).aa2 ho).aa1.mp i;exact aBx.mpr ⟨e.1,(d7.mp m.p).1,aAo.mpr ⟨e.2,(d7.mp m.q).1,rfl⟩⟩
  .obtain⟨a,n,rfl⟩:=aAo.mp c;exact aBx.mpr ⟨a,n,aAo.mpr ⟨a,n,rfl⟩⟩
 have o:=J5 t v;have w:(J.flatMap λa=>J.map λb=>(a,b)).length=J.length*J.length:=by
  have:∀l:List V,(l.flatMap λa=>J.map λb=>(a,b)).length=l.length*J.length:=λl=>by
   induction l with
   |nil=>simp
   |cons a l x=>rw[List.flatMap_cons,aAF,x,aAj,aAu,Nat.succ_mul];lia
  exact this J
 rw[aAF,QI,aAj,w]at o;exact o
theorem cM {fs:List (V×Int)}(a:∀f∈fs,IsFace J f.1 f.2):3*fs.length<=(fs.map λf=>(l4 J f).length).sum:=by
 induction fs with
 |nil=>simp
 |cons f fs b=>
  have:=b λg c=>a g (.tail _ c);obtain⟨r,s,t,l,e⟩:=V6 ho (a f<|.head _);have d:(l4 J f).length=l.length+3:=by show(j8 f.1 (x6 f.1 f.2 J)).length=_;rw[e];simp
  rw[aAt,aDM,aAu,d]
  lia
end
theorem jR:∀(J:List V) (c b:V),(G0 a A J c b).2∈J\/(G0 a A J c b).2=b
 |[],c,b=>.inr rfl
 |P::d,c,b=>by
  unfold G0;split
  .rcases jR d (cr a (P-A)) P with h|h
   .exact .inl (.tail _ h)
   .exact .inl (by rw[h];exact .head _)
  .rcases jR d c b with h|h
   .exact .inl (.tail _ h)
   .exact .inr h
section
variable{J c:List V} (hs:j5 J) (ho:J.Pairwise (λa b=>i4 (b-a))) (gh:c.Pairwise (λa b=>i4 (b-a))) (hc:∀X,X∈c↔∃f:V×Int,IsFace J f.1 f.2/\X∈l4 J f)
include hs ho gh hc
theorem XR (h:X∈c):X∈J:=by obtain⟨f,a,b⟩:=(hc X).mp h;exact(d7.mp<|(a.aa2 ho).aa3 b).1
theorem kK (a:IsFace J n d)(h:X∈l4 J (n,d)):X∈x6 n d c:=by have b:=(d7.mp<|(a.aa2 ho).aa3 h).2;exact d7.mpr ⟨(hc X).mpr ⟨(n,d),a,h⟩,b⟩
theorem kq (h:X∈x6 n d c):X∈x6 n d J:=d7.mpr ⟨XR hs ho gh hc (d7.mp h).1,(d7.mp h).2⟩
theorem lE (a:IsFace J n d):IsFace c n d:=by
 have S:=a.aa2 ho;obtain⟨r,s,t,l,e⟩:=V6 ho a;have i:r∈j8 n (x6 n d J):=by rw[e];simp
 have j:s∈j8 n (x6 n d J):=by rw[e];simp
 have f:t∈j8 n (x6 n d J):=by rw[e];simp
 have b:=S.aa5;rw[e]at b;simp only[aAR,aAd,not_or]at b;have g:EdgeOf n (λX=>X∈x6 n d J) r s:=S.aa1.mp (by rw[e];simp[U7]);have st:=S.strict g f (λq=>b.1.2.1 q.symm) (λq=>b.2.1.1 q.symm);have k:=λ{X} (h:X∈j8 n (x6 n d J))=>kK hs ho gh hc a (X:=X) h;refine⟨a.prim,λX m=>a.sup X (XR hs ho gh hc m),r,(d7.mp<|k i).1,s,(d7.mp<|k j).1,t,(d7.mp<|k f).1,(d7.mp<|k i).2,(d7.mp<|k j).2,(d7.mp<|k f).2,λq=>?_⟩;unfold i8 at st;rw[q,M6]at st
 lia
theorem uV (e:IsFace J n d)(h:EdgeOf n (λX=>X∈x6 n d J) a b):EdgeOf n (λX=>X∈x6 n d c) a b:=by have S:=e.aa2 ho;have m:=wT S (S.aa1.mpr h);exact⟨kK hs ho gh hc e m.1,kK hs ho gh hc e m.2,h.ne,λX f=>h.left X (kq hs ho gh hc f),λX f=>h.btw X (kq hs ho gh hc f)⟩
omit hs ho gh hc in
theorem oQ {R:V->Prop}{E:List (V×V)}(g:∀a b,R a->(a,b)∈E->R b):∀(x:V) (l:List V),R x->(∀e∈t6 (x::l),e∈E)->∀X∈x::l,R X
 |x,[],f,_,X,d=>by rw[aBb.mp d];exact f
 |x,y::l,f,h,X,d=>by
  have i:=g x y f (h (x,y) (by simp[t6]));rcases aAd.mp d with rfl|d
  .exact f
  .exact oQ g y l i (λe j=>h e (by simp only[t6,aAd];exact .inr j)) X d
theorem DY (i:IsFace J n d)(h:X∈j8 n (x6 n d c)):X∈j8 n (x6 n d J):=by
 have S:=i.aa2 ho;have o:=(lE hs ho gh hc i).aa2 gh;obtain⟨m,r,e,t,u⟩:=o.ab5;obtain⟨g,H,p,v,w⟩:=S.ab5;have x:m=g:=by
  have y:g∈x6 n d c:=kK hs ho gh hc i (show g∈j8 n (x6 n d J)by rw[p];simp);rcases u g y with q|q
  .exact q.symm
  .rcases w m (kq hs ho gh hc t)with j|j
   .exact j
   .exact absurd (y6.add q j) (by
     have:(g-m)+(m-g)=0:=by apply ext<;>simp<;>lia
     rw[this];exactλz=>by simp[i4]at z)
 have step:∀a b,a∈j8 n (x6 n d J)->(a,b)∈U7 (j8 n<|x6 n d c)->b∈j8 n (x6 n d J):=λa b A k=>by obtain⟨I,s⟩:=bP S A;have B:=o.aa1.mp k;have C:=uV hs ho gh hc i (S.aa1.mp s);rw[B.next C];exact(wT S s).2
 rw[e]at h;refine oQ (E:=U7 (j8 n<|x6 n d c)) (R:=λX=>X∈j8 n (x6 n d J)) step m r (by rw[x,p];simp) (λf l=>?_) X h;rw[e,V9];exact gQ r m m f l
theorem AA (f:IsFace J n d)(h:EdgeOf n (λX=>X∈x6 n d c) a b):EdgeOf n (λX=>X∈x6 n d J) a b:=by have S:=f.aa2 ho;have g:=(lE hs ho gh hc f).aa2 gh;have i:=DY hs ho gh hc f (g.ac7 h);obtain⟨k,j⟩:=bP S i;have e:=S.aa1.mp j;rw[h.next (uV hs ho gh hc f e)];exact e
theorem GK (j:IsFace J n d):j5 c:=by
 have S:=j.aa2 ho;obtain⟨r,s,t,l,e⟩:=V6 ho j;have I:r∈j8 n (x6 n d J):=by rw[e];simp
 have y:t∈j8 n (x6 n d J):=by rw[e];simp
 have o:=S.aa5;rw[e]at o;simp only[aAR,aAd,not_or]at o;have i:EdgeOf n (λX=>X∈x6 n d J) r s:=S.aa1.mp (by rw[e];simp[U7]);have st:=S.strict i y (λq=>o.1.2.1 q.symm) (λq=>o.2.1.1 q.symm);obtain⟨p,L⟩:=kG hs ho j i;generalize(b8 s r J).1=m at*
 generalize(b8 s r J).2=f at*
 have T:=p.aa2 ho;obtain⟨a,b,N,l2,x⟩:=V6 ho p;have g:=T.aa5;rw[x]at g;simp only[aAR,aAd,not_or]at g;obtain⟨Y,A,Q,U⟩:∃Y∈j8 m (x6 m f J),Y≠s/\Y≠r:=by
  have q1:a∈j8 m (x6 m f J):=by rw[x];simp
  have q2:b∈j8 m (x6 m f J):=by rw[x];simp
  have q3:N∈j8 m (x6 m f J):=by rw[x];simp
  by_cases B:a≠s/\a≠r
  .exact⟨a,q1,B⟩
  .by_cases C:b≠s/\b≠r
   .exact⟨b,q2,C⟩
   .refine⟨N,q3,λz=>?_,λz=>?_⟩
    .subst z;have E:a=r:=by
      by_cases h:a=r
      .exact h
      .exact absurd ⟨g.1.2.1,h⟩ B
     have H:b=r:=by
      by_cases h:b=r
      .exact h
      .exact absurd ⟨g.2.1.1,h⟩ C
     exact g.1.1 (E.trans H.symm)
    .subst z;have E:a=s:=by
      by_cases h:a=s
      .exact h
      .exact absurd ⟨h,g.1.2.1⟩ B
     have H:b=s:=by
      by_cases h:b=s
      .exact h
      .exact absurd ⟨h,g.2.1.1⟩ C
     exact g.1.1 (E.trans H.symm)
 have sY:=T.strict L A Q U;have lt:=LJ hs p j L i (T.aa3 A) sY;have k:=λ{X} (h:X∈j8 n (x6 n d J))=>kK hs ho gh hc j (X:=X) h;have kY:=kK hs ho gh hc p A;have O:s∈j8 n (x6 n d J):=by rw[e];simp
 have dr:=(d7.mp<|k I).2;have dss:=(d7.mp<|k O).2;have dt:=(d7.mp<|k y).2;refine⟨r,(d7.mp<|k I).1,s,(d7.mp<|k O).1,t,(d7.mp<|k y).1,Y,(d7.mp kY).1,λz=>?_⟩;have p1:d6 n (s-r)=0:=by rw[f8];lia
 have p2:d6 n (t-r)=0:=by rw[f8];lia
 have pY:d6 n (Y-r)<0:=by rw[f8];lia
 have id:i8 (s-r) (t-r) (Y-r)*d6 n n=i8 n (s-r) (t-r)*d6 n (Y-r)+d6 n (s-r)*(d6 n (t-r)*0)+(d6 n (s-r)*i8 n (t-r) (Y-r)+d6 n (t-r)*i8 n (Y-r) (s-r)):=by generalize s-r=u;generalize t-r=v;generalize Y-r=w;have:=MX n n u v w;simp[i8,d6]at this⊢;grind
 rw[z,p1,p2]at id;have:i8 n (s-r) (t-r)*d6 n (Y-r)<0:=aBi st pY
 lia
theorem US (fs:List (V×Int))(k:fs≠[])(e:∀f,f∈fs↔IsFace J f.1 f.2):IsFace c n d↔IsFace J n d:=by
 refine⟨λh=>?_,lE hs ho gh hc⟩;obtain⟨o,g⟩:=aEW fs k;have p:=GK hs ho gh hc ((e o).mp g);have:=rS p gh fs k (λf i=>lE hs ho gh hc ((e f).mp i)) (λf i a b j=>?_) h
 .exact(e _).mp this
 .have l:=(e f).mp i;obtain⟨m,q⟩:=kG hs ho l (AA hs ho gh hc l j);exact⟨b8 b a J,(e _).mpr m,uV hs ho gh hc m q⟩
theorem MO (b:X∈c):∃f:V×Int,IsFace c f.1 f.2/\X∈l4 c f:=by obtain⟨⟨n,d⟩,a,h⟩:=(hc X).mp b;have S:=a.aa2 ho;obtain⟨Q,e⟩:=bP S h;exact⟨(n,d),lE hs ho gh hc a,((lE hs ho gh hc a).aa2 gh).ac7 (uV hs ho gh hc a<|S.aa1.mp e)⟩
end
def my {Pos:V->Prop}(C:Cone Pos){n m p v q u:V}(g:n≠0)(r:d6 n p=0)(d:d6 n v=0)(f:d6 n q=0)(s:d6 n u=0)(B:Pos p)(i:Pos v)(j:Pos q)(E:Pos u)(H:0<d6 m p)(mv:d6 m v<0)(k:0<d6 m q)(mu:d6 m u<0)(t:0<=i8 n v p)(w:0<=i8 n q u):False:=by
 have id:∀{a b c:V},d6 n a=0->d6 n b=0->d6 n c=0->i8 n a b*d6 m c+i8 n b c*d6 m a+i8 n c a*d6 m b=0:=λ{a b c} I J L=>by have:=MX m n a b c;rw[x5 g I J L,Int.zero_mul]at this;exact this
 have N:=id d r f;have O:=id f s d;rcases aDq 0 (i8 n q v)with h|h
 .
  have l:=C.tr j i B (x5 g f d r) h t;have o:i8 n p q=-i8 n q p:=j7 n q p;rw[o]at N;have Q:0<=i8 n v p*d6 m q:=aBX t (aAT k);have T:0< -i8 n q p*d6 m v:=by have:=aBa l (show 0< -d6 m v by lia);grind
  have U:0<i8 n q v*d6 m p:=aBa h H
  lia
 .rcases aDq (i8 n q v) 0 with h'|h'
  .have e0:i8 n v q=-i8 n q v:=j7 n q v;have A:0<i8 n v q:=by lia
   have l:=C.tr i j E (x5 g d f s) A w;have o:i8 n u v=-i8 n v u:=j7 n v u;rw[o]at O;have Q:i8 n q u*d6 m v<=0:=by have:=aBX w (show 0<=-d6 m v by lia);grind
   have T:-i8 n v u*d6 m q<0:=by have:=aBa l k;grind
   have U:i8 n v q*d6 m u<0:=by have:=aBa A (show 0< -d6 m u by lia);grind
   lia
  .have z:i8 n q v=0:=by lia
   have c0:=W8 g f d z;have e:d6 m q*v+(-d6 m v)*q=0:=by have Y:=jr V.x c0;have hy:=jr V.y c0;have hz:=jr V.z c0;simp at Y hy hz;apply ext<;>simp[d6]<;>grind
   have:=C.add (C.mul k i) (C.mul (show 0< -d6 m v by lia) j);rw[e]at this;exact C.irr this
section
variable{n:V} {ts:List V} (S:Sheet n ts)
include S
theorem Sheet.ad0 (h:X∈w4 n ts\/X∈w4 n ts.reverse):X∈j8 n ts:=by
 obtain⟨m,M,c,d,j,k,f,l,o,b,e,g,i,p,q⟩:=S.ends;unfold j8;rw[aAQ,b,e,aAL,aAL,aBk,aBk,aBn,aBn];rw[b,e]at h;have a:m≠M:=λz=>by subst z;exact J2 f
 rcases h with h|h
 .rcases aAd.mp h with rfl|h
  .right;have:=aCU i;rcases aAd.mp this with z|z
   .exact absurd z.symm a
   .exact z
  .exact .inl h
 .rcases aAd.mp h with rfl|h
  .left;have:=aCU g;rcases aAd.mp this with z|z
   .exact absurd z a
   .exact z
  .exact .inr h
theorem Sheet.top (c:X∈ts)(h:∀Y∈ts,Y≠X->d6 m Y<d6 m X):X∈j8 n ts:=by
 obtain⟨s,n1,t1⟩:=S.ab1;obtain⟨t,n2,t2⟩:=S.ab2;have w:∀u,i4 u->i4 (-u)->False:=λu x y=>by have:=y6.add x y;have A:u+-u=0:=ext (by simp;lia) (by simp;lia) (by simp;lia);rw[A]at this;exact y6.irr this
 have B:∀u,N3 u->N3 (-u)->False:=λu x y=>by have:=aK.add x y;have A:u+-u=0:=ext (by simp;lia) (by simp;lia) (by simp;lia);rw[A]at this;exact aK.irr this
 rcases nR X (w4 n ts) (λY _=>Q3 X Y) (λq C=>t1 X q C c) (λz E=>s.last X c z E) n1 w with H|⟨a,b,i,O,Q⟩
 .exact S.ad0 (.inl H)
 .rcases nR X (w4 n ts.reverse) (λY _=>by
    rcases Q3 X Y with z|z|z
    .exact .inl z
    .exact .inr (.inr (o9.mpr z))
    .exact .inr (.inl (o9.mpr z))) (λq C=>t2 X q C c) (λz E=>t.last X c z E) n2 B with H|⟨j,r,d,I,ki⟩
  .exact S.ad0 (.inr H)
  .exfalso;have T:=M0 S i;have U:=M0 S d;have J:=s.mem _ T.1;have L:=s.mem _ T.2;have f:=t.mem _ U.1;have g:=t.mem _ U.2;have E1:=(S.ae4 i J L).1.left X c;have E2:=(S.ae2 d f g).1.left X c;have k:=o9.mp I;have l:=o9.mp ki;have ne:∀{Y},i4 (X-Y)->Y≠X:=λN z=>by subst z;exact J2 N
   have o:∀{Y},i4 (Y-X)->Y≠X:=λN z=>by subst z;exact J2 N
   have va:=h a J (ne O);have vb:=h b L (o Q);have va':=h j f (o k);have vb':=h r g (ne l);refine my y6 (n:=n) (m:=m) (p:=X-a) (v:=b-X) (q:=X-r) (u:=j-X) S.nz (S.pl _ c _ J) (S.pl _ L _ c) (S.pl _ c _ g) (S.pl _ f _ c) O Q l k (by rw[f8];lia) (by rw[f8];lia) (by rw[f8];lia) (by rw[f8];lia) ?_ ?_
   .have e:i8 n (b-a) (X-a)=i8 n (b-X) (X-a):=by simp[i8,d6];grind
    rw[<-e];exact E1
   .have e:i8 n (r-j) (X-j)=i8 n (X-r) (j-X):=by simp[i8,d6];grind
    rw[<-e];exact E2
end
section
variable{J:List V} (hs:j5 J)
include hs
theorem lN (a:IsFace J n d)(b:IsFace J m e)(g:d6 n X=d)(i:d6 m X=e)(h:cr m n=0):(n,d)=(m,e):=by
 obtain⟨k,l,c,f⟩:=A5 b.prim.ne h;obtain⟨Z,j,s⟩:=hs.below a.prim.ne a.sup;have o:0<l:=by
  have q:=jr (λv=>d6 v (Z-X)) f;rw[G3,G3]at q;have p:d6 n (Z-X)<0:=by rw[f8];lia
  have t:d6 m (Z-X)<=0:=by rw[f8];have:=b.sup Z j;lia
  have u:k*d6 n (Z-X)<0:=aBi c p;by_cases z:0<l
  .exact z
  .exfalso;have:0<=l*d6 m (Z-X):=by
    have:=aBX (show 0<=-l by lia) (show 0<=-d6 m (Z-X)by lia)
    rwa [aDp]at this
   lia
 have r:=nG a.prim b.prim c o f;subst r;rw[<-g,<-i]
theorem BC {a b c:Int}(l:IsFace J n d)(o:IsFace J m e)(p:IsFace J k f)(hX:d6 n X=d)(ph:d6 m X=e)(r:d6 k X=f)(hc:0<c)(s:0<a)(t:0<b)(h:c*k=a*n+b*m)(u:cr n m≠0):False:=by
 obtain⟨A,w,B,x,C,y,E,H,I,g⟩:=p.three;have i:∀Y∈J,d6 k Y=f->d6 n Y=d/\d6 m Y=e:=λY j hy=>by
  have h1:=l.sup Y j;have h2:=o.sup Y j;have q:=jr (λv=>d6 v (Y-X)) h;have q:c*d6 k (Y-X)=a*d6 n (Y-X)+b*d6 m (Y-X):=by
   have L:d6 (c*k) (Y-X)=c*d6 k (Y-X):=G3 ..;have N:d6 (a*n+b*m) (Y-X)=a*d6 n (Y-X)+b*d6 m (Y-X):=by simp[d6];grind
   rw[<-L,<-N];exact q
  have O:d6 k (Y-X)=0:=by rw[f8];lia
  rw[O,aEf]at q;have Q:d6 n (Y-X)<=0:=by rw[f8];lia
  have T:d6 m (Y-X)<=0:=by rw[f8];lia
  have a0:a*d6 n (Y-X)<=0:=aDJ (aAT s) Q;have b0:b*d6 m (Y-X)<=0:=aDJ (aAT t) T;have U:a*d6 n (Y-X)=0:=by lia
  have z2:b*d6 m (Y-X)=0:=by lia
  have y1:d6 n (Y-X)=0:=by rcases aAv.mp U with z|z;lia;exact z
  have y2:d6 m (Y-X)=0:=by rcases aAv.mp z2 with z|z;lia;exact z
  rw[f8]at y1 y2;exact⟨by lia,by lia⟩
 obtain⟨a1,a2⟩:=i A w E;obtain⟨b1,b2⟩:=i B x H;obtain⟨c1,c2⟩:=i C y I;have p1:cr n (cr (B-A)<|C-A)=0:=K8 (by rw[f8];lia) (by rw[f8];lia);have p2:cr m (cr (B-A)<|C-A)=0:=K8 (by rw[f8];lia) (by rw[f8];lia);exact u (pV g p1 p2)
theorem ID (o:IsFace J n d)(p:IsFace J m e)(i:IsFace J k f)(B:d6 n X=d)(C:d6 m X=e)(E:d6 k X=f)(n12:(n,d)≠(m,e))(n13:(n,d)≠(k,f))(n23:(m,e)≠(k,f)):i8 n m k≠0:=λz=>by
 have H:cr n m≠0:=λq=>n12 (lN hs p o C B q).symm;have I:cr n k≠0:=λq=>n13 (lN hs i o E B q).symm;have L:cr m k≠0:=λq=>n23 (lN hs i p E C q).symm;have j:∀{u v:V},cr u v≠0->cr v u≠0:=λ{u v} h q=>h (by have N:=jr V.x q;have g:=jr V.y q;have A:=jr V.z q;simp at N g A;apply ext<;>simp<;>grind)
 obtain⟨w,ew⟩:∃w,w=cr n m:=⟨_,rfl⟩;have r:=BF w n m k;rw[z]at r;have O:0<i8 w n m:=by
  have:i8 w n m=d6 w w:=by rw[ew];rfl
  rw[this,ew];exact y7 H
 obtain⟨c,ec⟩:∃c,c=i8 w n m:=⟨_,rfl⟩;obtain⟨a,ea⟩:∃a,a=-i8 w m k:=⟨_,rfl⟩;obtain⟨b,eb⟩:∃b,b=-i8 w k n:=⟨_,rfl⟩;have T:c*k=a*n+b*m:=by rw[ec,ea,eb];have N:=jr V.x r;have g:=jr V.y r;have A:=jr V.z r;simp at N g A;apply ext<;>simp<;>lia
 rw[<-ec]at O;have U:=jr V.x T;have Y:=jr V.y T;have vz:=jr V.z T;simp at U Y vz;have l:∀{u v:V} {s t:Int},s≠0->s*u=t*v->cr u v=0:=λ{u v s t} kn h=>by
  have N:=jr V.x h;have g:=jr V.y h;have A:=jr V.z h;simp at N g A;have go:∀y:Int,s*y=0->y=0:=λy g=>by rcases aAv.mp g with q|q;exact absurd q kn;exact q
  apply ext<;>simp<;>apply go<;>grind
 rcases aDq 0 a with ha|ha
 .rcases aDq 0 b with Q|Q
  .exact BC hs o p i B C E O ha Q T H
  .rcases aDq b 0 with ki|ki
   .
    refine BC hs i p o E C B ha O (show 0< -b by lia) (c:=a) (a:=c) (b:=-b) ?_ (j L);apply ext<;>simp<;>lia
   .have b0:b=0:=by lia
    refine I (l (u:=n) (v:=k) (s:=a) (t:=c) (by lia) ?_);rw[b0]at U Y vz;apply ext<;>simp<;>lia
 .rcases aDq a 0 with ha'|ha'
  .rcases aDq 0 b with Q|Q
   .refine BC hs i o p E B C Q O (show 0< -a by lia) (c:=b) (a:=c) (b:=-a) ?_ (j I);apply ext<;>simp<;>lia
   .
    obtain⟨Z,hZ,A⟩:=hs.below i.prim.ne i.sup;have q:c*d6 k (Z-X)=a*d6 n (Z-X)+b*d6 m (Z-X):=by simp[d6];grind
    have k0:d6 k (Z-X)<0:=by rw[f8];lia
    have n0:d6 n (Z-X)<=0:=by rw[f8];have:=o.sup Z hZ;lia
    have m0:d6 m (Z-X)<=0:=by rw[f8];have:=p.sup Z hZ;lia
    have t1:c*d6 k (Z-X)<0:=aBi O k0;have t2:0<=a*d6 n (Z-X):=by
     have:=aBX (show 0<=-a by lia) (show 0<=-d6 n (Z-X)by lia)
     rwa [aDp]at this
    have t3:0<=b*d6 m (Z-X):=by
     have:=aBX (show 0<=-b by lia) (show 0<=-d6 m (Z-X)by lia)
     rwa [aDp]at this
    lia
  .have a0:a=0:=by lia
   by_cases b0:b=0
   .rw[a0,b0]at U Y vz;have k0:k=0:=by
     have go:∀y:Int,c*y=0->y=0:=λy g=>by rcases aAv.mp g with q|q;lia;exact q
     apply ext<;>simp<;>apply go<;>lia
    exact i.prim.ne k0
   .refine L (l (u:=m) (v:=k) (s:=b) (t:=c) b0 ?_);rw[a0]at U Y vz;apply ext<;>simp<;>lia
theorem BJ (t:J.Pairwise (λa b=>i4 (b-a)))(u:X∈J)(c:IsFace J n d)(o:IsFace J m e)(p:IsFace J k f)(r:d6 n X=d)(v:d6 m X=e)(w:d6 k X=f)(g:(n,d)≠(m,e))(h:(n,d)≠(k,f))(i:(m,e)≠(k,f)):X∈l4 J (n,d):=by
 have j:=ID hs c o p r v w g h i;refine(c.aa2 t).top (m:=n+m+k) (d7.mpr ⟨u,r⟩) λY x z=>?_;have l:=(d7.mp x).1;have I:=c.sup Y l;have L:=o.sup Y l;have N:=p.sup Y l;have s:∀Z,d6 (n+m+k) Z=d6 n Z+d6 m Z+d6 k Z:=λZ=>by simp[d6];grind
 rw[s,s];rcases aDq (d6 n Y+d6 m Y+d6 k Y) (d6 n X+d6 m X+d6 k X)with q|q
 .exact q
 .exfalso;have A:d6 n (Y-X)=0:=by rw[f8];lia
  have B:d6 m (Y-X)=0:=by rw[f8];lia
  have C:d6 k (Y-X)=0:=by rw[f8];lia
  refine z (aX ?_);generalize Y-X=y at*
  have E:∀y:Int,i8 n m k*y=0->y=0:=λy H=>by rcases aAv.mp H with q|q;exact absurd q j;exact q
  simp[d6]at A B C;apply ext<;>simp<;>apply E<;>simp[i8,d6]<;>grind
end
def Up (J:List V)(A B C:V):Prop:=(∀X∈J,d6 (cr (B-A)<|C-A) (X-A)<=0)/\∃X∈J,d6 (cr (B-A)<|C-A) (X-A)<0
def Dn (J:List V)(A B C:V):Prop:=(∀X∈J,0<=d6 (cr (B-A)<|C-A) (X-A))/\∃X∈J,0<d6 (cr (B-A)<|C-A) (X-A)
def nD (A B C:V):cr (C-A) (B-A)=-cr (B-A) (C-A):=by apply ext<;>simp<;>grind
def XV {J:List V}{A B C:V}:Dn J A B C↔Up J A C B:=by
 have e:∀X:V,d6 (cr (C-A)<|B-A) X=-d6 (cr (B-A)<|C-A) X:=λX=>by rw[nD];simp[d6];grind
 constructor
 .rintro⟨h,X,a,l⟩;exact⟨λY b=>by have:=h Y b;rw[e];lia,X,a,by rw[e];lia⟩
 .rintro⟨h,X,a,l⟩;exact⟨λY b=>by have:=h Y b;rw[e]at this;lia,X,a,by rw[e]at l;lia⟩
def EY {J:List V}{A B C:V}(c:A∈J)(d:B∈J)(e:C∈J)(h:Up J A B C):IsFace J (d4 A B C).1 (d4 A B C).2:=by
 obtain⟨f,X,n,a⟩:=h;have ne:cr (B-A) (C-A)≠0:=λz=>by rw[z]at a;simp[d6]at a
 obtain⟨g,i,j,k,l⟩:=V1 ne;have b:∀Y:V,d6 (cr (B-A)<|C-A) (Y-A)=g*(d6 (d4 A B C).1 Y-(d4 A B C).2):=λY=>by rw[l,j,G3,f8]
 have zero:∀Y:V,d6 (cr (B-A)<|C-A) (Y-A)=0->d6 (d4 A B C).1 Y=(d4 A B C).2:=λY h=>by rw[b]at h;rcases aAv.mp h with h|h<;>lia
 refine⟨k,λY m=>?_,A,c,B,d,C,e,zero A ?_,zero B ?_,zero C ?_,ne⟩
 .have:=f Y m;rw[b]at this;by_cases z:d6 (d4 A B C).1 Y<=(d4 A B C).2
  .exact z
  .have:=aBa i (show 0<d6 (d4 A B C).1 Y-(d4 A B C).2 by lia);lia
 .simp[d6]
 .simp[d6];grind
 .simp[d6];grind
def FD {J:List V}{n:V}{d:Int}(S:j5 J)(h:IsFace J n d){A B C:V}(U:A∈J)(a:d6 n A=d)(b:d6 n B=d)(c:d6 n C=d)(pos:0<d6 n (cr (B-A) (C-A))):Up J A B C/\d4 A B C=(n,d):=by
 have e:cr (B-A) (C-A)≠0:=λz=>by rw[z]at pos;simp[d6]at pos
 obtain⟨g,i,o,t,u⟩:=V1 e;have p:cr n (cr (B-A)<|C-A)=0:=K8 (by rw[f8];lia) (by rw[f8];lia);obtain⟨k,l,r,j⟩:=A5 h.prim.ne p;have v:0<l:=by
  have q:=jr (d6 n) j;rw[u5,u5]at q;have:=aBa r pos;have w:=y7 h.prim.ne;by_cases z:0<l
  .exact z
  .have:=aAU (show l<=0 by lia) (aAT w);simp at this;lia
 rw[o]at j;have x:(k*g)*(d4 A B C).1=l*n:=by rw[<-j];apply ext<;>simp<;>grind
 have m:=nG t h.prim (aBa r i) v x;have y:(d4 A B C).2=d:=by rw[u,m];exact a
 have s:∀Y:V,d6 (cr (B-A)<|C-A) (Y-A)=g*(d6 n Y-d):=λY=>by rw[<-a,o,m,G3,f8]
 refine⟨⟨λX f=>?_,?_⟩,aEQ m y⟩
 .rw[s];have:=aBX (aAT i) (show 0<=d-d6 n X by have:=h.sup X f;lia);have E:g*(d-d6 n X)=-(g*(d6 n X-d)):=by grind
  lia
 .by_cases q:∃X∈J,d6 n X<d
  .obtain⟨X,f,l⟩:=q;refine⟨X,f,?_⟩;rw[s];have:=aBa i (show 0<d-d6 n X by lia);have E:g*(d-d6 n X)=-(g*(d6 n X-d)):=by grind
   lia
  .exfalso;have all:∀X∈J,d6 n X=d:=λX f=>by
    have:=h.sup X f;by_cases l:d6 n X<d
    .exact absurd ⟨X,f,l⟩ q
    .lia
   obtain⟨P,H,Q,I,R,L,T,N,O⟩:=S;have z:∀X∈J,d6 n (X-P)=0:=λX f=>by rw[f8,all X f,all P H];lia
   exact O (x5 h.prim.ne (z Q I) (z R L)<|z T N)
def CB {J:List V}{n:V}{d:Int}(S:j5 J)(h:IsFace J n d){A B C:V}(f:A∈J)(a:d6 n A=d)(b:d6 n B=d)(c:d6 n C=d)(e:cr (B-A) (C-A)≠0):(Up J A B C/\d4 A B C=(n,d))\/(Dn J A B C/\d4 A C B=(n,d)):=by
 by_cases z:0<d6 n (cr (B-A)<|C-A)
 .exact .inl (FD S h f a b c z)
 .have g:d6 n (cr (B-A)<|C-A)≠0:=λq=>e (W8 h.prim.ne (by rw[f8];lia) (by rw[f8];lia) q);have t:d6 n (cr (C-A)<|B-A)=-d6 n (cr (B-A)<|C-A):=by rw[nD];simp[d6];grind
  have:=FD S h f a c b (by lia);exact .inr ⟨XV.mpr this.1,this.2⟩
def a0d (J:List V)(A B C:V):Prop:=∃i j k:Nat,i<j/\j<k/\J[i]?=some A/\J[j]?=some B/\J[k]?=some C
def UK {J:List V}{A B C:V}(E:A∈J)(H:B∈J)(I:C∈J)(e:cr (B-A) (C-A)≠0):∃r s t,a0d J r s t/\cr (s-r) (t-r)≠0/\∀p:V->Prop,p A->p B->p C->p r/\p s/\p t:=by
 obtain⟨i,g⟩:=aBW.mp E;obtain⟨j,f⟩:=aBW.mp H;obtain⟨k,d⟩:=aBW.mp I;have l:∀{v w:V},v≠0->(w=v\/w=-v)->w≠0:=λ{v w} u h z=>by
  rcases h with h|h
  .exact u (h▸z)
  .rw[h]at z;have L:=jr V.x z;have N:=jr V.y z;have O:=jr V.z z;simp only[XO,XM,YN,W3,V4,W2]at L N O;exact u (ext (by simp only[W3];lia) (by simp only[V4];lia) (by simp only[W2];lia))
 have Q:i≠j:=λq=>by
  subst q;rw[g]at f;injection f with f;subst f
  exact e (by apply ext<;>simp)
 have T:i≠k:=λq=>by
  subst q;rw[g]at d;injection d with d;subst d
  exact e (by apply ext<;>simp)
 have U:j≠k:=λq=>by
  subst q;rw[f]at d;injection d with d;subst d
  exact e (by apply ext<;>simp<;>grind)
 rcases aER Q with m|m<;>rcases aER T with n|n<;>rcases aER U with o|o
 .exact⟨A,B,C,⟨i,j,k,m,o,g,f,d⟩,e,λp a b c=>⟨a,b,c⟩⟩
 .exact⟨A,C,B,⟨i,k,j,n,o,g,d,f⟩,l e (.inr (by apply ext<;>simp<;>grind)),λp a b c=>⟨a,c,b⟩⟩
 .omega
 .exact⟨C,A,B,⟨k,i,j,n,m,d,g,f⟩,l e (.inl (by apply ext<;>simp<;>grind)),λp a b c=>⟨c,a,b⟩⟩
 .exact⟨B,A,C,⟨j,i,k,m,n,f,g,d⟩,l e (.inr (by apply ext<;>simp<;>grind)),λp a b c=>⟨b,a,c⟩⟩
 .omega
 .exact⟨B,C,A,⟨j,k,i,o,n,f,d,g⟩,l e (.inl (by apply ext<;>simp<;>grind)),λp a b c=>⟨b,c,a⟩⟩
 .exact⟨C,B,A,⟨k,j,i,o,m,d,f,g⟩,l e (.inr (by apply ext<;>simp<;>grind)),λp a b c=>⟨c,b,a⟩⟩
def HI {J:List V}(S:j5 J){n:V}{d:Int}:IsFace J n d↔∃A B C,a0d J A B C/\((Up J A B C/\d4 A B C=(n,d))\/(Dn J A B C/\d4 A C B=(n,d))):=by
 constructor
 .intro h;obtain⟨A,m,B,o,C,p,a,b,c,e⟩:=h.three;obtain⟨q,r,s,t,u,v⟩:=UK m o p e;obtain⟨w,x,y⟩:=v (λX=>d6 n X=d) a b c;obtain⟨i,j,k,_,_,f,g,l⟩:=id t;exact⟨q,r,s,t,CB S h (aAm f) w x y u⟩
 .rintro⟨A,B,C,⟨i,j,k,_,_,f,g,l⟩,h|h⟩
  .have:=EY (aAm f) (aAm g) (aAm l) h.1;rw[h.2]at this;exact this
  .have:=EY (aAm f) (aAm l) (aAm g) (XV.mp h.1);rw[h.2]at this;exact this
abbrev T3:=V×V×V
def tr (r:T3):T3:=(⟨r.1.x,r.2.1.x,r.2.2.x⟩,⟨r.1.y,r.2.1.y,r.2.2.y⟩,⟨r.1.z,r.2.1.z,r.2.2.z⟩)
def a2q:T3:=(⟨1,0,0⟩,⟨0,1,0⟩,⟨0,0,1⟩)
def a4d (r:T3):tr (tr r)=r:=rfl
abbrev Mv:=T3×V
def XF:Mv:=(a2q,0)
section
variable{J qts:List V} {m:Mv} {n:V} {d:Int}
end
section
end
section
variable{J qts:List V} {n:V} {d:Int}
def J8 (t:Int)(v:V):V:=⟨t*v.x,t*v.y,t*v.z⟩
def KH (t:Int)(n:V):V:=if 0<t then n else-n
def QO (h:X3 n):X3 (-n):=by unfold X3 n6 at*;simpa using h
def TR (t:Int)(h:X3 n):X3 (KH t n):=by unfold KH;split<;>first|exact h|exact QO h
def pJ {t:Int}(a:t≠0)(n P:V):d6 (KH t n) (J8 t P)=t.natAbs*d6 n P:=by
 unfold KH;split
 .have:(t.natAbs:Int)=t:=by lia
  rw[this];simp[J8,d6];grind
 .have:(t.natAbs:Int)=-t:=by lia
  rw[this];simp[J8,d6];grind
def ZM (t:Int)(A B C:V):cr (J8 t B-J8 t A) (J8 t C-J8 t A)=(t*t)*cr (B-A) (C-A):=by apply ext<;>simp[J8]<;>grind
def WA {t:Int}(f:t≠0)(g:∀Y,Y∈qts↔∃X∈J,Y=J8 t X)(i:IsFace J n d):IsFace qts (KH t n) (t.natAbs*d):=by
 obtain⟨A,k,B,l,C,m,a,b,c,e⟩:=i.three;have o:(0:Int)<t.natAbs:=by lia
 refine⟨TR t i.prim,λY p=>?_,J8 t A,(g _).mpr ⟨A,k,rfl⟩,J8 t B,(g _).mpr ⟨B,l,rfl⟩,J8 t C,(g _).mpr ⟨C,m,rfl⟩,?_,?_,?_,?_⟩
 .obtain⟨X,q,rfl⟩:=(g Y).mp p;rw[pJ f];exact aAO (i.sup X q) (aAT o)
 .rw[pJ f,a]
 .rw[pJ f,b]
 .rw[pJ f,c]
 .rw[ZM];intro z;refine e ?_;have r:t*t≠0:=λw=>by rcases aAv.mp w with w|w<;>exact f w
  have j:∀{a:Int},t*t*a=0->a=0:=λ{a} h=>by
   rcases aAv.mp h with h|h
   .exact absurd h r
   .exact h
  exact ext (by simp only[W3];apply j;simpa using jr V.x z) (by simp only[V4];apply j;simpa using jr V.y z) (by simp only[W2];apply j;simpa using jr V.z z)
end
structure Sl where
 a:Int
 b:Int
 c:Int
 w:V
 t:Bool
def Sl.put (s:Sl)(P:V):V:=
 let x:=P.x+s.a*P.y
 let y:=P.y+s.b*P.z
 let z:=P.z+s.c*x
 if s.t then⟨y+s.w.x,x+s.w.y,z+s.w.z⟩else⟨x+s.w.x,y+s.w.y,z+s.w.z⟩
def Sl.mv (s:Sl):Mv:=
 let d:V:=⟨1,s.a,0⟩
 let e:V:=⟨0,1,s.b⟩
 let f:V:=⟨s.c,s.c*s.a,1⟩
 (if s.t then(e,d,f)else(d,e,f),s.w)
def sN {t:Int}(c:t≠0){J a:List V}(b:∀X∈J,J8 t X∈a)(S:j5 J):j5 a:=by
 obtain⟨A,d,B,f,C,g,D,h,e⟩:=S;refine⟨_,b A d,_,b B f,_,b C g,_,b D h,?_⟩;have:i8 (J8 t B-J8 t A) (J8 t C-J8 t A) (J8 t D-J8 t A)=t*t*t*i8 (B-A) (C-A) (D-A):=by simp[J8,i8,d6,cr];grind
 rw[this];intro z;rcases aAv.mp z with z|z
 .rcases aAv.mp z with z|z
  .rcases aAv.mp z with z|z<;>exact c z
  .exact c z
 .exact e z
section
variable{J:List V} (hs:j5 J) (ho:J.Pairwise (λa b=>i4 (b-a)))
include hs ho
end
section
variable{J qts:List V} {n:V} {d:Int} {m:Mv}
end
end G
namespace ST
open PySem PySem.SetTable
def IF (Y:Array Nat):Prop:=∀(i k:Nat) (a:i<Y.size) (b:k<Y.size),i<k->Y[i]<Y[k]
theorem xD (Y:Array Nat)(j:Nat)(c:IF Y):∀(a lo b:Nat),lo<=b->b<=Y.size->b-lo<=a->(∀i (h:i<Y.size),i<lo->Y[i]<j)->(∀i (h:i<Y.size),b<=i->j<=Y[i])->
  below.go Y j a lo b<=Y.size/\(∀i (h:i<Y.size),i<below.go Y j a lo b->Y[i]<j)/\(∀i (h:i<Y.size),below.go Y j a lo b<=i->j<=Y[i])
 |0,lo,b,n,d,o,f,g=>by
  have:lo=b:=by lia
  subst this;unfold below.go;exact⟨d,f,g⟩
 |a+1,lo,b,n,d,o,f,g=>by
  unfold below.go;by_cases m:lo<b
  .rw[ji m];have l:(lo+b)/2<Y.size:=by lia
   have e:Y.getD ((lo+b)/2) j=Y[(lo+b)/2]:=by simp[aFc,l]
   dsimp only;rw[e];by_cases k:Y[(lo+b)/2]<j
   .rw[ji k];refine xD Y j c a _ _ (by lia) d (by lia) (λi h p=>?_) g;by_cases q:i=(lo+b)/2
    .subst q;exact k
    .exact aGm (c i _ h l (by lia)) k
   .rw[jn k];refine xD Y j c a _ _ (by lia) (by lia) (by lia) f (λi h p=>?_);by_cases q:i=(lo+b)/2
    .subst q;lia
    .have:=c _ i l h (by lia);lia
  .rw[jn m];have:lo=b:=by lia
   subst this;exact⟨d,f,g⟩
def aW (a:IF Y)(j:Nat):below Y j<=Y.size/\(∀i (h:i<Y.size),i<below Y j->Y[i]<j)/\(∀i (h:i<Y.size),below Y j<=i->j<=Y[i]):=
 xD Y j a Y.size 0 Y.size (aBe _) (aAh _) (by lia) (λi h b=>by lia) (λi h b=>by lia)
def QN (a:IF Y)(h:Y[i]?=some j):below Y j=i:=by
 obtain⟨b,e⟩:=aCh.mp h;obtain⟨g,d,f⟩:=aW a j;rcases Nat.lt_trichotomy (below Y j) i with q|q|q
 .have c:below Y j<Y.size:=by lia
  have k:=f _ c (aAh _);have l:=a _ _ c b q
  lia
 .exact q
 .have:=d i b q;lia
structure Tab (t:SetTable):Prop where
 asc:IF t.place
 le:∀j∈t.place.toList,j<=t.mask
 nod:t.dummies=#[]
def L7 (T:Tab t)(h:t.place[i]?=some j):t.slot j=.live i:=by unfold slot;rw[QN T.asc h];dsimp only;rw[h];simp
def CW (T:Tab t)(h:j∉t.place.toList):t.slot j=.empty:=by
 unfold slot;have a:¬(t.place[below t.place j]?==some j)=true:=λz=>h (by have:=beq_iff_eq.mp z;obtain⟨b,e⟩:=aCh.mp this;rw[<-e];simp)
 dsimp only;rw[jn a,T.nod];rw[jn (by unfold has;simp)]
def DH (T:Tab t)(j:Nat):(t.slot j=.empty/\j∉t.place.toList)\/∃i,t.slot j=.live i/\t.place[i]?=some j:=by
 by_cases h:j∈t.place.toList
 .obtain⟨i,a,e⟩:=aBh h;have:t.place[i]?=some j:=by rw[<-aAC,aAg a,e]
  exact .inr ⟨i,L7 T this,this⟩
 .exact .inl ⟨CW T h,h⟩
def RX (mask:Nat)(p:Probe):Probe:=if p.more>0 then{p with j:=p.j+1,more:=p.more-1}else{p with j:=(leap mask p.i p.perturb).1,more:=runEnd mask (leap mask p.i p.perturb).1-(leap mask p.i p.perturb).1,i:=(leap mask p.i p.perturb).1,perturb:=(leap mask p.i p.perturb).2}
def pC (t:fh)(p:Probe):t.advance p=RX t.mask p:=rfl
def start (mask:Nat)(h:Int):Probe:={j:=bits h%(mask+1),more:=runEnd mask (bits h%(mask+1))-bits h%(mask+1),i:=bits h%(mask+1),perturb:=bits h,dummy:=none}
def m7 (mask:Nat)(h:Int):Nat->Probe
 |0=>start mask h
 |n+1=>RX mask (m7 mask h n)
theorem oB (mask:Nat)(h:Int):∀n,(m7 mask h n).dummy=none
 |0=>rfl
 |n+1=>by have:=oB mask h n;show(RX mask _).dummy=none;unfold RX;split<;>exact this
def D6 (mask:Nat)(h:Int):Nat->Nat×Nat
 |0=>(bits h%(mask+1),bits h)
 |k+1=>leap mask (D6 mask h k).1 (D6 mask h k).2
def len (mask i:Nat):Nat:=runEnd mask i-i
def fw (mask i:Nat):len mask i<=9:=by unfold len runEnd;split<;>lia
def off (mask:Nat)(h:Int):Nat->Nat
 |0=>0
 |k+1=>off mask h k+len mask (D6 mask h k).1+1
theorem KL (mask:Nat)(h:Int):∀k,off mask h k<=10*k
 |0=>aAh _
 |k+1=>by have:=KL mask h k;have:=fw mask (D6 mask h k).1;show off mask h k+_+1<=_;lia
theorem W7 (mask:Nat)(h:Int):∀k r,r<=len mask (D6 mask h k).1->
  m7 mask h (off mask h k+r)={j:=(D6 mask h k).1+r,more:=len mask (D6 mask h k).1-r,i:=(D6 mask h k).1,perturb:=(D6 mask h k).2,dummy:=none}
 |0,0,_=>rfl
 |0,r+1,b=>by
  have a:=W7 mask h 0 r (by lia);have e:off mask h 0+(r+1)=(off mask h 0+r)+1:=by lia
  rw[e,m7,a];unfold RX;rw[ji (show len mask (D6 mask h 0).1-r>0 by lia)];simp
  lia
 |k+1,0,_=>by have a:=W7 mask h k (len mask (D6 mask h k).1) (aAh _);have e:off mask h (k+1)+0=(off mask h k+len mask (D6 mask h k).1)+1:=rfl;rw[e,m7,a];unfold RX;rw[jn (by simp)];simp[D6,len]
 |k+1,r+1,b=>by
  have a:=W7 mask h (k+1) r (by lia);have e:off mask h (k+1)+(r+1)=(off mask h (k+1)+r)+1:=by lia
  rw[e,m7,a];unfold RX;rw[ji (show len mask (D6 mask h<|k+1).1-r>0 by lia)];simp
  lia
def OQ (mask:Nat)(h:Int)(k:Nat):(m7 mask h (off mask h k)).j=(D6 mask h k).1:=by have:=W7 mask h k 0 (aBe _);rw[Nat.add_zero]at this;rw[this];rfl
theorem iN (mask:Nat)(h:Int):∀k,(D6 mask h k).2<2^64/32^k+1
 |0=>by
  show bits h<_;unfold bits;have:=Int.emod_lt_of_pos h (show(0:Int)<2^64 by decide)
  lia
 |k+1=>by
  have a:=iN mask h k;show(D6 mask h k).2/32<_;have e:∀N,N/32^(k+1)=N/32^k/32:=λN=>by rw[Nat.div_div_eq_div_mul];rfl
  rw[e]
  lia
theorem tR (mask:Nat)(h:Int):∀k,(D6 mask h (13+k)).2=0
 |0=>by have:=iN mask h 13;simp at this;exact this
 |k+1=>by have:=tR mask h k;show(D6 mask h<|13+k).2/32=0;rw[this]
def lcg (m:Nat)(i:Nat):Nat:=(i*5+1)%m
def B7 (m:Nat):Nat->Nat->Nat
 |0,i=>i
 |n+1,i=>lcg m (B7 m n i)
theorem oK (mask:Nat)(h:Int):∀k,(D6 mask h (13+k)).1=B7 (mask+1) k (D6 mask h 13).1
 |0=>rfl
 |k+1=>by have a:=oK mask h k;show((D6 mask h<|13+k).1*5+1+(D6 mask h<|13+k).2/32)%(mask+1)=_;rw[tR,a];rfl
theorem iT (m:Nat):∀a b i,B7 m (a+b) i=B7 m a (B7 m b i)
 |0,b,i=>by rw[aDr];rfl
 |a+1,b,i=>by rw[show a+1+b=(a+b)+1 by lia];show lcg m _=lcg m _;rw[iT m a b i]
def mQ (m:Nat):Prop:=B7 m m 0=0/\∀j<m,∃n<m,B7 m n 0=j
def rZ (F:mQ m)(e:i<m)(f:j<m):∃n<m,B7 m n i=j:=by
 obtain⟨a,g,c⟩:=F.2 i e;obtain⟨b,k,d⟩:=F.2 j f;by_cases h:a<=b
 .exact⟨b-a,by lia,by rw[<-c,<-iT,show b-a+a=b by lia,d]⟩
 .refine⟨b+(m-a),by lia,?_⟩;rw[<-c,<-iT,show b+(m-a)+a=b+m by lia,iT,F.1,d]
instance(m:Nat):Decidable (mQ m):=inferInstanceAs (Decidable<|_/\_)
def xy:mQ 8:=by decide+kernel
def ZS:mQ 32:=by decide+kernel
def WX:mQ 128:=by decide+kernel
theorem GS (mask:Nat)(h:Int):∀k,(D6 mask h k).1<mask+1
 |0=>aFd _ (by lia)
 |k+1=>aFd _ (by lia)
def DZ {mask:Nat}(F:mQ (mask+1))(h:Int){j:Nat}(a:j<=mask):∃n,n<=10*(mask+14)/\(m7 mask h n).j=j:=by
 obtain⟨k,b,e⟩:=rZ F (GS mask h 13) (show j<mask+1 by lia);refine⟨off mask h (13+k),?_,?_⟩
 .have:=KL mask h (13+k);lia
 .rw[OQ,oK,e]
def wQ {α β:Type}{l:List α}{m:List β}{p:Nat}{a:α×β}(h:a∈(l.take p).zip (m.take p)):a∈l.zip m:=by
 obtain⟨i,b⟩:=aBW.mp h;rw[aBC]at b;refine aAm (i:=i) ?_;rw[aBC];have q:∀{γ:Type} {l:List γ} {c:γ},(l.take p)[i]?=some c->l[i]?=some c:=λ{γ l c} h=>by
  rw[List.getElem?_take]at h;split at h
  .exact h
  .cases h
 exact⟨q b.1,q b.2⟩
def wU {α β:Type}{l:List α}{m:List β}{p:Nat}{a:α×β}(h:a∈(l.drop p).zip (m.drop p)):a∈l.zip m:=by obtain⟨i,b⟩:=aBW.mp h;rw[aBC,List.getElem?_drop,List.getElem?_drop]at b;refine aAm (i:=p+i) ?_;rw[aBC];exact b
theorem FE (mask:Nat)(h:Int):∀n,(m7 mask h n).j+(m7 mask h n).more<=mask
 |0=>by have:=aFd (bits h) (show 0<mask+1 by lia);show bits h%(mask+1)+(runEnd mask (bits h%(mask+1))-bits h%(mask+1))<=mask;unfold runEnd;split<;>lia
 |n+1=>by
  have a:=FE mask h n;show(RX mask<|m7 mask h n).j+(RX mask<|m7 mask h n).more<=mask;unfold RX;split
  .dsimp only;lia
  .dsimp only;have:(leap mask (m7 mask h n).i (m7 mask h n).perturb).1<mask+1:=aFd _ (by lia);unfold runEnd;split<;>lia
def wI (mask:Nat)(h:Int)(n:Nat):(m7 mask h n).j<=mask:=by have:=FE mask h n;lia
theorem Q6 {α:Type}[DecidableEq α]:∀{l m:List α},l.Nodup->(∀x∈l,x∈m)->l.length<=m.length
 |[],_,_,_=>aBe _
 |x::l,m,h,a=>by
  have b:=a x (by simp);have c:=aAR.mp h;have:=Q6 (l:=l) (m:=m.erase x) c.2 (λy d=>by
   have ne:y≠x:=λe=>by subst e;exact c.1 d
   exact(aFJ ne).mpr (a y<|aAe _ d))
  rw[aFb b]at this;have:0<m.length:=aDX b;simp only[aAu]
  lia
def IC {t:fh}(h:t.place.size<=t.mask):∃j≤t.mask,j∉t.place.toList:=by
 by_cases z:∃j≤t.mask,j∉t.place.toList
 .exact z
 .exfalso;have:=Q6 (l:=aBK (t.mask+1)) (m:=t.place.toList) List.nodup_range (λj a=>by
   by_cases q:j∈t.place.toList
   .exact q
   .exact absurd ⟨j,by have:=aCE.mp a;lia,q⟩ z)
  simp at this
  lia
theorem least {P:Nat->Prop}[DecidablePred P]:∀n,P n->∃m≤n,P m/\∀k<m,¬P k
 |0,h=>⟨0,aAh _,h,λk b=>by lia⟩
 |n+1,h=>by
  by_cases z:∃k≤n,P k
  .obtain⟨k,b,a⟩:=z;obtain⟨m,e,c,d⟩:=least k a;exact⟨m,by lia,c,d⟩
  .exact⟨n+1,aAh _,h,λk b a=>z ⟨k,by lia,a⟩⟩
termination_by n=>n
def U8 (t:fh)(h:Int)(n0:Nat):Prop:=n0<=10*(t.mask+14)/\(m7 t.mask h n0).j∉t.place.toList/\∀m<n0,(m7 t.mask h m).j∈t.place.toList
def BH {t:fh}(F:mQ (t.mask+1))(a:t.place.size<=t.mask)(h:Int):∃n0,U8 t h n0:=by obtain⟨j,b,c⟩:=IC a;obtain⟨n,i,d⟩:=DZ F h b;obtain⟨m,l,e,f⟩:=least (P:=λn=>(m7 t.mask h n).j∉t.place.toList) n (by rw[d];exact c);exact⟨m,by lia,e,λk g=>by have:=f k g;simpa using this⟩
theorem zA (T:Tab t)(hashAt:Nat->Int)(h:Int)(k:U8 t h n0):∀(c n:Nat),n<=n0->n0-n<c->
  ∃d,n<=d/\d<=n0/\(∀m,n<=m->m<d->∃i,t.place[i]?=some (m7 t.mask h m).j/\hashAt i≠h)/\
   ((d=n0/\probe.go t hashAt h c (m7 t.mask h n)=some (.empty (m7 t.mask h n0).j none))\/
    (d<n0/\∃i,t.place[i]?=some (m7 t.mask h d).j/\hashAt i=h/\probe.go t hashAt h c (m7 t.mask h n)=some (.candidate (m7 t.mask h d).j i (m7 t.mask h (d+1)))))
 |0,n,_,l=>by lia
 |c+1,n,v,l=>by
  unfold probe.go;rcases DH T (m7 t.mask h n).j with⟨e,o⟩|⟨i,e,f⟩
  .have:n=n0:=by
     by_cases q:n<n0
     .exact absurd (k.2.2 n q) o
     .lia
   subst this;refine⟨n,aAh _,aAh _,λm a b=>by lia,.inl ⟨rfl,?_⟩⟩;rw[e];dsimp only;rw[oB]
  .have w:n≠n0:=λq=>by subst q;refine k.2.1 ?_;rw[<-aAC]at f;exact aAm f
   rw[e];dsimp only;by_cases g:hashAt i=h
   . refine⟨n,aAh _,by lia,λm a b=>by lia,.inr ⟨by lia,i,f,g,?_⟩⟩
     rw[ji (by simpa using g),pC];rfl
   . rw[jn (by simpa using g),pC]
     obtain⟨d,x,p,r,s⟩:=zA T hashAt h k c (n+1) (by lia) (by lia);refine⟨d,by lia,p,λm y u=>?_,s⟩;by_cases q:m=n
     .subst q;exact⟨i,f,g⟩
     .exact r m (by lia) u
def MR (T:Tab t)(hashAt:Nat->Int)(h:Int)(b:U8 t h n0)(n:Nat)(c:n<=n0):
  ∃a,n<=a/\a<=n0/\(∀m,n<=m->m<a->∃i,t.place[i]?=some (m7 t.mask h m).j/\hashAt i≠h)/\
   ((a=n0/\t.probe hashAt h (m7 t.mask h n)=some (.empty (m7 t.mask h n0).j none))\/
    (a<n0/\∃i,t.place[i]?=some (m7 t.mask h a).j/\hashAt i=h/\t.probe hashAt h (m7 t.mask h n)=some (.candidate (m7 t.mask h a).j i (m7 t.mask h (a+1))))):=
 zA T hashAt h b _ n c (by have:=b.1;unfold turns;lia)
def Reach (mask:Nat)(a:Nat->Prop)(h:Int)(j:Nat):Prop:=∃n,(m7 mask h n).j=j/\∀m<n,a (m7 mask h m).j
def Reach.mono {mask:Nat}{o a:Nat->Prop}{h:Int}{j:Nat}(r:Reach mask o h j)(i:∀k,o k->a k):Reach mask a h j:=by obtain⟨n,e,q⟩:=r;exact⟨n,e,λm b=>i _ (q m b)⟩
def Reach.before (a:U8 t h n0)(b:j∈t.place.toList)(r:Reach t.mask (λk=>k∈t.place.toList) h j):∃n<n0,(m7 t.mask h n).j=j:=by
 obtain⟨n,e,q⟩:=r;refine⟨n,?_,e⟩;by_cases z:n<n0
 .exact z
 .exfalso;by_cases y:n=n0
  .subst y;exact a.2.1 (by rw[e];exact b)
  .exact a.2.1 (q n0 (by lia))
def fP {α:Type}(Y:Array α)(p:Nat)(x:α):(insertAt Y p x).toList=Y.toList.take p++x::Y.toList.drop p:=by
 unfold insertAt;simp[Array.toList_extract,List.extract_eq_drop_take];have:Y.size-p=(Y.toList.drop p).length:=by simp
 rw[this,List.take_length]
def yA (t:fh)(es:List (Int×af)):List (Nat×Int×af):=t.place.toList.zip es
structure SOk (t:SetTable)(es:List (Int×Value)):Prop where
 tab:Tab t
 full:mQ (t.mask+1)
 len:t.place.size=es.length
 room:t.place.size<=t.mask
 reach:∀e∈yA t es,Reach t.mask (λk=>k∈t.place.toList) e.2.1 e.1
def WK {t:fh}{es:List (Int×af)}(b:t.place.size=es.length){i:Nat}{e:Int×af}(h:es[i]?=some e):∃j,t.place[i]?=some j/\(j,e)∈yA t es:=by
 have c:i<es.length:=(aAB.mp h).1;have a:i<t.place.toList.length:=by simpa[b]using c
 refine⟨t.place.toList[i],by rw[<-aAC,aAg a],?_⟩;unfold yA;refine aAm (i:=i) ?_;rw[aBC];exact⟨aAg a,h⟩
def oq {t:fh}{es:List (Int×af)}(S:SOk t es){h:Int}{x:af}{n0:Nat}(y:U8 t h n0)(C:t.place.size+1<=t.mask):
  SOk (t.put (m7 t.mask h n0).j).1 (es.take (t.put (m7 t.mask h n0).j).2++(h,x)::es.drop (t.put (m7 t.mask h n0).j).2):=by
 have s:=wI t.mask h n0;obtain⟨U,E,H⟩:=aW S.tab.asc (m7 t.mask h n0).j;generalize z:(m7 t.mask h n0).j=J at*
 have u:J∉t.place.toList:=by rw[<-z];exact y.2.1
 have A:(t.put J).2=below t.place J:=rfl;have em:(t.put J).1.mask=t.mask:=rfl;have c:(t.put J).1.place=insertAt t.place (below t.place J) J:=rfl;have d:=fP t.place (below t.place J) J;have g:∀k,k∈(t.put J).1.place.toList↔k∈t.place.toList\/k=J:=λk=>by
  rw[c,d,aAQ,aAd];constructor
  .rintro(q|q|q)
   .exact .inl (List.mem_of_mem_take q)
   .exact .inr q
   .exact .inl (aFK q)
  .rintro(q|q)
   .rw[<-aFB (below t.place J) t.place.toList,aAQ]at q;rcases q with q|q
    .exact .inl q
    .exact .inr (.inr q)
   .exact .inr (.inl q)
 have B:(t.put J).1.place.size=t.place.size+1:=by
  rw[<-aBd,c,d,aAF,aBT,aAu,aDF,aBd]
  lia
 refine⟨⟨?_,λj I=>?_,?_⟩,S.full,?_,by rw[B];exact C,λe r=>?_⟩
 .
  have n:t.place.toList.Pairwise (· <·):=by rw[aCo];intro i j f s L;simpa using S.tab.asc i j (by simpa using f) (by simpa using s) L
  have o:∀a∈t.place.toList.take (below t.place J),a<J:=λa l=>by
   obtain⟨i,f,e⟩:=aBh l;rw[aBT]at f;rw[List.getElem_take]at e;have:=E i (by simp at f;lia) (by lia);simp at e
   lia
  have p:∀a∈t.place.toList.drop (below t.place J),J<a:=λa l=>by
   obtain⟨i,f,e⟩:=aBh l;rw[aDF]at f;rw[List.getElem_drop]at e;have Y:=H (below t.place J+i) (by simp at f;lia) (by lia);simp at e;have h2:J≠a:=λq=>u (by rw[q];exact aFK l)
   lia
  have N:(t.put J).1.place.toList.Pairwise (· <·):=by
   rw[c,d,List.pairwise_append];refine⟨n.sublist (List.take_sublist _ _),aAy.mpr ⟨p,n.sublist (List.drop_sublist _ _)⟩,λa l b O=>?_⟩;rcases aAd.mp O with q|q
   .subst q;exact o a l
   .exact aGm (o a l) (p b q)
  intro i k f v w;have:=aCo.mp N i k (by simpa using f) (by simpa using v) w;simpa using this
 .rcases(g j).mp I with q|q
  .exact S.tab.le j q
  .subst q;exact s
 .show(if has t.dummies J then _ else t.dummies)=#[];rw[S.tab.nod,jn (by unfold has;simp)]
 .rw[B,A,aAF,aBT,aAu,aDF];have:=S.len
  lia
 .have Q:e∈yA t es\/e=(J,h,x):=by
   unfold yA at r;rw[c,d,A]at r;rw[List.zip_append (by rw[aBT,aBT,aBd,S.len])]at r;rcases aAQ.mp r with q|q
   .left;unfold yA;exact wQ q
   .rw[aBY]at q;rcases aAd.mp q with q|q
    .exact .inr q
    .left;unfold yA;exact wU q
  rcases Q with q|q
  .exact(S.reach e q).mono λk v=>(g k).mpr (.inl v)
  .subst q;exact⟨n0,z,λm T=>(g _).mpr (.inl (y.2.2 m T))⟩
def R6 (owner:Array (Option Nat))(j:Nat):Prop:=(owner.getD j<|some 0).isNone=false
theorem sR {mask:Nat}(h:Int)(owner:Array (Option Nat)):∀(fuel k:Nat),(∃kk,k<=kk/\kk<k+fuel/\¬R6 owner (D6 mask h kk).1)->
  ∃n,off mask h k<=n/\layClean.free mask owner fuel (D6 mask h k).1 (D6 mask h k).2=some (m7 mask h n).j/\¬R6 owner (m7 mask h n).j/\∀m,off mask h k<=m->m<n->R6 owner (m7 mask h m).j
 |0,k,⟨kk,g,i,_⟩=>by lia
 |fuel+1,k,⟨kk,g,i,c⟩=>by
  have l:runEnd mask (D6 mask h k).1+1-(D6 mask h k).1=len mask (D6 mask h k).1+1:=by unfold len runEnd;split<;>lia
  unfold layClean.free;rw[l];cases e:(aBK<|len mask (D6 mask h k).1+1).find? λr=>(owner.getD ((D6 mask h k).1+r)<|some 0).isNone with
  |some r=>
   have q:=List.find?_some e;have d:r<len mask (D6 mask h k).1+1:=aCE.mp (List.mem_of_find?_eq_some e);have f:(m7 mask h<|off mask h k+r).j=(D6 mask h k).1+r:=by rw[W7 mask h k r (by lia)]
   refine⟨off mask h k+r,by lia,by rw[f],by rw[f];unfold R6;rw[q];simp,λm a b=>?_⟩;have em:(m7 mask h m).j=(D6 mask h k).1+(m-off mask h k):=by have:=W7 mask h k (m-off mask h k) (by lia);rw[show off mask h k+(m-off mask h k)=m by lia]at this;rw[this]
   rw[em];unfold R6;rw[List.find?_range_eq_some]at e;have:=e.2.2 (m-off mask h k) (by lia);simpa using this
  |none=>
   have all:∀r<len mask (D6 mask h k).1+1,R6 owner ((D6 mask h k).1+r):=λr d=>by have:=List.find?_eq_none.mp e r (aCE.mpr d);unfold R6;exact Bool.not_eq_true _▸this
   have u:kk≠k:=λq=>by subst q;have:=all 0 (by lia);rw[Nat.add_zero]at this;exact c this
   obtain⟨n,v,o,p,s⟩:=sR h owner fuel (k+1) ⟨kk,by lia,by lia,c⟩;have w:off mask h (k+1)=off mask h k+len mask (D6 mask h k).1+1:=rfl;refine⟨n,by lia,o,p,λm x t=>?_⟩;by_cases q:off mask h (k+1)<=m
   .exact s m q t
   .have em:(m7 mask h m).j=(D6 mask h k).1+(m-off mask h k):=by have:=W7 mask h k (m-off mask h k) (by lia);rw[show off mask h k+(m-off mask h k)=m by lia]at this;rw[this]
    rw[em];exact all _ (by lia)
def nE {mask:Nat}(F:mQ (mask+1))(h:Int)(owner:Array (Option Nat)){j:Nat}(g:j<=mask)(a:¬R6 owner j):
  ∃n,layClean.free mask owner (turns mask) (aDN h%(mask+1)) (aDN h)=some (m7 mask h n).j/\¬R6 owner (m7 mask h n).j/\∀m<n,R6 owner (m7 mask h m).j:=by
 obtain⟨k,i,e⟩:=rZ F (GS mask h 13) (show j<mask+1 by lia);obtain⟨n,l,b,c,d⟩:=sR h owner (turns mask) 0 ⟨13+k,aBe _,by unfold turns;lia,by rw[oK,e];exact a⟩;exact⟨n,b,c,λm f=>d m (aBe _) f⟩
structure Laid (mask:Nat)(hs:List Int)(owner:Array (Option Nat))(k:Nat):Prop where
 size:owner.size=mask+1
 lt:∀(j i:Nat),owner[j]?=some (some i)->i<k
 inj:∀(j j' i:Nat),owner[j]?=some (some i)->owner[j']?=some (some i)->j=j'
 sur:∀i<k,∃j:Nat,owner[j]?=some (some i)
 reach:∀(j i:Nat) (h:Int),owner[j]?=some (some i)->hs[i]?=some h->Reach mask (λl=>∃i,owner[l]?=some (some i)) h j
def lD {owner:Array (Option Nat)}{mask j:Nat}(b:owner.size=mask+1)(c:j<=mask):R6 owner j↔∃i,owner[j]?=some (some i):=by
 unfold R6;have a:j<owner.size:=by lia
 have e:owner.getD j (some 0)=owner[j]:=by simp[aFc,a]
 rw[e,aAH a];cases owner[j]with
 |none=>simp
 |some i=>simp
def Laid.room {mask k:Nat}{p:List Int}{owner:Array (Option Nat)}(L:Laid mask p owner k)(s:k<=mask):∃j≤mask,¬R6 owner j:=by
 by_cases z:∃j≤mask,¬R6 owner j
 .exact z
 .exfalso;have all:∀j≤mask,∃i,owner[j]?=some (some i):=λj b=>by
   by_cases q:R6 owner j
   .exact(lD L.size b).mp q
   .exact absurd ⟨j,b,q⟩ z
  have c:∀n,n<=mask+1->∃l:List Nat,l.length=n/\l.Nodup/\(∀i∈l,i<k)/\∀i∈l,∃j<n,owner[j]?=some (some i):=λn=>by
   induction n with
   |zero=>exactλ_=>⟨[],rfl,aDh,by simp,by simp⟩
   |succ n r=>
    intro t;obtain⟨l,h,d,f,o⟩:=r (by lia);obtain⟨i,g⟩:=all n (by lia);refine⟨i::l,by simp[h],aAR.mpr ⟨λq=>?_,d⟩,λx a=>?_,λx a=>?_⟩
    .obtain⟨j,b,e⟩:=o i q;have:=L.inj j n i e g
     lia
    .rcases aAd.mp a with q|q
     .subst q;exact L.lt _ _ g
     .exact f x q
    .rcases aAd.mp a with q|q
     .subst q;exact⟨n,by lia,g⟩
     .obtain⟨j,b,e⟩:=o x q;exact⟨j,by lia,e⟩
  obtain⟨l,h,d,f,_⟩:=c (mask+1) (aAh _);have:=Q6 (m:=aBK k) d (λx a=>aCE.mpr (f x a));simp at this
  lia
def EI (mask:Nat)(b:List Int):Laid mask b (aEw (mask+1) none) 0:=by
 have a:∀(j i:Nat),(aEw (mask+1) (none:Option Nat))[j]?=some (some i)->False:=λj i h=>by rw[Array.getElem?_replicate]at h;split at h<;>cases h
 exact⟨by simp,λj i h=>(a j i h).elim,λj c i h=>(a j i h).elim,λi d=>by lia,λj i _ h=>(a j i h).elim⟩
def Laid.step {mask k:Nat}{f:List Int}{owner:Array (Option Nat)}(L:Laid mask f owner k){h:Int}(s:f[k]?=some h){n:Nat}(t:¬R6 owner (m7 mask h n).j)(u:∀m<n,R6 owner (m7 mask h m).j):
  Laid mask f (owner.setIfInBounds (m7 mask h n).j (some k)) (k+1):=by
 have v:=wI mask h n;have g:(m7 mask h n).j<owner.size:=by rw[L.size];lia
 have get:∀(j i:Nat),(owner.setIfInBounds (m7 mask h n).j (some k))[j]?=some (some i)↔(j=(m7 mask h n).j/\i=k)\/(j≠(m7 mask h n).j/\owner[j]?=some (some i)):=λj i=>by
  rw[Array.getElem?_setIfInBounds];by_cases q:(m7 mask h n).j=j
  .rw[ji q,ji g];simp[q,eq_comm]
  .rw[jn q];constructor
   .intro z;exact .inr ⟨λy=>q y.symm,z⟩
   .rintro(⟨z,_⟩|⟨_,z⟩)
    .exact absurd z.symm q
    .exact z
 have w:∀i,owner[(m7 mask h n).j]?≠some (some i):=λi z=>t ((lD L.size v).mpr ⟨i,z⟩);have grow:∀l:Nat,(∃i:Nat,owner[l]?=some (some i))->∃i:Nat,(owner.setIfInBounds (m7 mask h n).j (some k))[l]?=some (some i):=λl x=>by
  obtain⟨i,z⟩:=x;by_cases q:l=(m7 mask h n).j
  .exact⟨k,(get l k).mpr (.inl ⟨q,rfl⟩)⟩
  .exact⟨i,(get l i).mpr (.inr ⟨q,z⟩)⟩
 refine⟨by simp[L.size],λj i z=>?_,λj o i z r=>?_,λi B=>?_,λj i p z e=>?_⟩
 .rcases(get j i).mp z with⟨_,q⟩|⟨_,q⟩
  .lia
  .have:=L.lt j i q;lia
 .rcases(get j i).mp z with⟨c,a⟩|⟨c,a⟩
  .rcases(get o i).mp r with⟨d,b⟩|⟨d,b⟩
   .rw[c,d]
   .subst a;have:=L.lt _ _ b;lia
  .rcases(get o i).mp r with⟨d,b⟩|⟨d,b⟩
   .subst b;have:=L.lt _ _ a;lia
   .exact L.inj j o i a b
 .by_cases q:i=k
  .subst q;exact⟨_,(get _ _).mpr (.inl ⟨rfl,rfl⟩)⟩
  .obtain⟨j,z⟩:=L.sur i (by lia);exact⟨j,(get j i).mpr (.inr ⟨λy=>by subst y;exact w i z,z⟩)⟩
 .rcases(get j i).mp z with⟨c,a⟩|⟨c,a⟩
  .subst c a;have:p=h:=aAl (e.symm.trans s);subst this;exact⟨n,rfl,λm A=>grow _ ((lD L.size<|wI mask p m).mp (u m A))⟩
  .exact(L.reach j i p a e).mono grow
def AD {mask:Nat}(F:mQ (mask+1))(b:Array Int)(y:b.size<=mask):∃owner,layClean mask b=some owner/\Laid mask b.toList owner b.size:=by
 have f:∀(post a:List Int) (owner:Array (Option Nat)),b.toList=a++post->Laid mask b.toList owner a.length->
   ∃c,post.foldl (λB h=>do
    let(owner,k)<-B
    let j<-layClean.free mask owner (turns mask) (aDN h%(mask+1)) (aDN h)
    pure (owner.setIfInBounds j (some k),k+1)) (some (owner,a.length))=some (c,b.size)/\Laid mask b.toList c b.size:=λpost=>by
  induction post with
  |nil=>
   intro a owner e L;have:a.length=b.size:=by rw[<-aBd,e];simp
   exact⟨owner,by rw[List.foldl_nil,this],by rw[<-this];exact L⟩
  |cons h post g=>
   intro a owner e L;have d:a.length<b.size:=by rw[<-aBd,e];simp
   obtain⟨j,i,l⟩:=L.room (by lia);obtain⟨n,m,o,p⟩:=nE F h owner i l;have q:b.toList[a.length]?=some h:=by rw[e];simp
   have r:=L.step q o p;rw[aEx];have s:b.toList=(a++[h])++post:=by rw[e];simp
   obtain⟨c,t,u⟩:=g (a++[h]) _ s (by rw[aAF];exact r);refine⟨c,?_,u⟩;rw[<-t];congr 1;simp[m]
 obtain⟨owner,v,w⟩:=f b.toList [] (aEw (mask+1) none) rfl (EI mask b.toList);refine⟨owner,?_,w⟩;unfold layClean;rw[<-Array.foldl_toList];have x:List.foldl (λB h=>do
    let(owner,k)<-B
    let j<-layClean.free mask owner (turns mask) (aDN h%(mask+1)) (aDN h)
    pure (owner.setIfInBounds j (some k),k+1)) (some (aEw (mask+1) none,0)) b.toList=some (owner,b.size):=v
 rw[x];rfl
def F7 (mask:Nat)(owner:Array (Option Nat)):List (Nat×Nat):=(aBK<|mask+1).filterMap λj=>(owner.getD j none).map (j,·)
def R4 {mask:Nat}{owner:Array (Option Nat)}(f:owner.size=mask+1){j i:Nat}:(j,i)∈F7 mask owner↔owner[j]?=some (some i):=by
 unfold F7;rw[aBM];constructor
 .rintro⟨l,a,e⟩;have d:l<owner.size:=by rw[f];exact aCE.mp a
  have b:owner.getD l none=owner[l]:=by simp[aFc,d]
  rw[b,aDj]at e;obtain⟨h,c,g⟩:=e;cases g;rw[aAH d,c]
 .intro e;obtain⟨a,c⟩:=aCh.mp e;have b:owner.getD j none=owner[j]:=by simp[aFc,a]
  exact⟨j,aCE.mpr (by lia),by rw[b,c];rfl⟩
def AI (mask:Nat)(owner:Array (Option Nat)):((F7 mask owner).map (·.1)).Pairwise (· <·):=by unfold F7;rw[aBB];have:(aBK<|mask+1).Pairwise (· <·):=List.pairwise_lt_range;refine List.Pairwise.filterMap _ (R:=(· <·)) ?_ this;intro a f e b c g d;rw[aDj]at c d;obtain⟨_,_,rfl⟩:=c;obtain⟨_,_,rfl⟩:=d;exact e
def QX {mask finger moves:Nat}{led plain:Bool}(F:mQ (mask+1))(es:Array (Int×af))(z:es.size<=mask):
  ∃t' d,laid mask finger moves led plain (es.map (·.1))=some (t',d)/\(d.filterMap (es[·]?)).size=es.size/\(d.filterMap (es[·]?)).toList.Perm es.toList/\SOk t' (d.filterMap (es[·]?)).toList/\
   t'.mask=mask/\t'.dummies=#[]/\t'.led=led/\t'.plain=plain/\t'.moves=moves:=by
 obtain⟨c,I,L⟩:=AD F (es.map (·.1)) (by simpa using z);have g:(es.map (·.1)).size=es.size:=by simp
 rw[g]at L;refine⟨{mask,place:=((F7 mask c).map (·.1)).toArray,dummies:=#[],finger,led,moves,plain},((F7 mask c).map (·.2)).toArray,?_,?_⟩
 .unfold laid;rw[I];rfl
 have m:(F7 mask c).Nodup:=by have:=AI mask c;rw[aBB]at this;exact aCg.mpr (this.imp λ{a b} h e=>by subst e;exact aBl _ h)
 have n:((F7 mask c).map (·.2)).Nodup:=by rw[aCg,aBB];refine List.Pairwise.imp_of_mem (R:=(· ≠·)) ?_ (aCg.mp m);rintro⟨j,i⟩ ⟨o,p⟩ J N O e;dsimp only at e;subst e;have:=L.inj j o i ((R4 L.size).mp J) ((R4 L.size).mp N);subst this;exact O rfl
 have A:((F7 mask c).map (·.2)).Perm (aBK es.size):=by
  rw[aDz n List.nodup_range];intro i;rw[aCE,aAo];constructor
  .rintro⟨⟨j,p⟩,h,rfl⟩;exact L.lt _ _ ((R4 L.size).mp h)
  .intro r;obtain⟨j,s⟩:=L.sur i r;exact⟨(j,i),(R4 L.size).mpr s,rfl⟩
 have B:(((F7 mask c).map (·.2)).toArray.filterMap (es[·]?)).toList=(F7 mask c).filterMap (λx=>es[x.2]?):=by rw[Array.toList_filterMap,aDl];rfl
 have Q:((F7 mask c).filterMap (λx=>es[x.2]?)).Perm es.toList:=by
  have T:(F7 mask c).filterMap (λx=>es[x.2]?)=((F7 mask c).map (·.2)).filterMap (λi=>es[i]?):=by rw[aDl];rfl
  rw[T];refine(A.filterMap _).trans (List.Perm.of_eq ?_);apply aFe;intro i;have:(aBK es.size).filterMap (λi=>es[i]?)=es.toList:=by
   have q:∀l:List (Int×af),(aBK l.length).filterMap (λi=>l[i]?)=l:=λl=>by
    induction l with
    |nil=>rfl
    |cons a l t=>
     rw[aAu,aFy,aCj];simp only[aDc];rw[aDl];have:((λi=>(a::l)[i]?)∘Nat.succ)=λi=>l[i]?:=by funext i;simp
     rw[this,t]
   have:=q es.toList;simpa using this
  rw[this]
 have U:∀l:List (Nat×Nat),(∀x∈l,x.2<es.size)->(l.map (·.1)).zip (l.filterMap<|λx=>es[x.2]?)=l.filterMap (λx=>es[x.2]?.map (x.1,·))/\(l.filterMap<|λx=>es[x.2]?).length=l.length:=λl=>by
  induction l with
  |nil=>intro _;exact⟨rfl,rfl⟩
  |cons x l t=>intro h;obtain⟨Y,i2⟩:=t (λy hy=>h y (aAe _ hy));have u:=h x (by simp);have e:es[x.2]?=some es[x.2]:=aAH u;rw[aAt,aCj,e];dsimp only;rw[aCj,e];dsimp only[Option.map_some];rw[aBY,Y];exact⟨rfl,by simp[i2]⟩
 obtain⟨z1,C⟩:=U (F7 mask c) (λx u=>L.lt x.1 x.2 ((R4 L.size).mp u));have E:(F7 mask c).length=es.size:=by have:=A.length_eq;simpa using this
 rw[B];refine⟨by rw[<-aBd,B,C,E],Q,⟨⟨?_,λj s=>?_,rfl⟩,F,?_,?_,λe f=>?_⟩,rfl,rfl,rfl,rfl,rfl⟩
 .intro i k r g w;have:=aCo.mp (AI mask c) i k (by simpa using r) (by simpa using g) w;simpa using this
 .have wc:j∈(F7 mask c).map (·.1):=by simpa using s
  obtain⟨⟨o,i⟩,h,rfl⟩:=aAo.mp wc;have:=(aCh.mp<|(R4 L.size).mp h).1;rw[L.size]at this;show o<=mask
  lia
 .rw[C];simp
 .simp only[aAp,aAj,E];exact z
 .unfold yA at f;dsimp only at f;rw[z1,aBM]at f;obtain⟨⟨j,i⟩,h,H⟩:=f;rw[aDj]at H;obtain⟨⟨hh,v⟩,e2,rfl⟩:=H;have ho:=(R4 L.size).mp h;have:=L.reach j i hh ho (by rw[aAC,Array.getElem?_map,e2];rfl);refine this.mono λl z9=>?_;obtain⟨p,ip⟩:=z9;show l∈(F7 mask c).map (·.1);exact aAo.mpr ⟨(l,p),(R4 L.size).mpr ip,rfl⟩
end ST
namespace TS
open PySem PyProof.Rows
abbrev tupK:Bool->SortKind:=sortPriv%PySem.Builtin.KeyKind.tuples
structure TB (f:Bool)(aa:Array Keyed)(st:SortSt):Prop where
 perm:(arrOf st).Perm aa
 kind:kindOf st=tupK f
 failed:failedOf st=none
 pend:pendingOf st=#[]
def TB.size {f:Bool}{aa:Array Keyed}{st:SortSt}(h:TB f aa st):(arrOf st).size=aa.size:=h.perm.size_eq
def TB.setArr {f:Bool}{aa:Array Keyed}{st:SortSt}(h:TB f aa st){Y:Array Keyed}(a:Y.Perm (arrOf st)):TB f aa (PyProof.Rows.setArr st Y):=
 ⟨a.trans h.perm,h.kind,h.failed,h.pend⟩
def VQ (f:Bool)(A:cf)(s:a9)(κ:KeyKind):Prop:=
 ∀(c:bu) (w:cp) (E:C7) (x y:af) (a b:κ.α) {Q:xG},
  κ.keyOf x=some a->κ.keyOf y=some b->Q (κ.blt a b) s->bb (bo c w) A (keyLt' (tupK f) x y) Q E s
def TB.atK {f:Bool}{κ:KeyKind}{aa:Array Keyed}{st:SortSt}(h:TB f aa st)(h0:KeysOf κ aa){i:Nat}(c:i<aa.size):∃x p a,(arrOf st)[i]?=some (x,p)/\κ.keyOf x=some a/\KK κ (arrOf st) i=a:=by
 have d:i<(arrOf st).size:=by rw[h.size];exact c
 obtain⟨a,b⟩:=h0 _ ((aEJ.mp h.perm).mem_iff.mp (show(arrOf st)[i]∈(arrOf st).toList by simp));have e:(arrOf st)[i]?=some (arrOf st)[i]:=getElem?_pos _ i d;exact⟨(arrOf st)[i].1,(arrOf st)[i].2,a,by rw[e],b,by unfold KK;rw[e];simp[b]⟩
section
def rj (f:Bool){prog:bu}{w:cp}{A:cf}{E:C7}{s:a9}{aa:Array Keyed}{κ:KeyKind}{st:SortSt}{i j:Nat}{Q:Option Bool->SortSt->Prop}(d:VQ f A s κ)(c:TB f aa st)(h0:KeysOf κ aa)(e:i<aa.size)(g:j<aa.size)
  (h:Q (some (κ.blt (KK κ (arrOf st) i) (KK κ (arrOf st) j))) st):wpS (bo prog w) A E s (ltAt' i j) Q st:=by
 obtain⟨x,p,a,k,l,m⟩:=c.atK h0 e;obtain⟨y,q,b,n,o,r⟩:=c.atK h0 g;rw[m,r]at h;rw[ltAt'_eq];refine aBt (wpS_get ?_);show wpS _ _ _ _ (do let x<-elem' (arrOf st) i;let y<-elem' (arrOf st) j;lt' x y) Q st;rw[elem'_eq,elem'_eq,k,n];refine aBt (aCp<|aBt<|aCp ?_);rw[lt'_eq];refine aBt (wpS_get ?_);rw[c.kind];refine aBt (wpS_lift<|aEs<|d prog w _ x y a b l o ⟨rfl,?_⟩);exact aCp h
def up1 (S:SortedToK κ Y x)(h:1<=x->κ.kle (KK κ Y (x-1)) (KK κ Y x)):SortedToK κ Y (x+1):=λi j a b=>by
 rcases aDm (aFf b)with c|rfl
 .exact S i j a c
 .rcases aDm a with d|rfl
  .exact KeyOrd.kle_trans (S i (j-1) (by lia) (by lia)) (h (by lia))
  .exact KeyOrd.kle_refl _
def dn1 (S:NonIncK κ Y x)(h:1<=x->κ.kle (KK κ Y x) (KK κ Y (x-1))):NonIncK κ Y (x+1):=λi j a b=>by
 rcases aDm (aFf b)with c|rfl
 .exact S i j a c
 .rcases aDm a with d|rfl
  .exact KeyOrd.kle_trans (h (by lia)) (S i (j-1) (by lia) (by lia))
  .exact KeyOrd.kle_refl _
def PK (S:NonIncK κ Y x)(e:∀k,KK κ a k=KK κ Y k):NonIncK κ a x:=λi j b c=>by rw[e,e];exact S i j b c
def BN (κ:KeyKind)(Y:Array Keyed)(x c:Nat):Prop:=c+1<=x/\∀k,x-(c+1)<=k->k<x->KK κ Y k=KK κ Y (x-1)
def BN.one (h:1<=x):BN κ Y x 0:=⟨h,λk a b=>by rw[show k=x-1 by lia]⟩
variable{st:SortSt}
def RD (h:VQ f A s κ)(h0:KeysOf κ aa)(k:m<=aa.size)(B:TB f aa st)(l:1<=a)(b:a<=m)(S:SortedToK κ (arrOf st) a){Q:AscSt->SortSt->Prop}(q:∀n,a<=n->n<=m->SortedToK κ (arrOf st) n->(n<m->κ.klt (KK κ (arrOf st) n) (KK κ (arrOf st) (n-1)))->Q (none,n) st):wpS (bo prog w) A E s (ascLoop a m) Q st:=by
 refine aEg (I:=λn r t=>t=st/\r=(none,n)/\SortedToK κ (arrOf st) n) (λn r t i o j=>?_) (λr t ⟨d,g,c⟩=>?_) ⟨rfl,rfl,S⟩
 .obtain⟨d,g,c⟩:=j;subst d g;refine aBt (rj f h B h0 (by lia) (by lia) ?_);cases z:κ.blt (KK κ (arrOf t) n) (KK κ (arrOf t)<|n-1)with
  |true=>exact aCp (q n i (by lia) c λ_=>z)
  |false=>exact aCp ⟨rfl,rfl,up1 c λ_=>z⟩
 .subst d g;have e:max a m=m:=Nat.max_eq_right b;rw[e]at c⊢;exact q m b (aAh _) c λz=>absurd z (aBl _)
abbrev Told (f:Bool)(κ:KeyKind)(aa:Array Keyed)(m:Nat)(Q:Option Nat->SortSt->Prop):Prop:=∀n t,TB f aa t->1<=n->n<=m->SortedToK κ (arrOf t) n->Q (some n) t
def zK (d:VQ f A s κ)(h0:KeysOf κ aa)(a:m<=aa.size)(B:TB f aa st)(b:1<=n)(c:n<=m)(S:NonIncK κ (arrOf st) n){Q:Option Nat->SortSt->Prop}(q:Told f κ aa m Q):
  wpS (bo prog w) A E s (tail3 n m) Q st:=by
 have B2:=B.setArr (aFW (arrOf st) 0 n<|(n-0)/2);have g:n<=(arrOf st).size:=by rw[B.size];exact aAw c a
 refine aBt (aFX<|aBt<|RD d h0 a B2 b c (λi j t h=>?_) λk l o p _=>aCp (q k _ B2 (aAw b l) o p));have e:∀k,k<n->KK κ (arrOf<|setArr st<|mirror (arrOf st) 0 n<|(n-0)/2) k=KK κ (arrOf st) (0+n-1-k):=λk r=>(KK_mirror g k).trans (ji ⟨aBe _,r⟩);rw[e i (by lia),e j h];exact S _ _ (by lia) (by lia)
def RF (g:VQ f A s κ)(h0:KeysOf κ aa)(C:m<=aa.size)(B:TB f aa st)(h:1<=n)(j:n<=m)(S:NonIncK κ (arrOf st) n){Q:DescSt->SortSt->Prop}(q:∀k c t,TB f aa t->1<=k->k<=m->NonIncK κ (arrOf t) k->BN κ (arrOf t) k c->Q (none,k,c) t):wpS (bo prog w) A E s (descLoop n m) Q st:=by
 refine aEg (I:=λk r t=>∃c,r=(none,k,c)/\TB f aa t/\NonIncK κ (arrOf t) k/\BN κ (arrOf t) k c) (λk r t H J p=>?_) (λr t ⟨c,e,a,d,b⟩=>?_) ⟨0,rfl,B,S,BN.one h⟩
 .obtain⟨c,e,a,d,b⟩:=p;subst e;have u:k<=(arrOf t).size:=by rw[a.size];lia
  dsimp only;refine aBt (rj f g a h0 (by lia) (by lia) ?_);cases z:κ.blt (KK κ (arrOf t) k) (KK κ (arrOf t)<|k-1)with
  |true=>
   have l:NonIncK κ (arrOf t) (k+1):=dn1 d λ_=>KeyOrd.kle_of_klt z;show wpS _ _ _ _ (if c>0 then _ else _) _ t;by_cases o:c>0
   .rw[ji o];exact aBt (aFX (aCp ⟨0,rfl,a.setArr (aFW _ _ _ _),PK l (aFC u b.2),BN.one (by lia)⟩))
   .rw[jn o];exact aCp ⟨0,rfl,a,l,BN.one (by lia)⟩
  |false=>
   dsimp only;simp only[aAn,if_false];refine aBt (rj f g a h0 (by lia) (by lia) ?_);cases v:κ.blt (KK κ (arrOf t)<|k-1) (KK κ (arrOf t) k)with
   |true=>exact aCp (q k c t a (by lia) (by lia) d b)
   |false=>
    have e:KK κ (arrOf t) k=KK κ (arrOf t) (k-1):=KeyOrd.kle_antisymm v z;refine aCp ⟨c+1,rfl,a,dn1 d λ_=>by rw[e];exact KeyOrd.kle_refl _,by have:=b.1;lia,λi L x=>?_⟩;show KK κ (arrOf t) i=KK κ (arrOf t) k;rcases aDm (aFf x)with y|rfl
    .rw[e];exact b.2 i (by lia) y
    .rfl
 .subst e;have e:max n m=m:=Nat.max_eq_right j;rw[e]at d b⊢;exact q m c t a (aAw h j) (aAh _) d b
def AE (a:VQ f A s κ)(h0:KeysOf κ aa)(b:m<=aa.size)(B:TB f aa st)(j:n+1<=m)(S:NonIncK κ (arrOf st) (n+1)){Q:Option Nat->SortSt->Prop}(q:Told f κ aa m Q):
  wpS (bo prog w) A E s (descPart n m) Q st:=by
 refine aBt (wpS_lift<|aDi ⟨rfl,aBt (RF a h0 b B (aGn n) j S λk c t d e g h l=>?_)⟩);have o:k<=(arrOf t).size:=by rw[d.size];lia
 show wpS _ _ _ _ (if c>0 then _ else _) _ t;by_cases i:c>0
 .rw[ji i];exact aBt (aFX<|zK a h0 b (d.setArr<|aFW _ _ _ _) e g (PK h<|aFC o l.2) q)
 .rw[jn i];exact zK a h0 b d e g h q
def IA (a:VQ f A s κ)(h0:KeysOf κ aa)(b:m<=aa.size)(h:1<=m)(B:TB f aa st){Q:Option Nat->SortSt->Prop}(q:Told f κ aa m Q):wpS (bo prog w) A E s (countRun' 0 m) Q st:=by
 rw[countRun0_eq];refine aBt (RD a h0 b B (aAh 1) h (up1 (λ_ _ _ z=>absurd z (aFD _)) λz=>absurd z (by decide)) λn c d S l=>?_);show wpS _ _ _ _ (if(n==m)=true then _ else _) _ st;by_cases e:n=m
 .rw[ji (beq_iff_eq.mpr e)];exact aCp (q n st B c d S)
 .rw[jn λz=>e (beq_iff_eq.mp z)];have lt:=l (by lia);by_cases g:n>1
  .rw[ji g];refine aBt (rj f a B h0 (by lia) (by lia) ?_);cases z:κ.blt (KK κ (arrOf st) 0) (KK κ (arrOf st)<|n-1)with
   |true=>exact aCp (q n st B c d S)
   |false=>
    have o:n<=(arrOf st).size:=by rw[B.size];lia
    have same:∀k,0<=k->k<n->KK κ (arrOf st) k=KK κ (arrOf st) (n-1):=λk _ p=>KeyOrd.kle_antisymm (S k (n-1) (by lia) (by lia)) (KeyOrd.kle_trans z<|S 0 k (aBe _) p);have r:NonIncK κ (arrOf st) n:=λi j u t=>by rw[same i (aBe _) (by lia),same j (aBe _) t];exact KeyOrd.kle_refl _
    exact aBt (aFX (AE a h0 b (B.setArr<|aFW _ _ _ _) (by lia) (PK (dn1 r λ_=>KeyOrd.kle_of_klt lt)<|aFC o same) q))
  .rw[jn g];obtain rfl:n=1:=by lia
   exact AE a h0 b B (by lia) (dn1 (dn1 (λ_ _ _ z=>absurd z (aFD _)) λz=>absurd z (by decide)) λ_=>KeyOrd.kle_of_klt lt) q
def oU (hO:VQ f A s κ)(h0:KeysOf κ aa)(hn:n<=aa.size)(hk:k<=n)(B:TB f aa st)(S:SortedToK κ (arrOf st) k){Q:Bool->SortSt->Prop}(q:∀t,TB f aa t->SortedToK κ (arrOf t) n->Q true t):
  wpS (bo prog w) A E s (binarySort' 0 n k) Q st:=by
 rw[binarySort'_eq];simp only[aDr];have S0:SortedToK κ (arrOf st) (min (max k 1) n):=λi j C L=>by
  rcases Nat.eq_or_lt_of_le C with rfl|bg
  .exact KeyOrd.kle_refl _
  .exact S i j C (by lia)
 refine aBt (wpS_mono (Q:=λr t=>r=(none,())/\TB f aa t/\SortedToK κ (arrOf t) n) (aEg (I:=λx r t=>r=(none,())/\TB f aa t/\SortedToK κ (arrOf t) (min x n)) (λx r t l1 l2 ⟨e,g,c⟩=>?step) (λr t ⟨e,g,c⟩=>⟨e,g,?fin⟩) ⟨rfl,B,S0⟩) λr t ⟨e,g,c⟩=>?post)
 case step=>
  subst e;rw[Nat.min_eq_left (aDb l2)]at c;have N:x<aa.size:=by lia
  let o (l:Nat):Prop:=∀i,i<l->κ.kle (KK κ (arrOf t) i) (KK κ (arrOf t) x)
  let Top (r:Nat):Prop:=∀i,r<=i->i<x->κ.klt (KK κ (arrOf t) x) (KK κ (arrOf t) i)
  refine aBt (wpS_mono (Q:=λd u=>u=t/\∃l r,d=(none,l,r)/\l<=x/\o l/\Top l) (aEg (I:=λy d u=>u=t/\∃l r,d=(none,l,r)/\l<=r/\r<=x/\r-l<=x-y/\o l/\Top r) (λy d u _ y2 ⟨e,l,r,p,O,H,J,lo,m⟩=>?istep) (λd u ⟨e,l,r,p,O,H,J,lo,m⟩=>?ifin)
   ⟨rfl,0,x,rfl,aBe _,aAh _,aAh _,λ_ z=>absurd z (aFD _),λi a b=>absurd (aBN a b) (aBl _)⟩) λd u ⟨e,l,r,p,lx,lo,m⟩=>?ipost)
  case istep=>
   subst e p;show wpS _ _ _ _ (if l>=r then _ else _) _ u;by_cases h:l>=r
   .rw[ji h];obtain rfl:l=r:=Nat.le_antisymm O h;exact aCp ⟨rfl,l,l,rfl,H,lo,m⟩
   .rw[jn h];dsimp only;refine aBt (rj f hO g h0 N (by lia) ?_);cases z:κ.blt (KK κ (arrOf u) x) (KK κ (arrOf u)<|(l+r)/2)with
    |true=>exact aCp ⟨rfl,l,(l+r)/2,rfl,by lia,by lia,by lia,lo,λi a b=>KeyOrd.klt_of_klt_of_kle z (c _ i a b)⟩
    |false=>exact aCp ⟨rfl,(l+r)/2+1,r,rfl,by lia,by lia,by lia,λi a=>KeyOrd.kle_trans (c i ((l+r)/2) (by lia) (by lia)) z,m⟩
  case ifin=>
   subst e p;obtain rfl:l=r:=by lia
   exact⟨rfl,l,l,rfl,H,lo,m⟩
  case ipost=>
   subst e p;have hz:x<(arrOf u).size:=by rw[g.size];exact N
   show wpS _ _ _ _ (do moveDown' x l;pure (aCs (none,()))) _ u;rw[moveDown'_eq];refine aBt (wpS_modify<|aCp ⟨rfl,g.setArr (bubble_perm _ _ _),λi j C L=>?_⟩);have e:∀k,KK κ (arrOf<|setArr u<|bubble (arrOf u) x<|x-l) k=if k=l then KK κ (arrOf u) x else if l<k/\k<=x then KK κ (arrOf u) (k-1)else KK κ (arrOf u) k:=λk=>by have:=KK_bubble (κ:=κ) hz (Nat.sub_le x l) k;rw[show x-(x-l)=l by lia]at this;exact this
   have L:j<x+1:=by lia
   rw[e,e];by_cases T:i=l
   .rw[ji T];by_cases v:j=l
    .rw[ji v];exact KeyOrd.kle_refl _
    .rw[jn v,ji ⟨by lia,by lia⟩];exact KeyOrd.kle_of_klt (m _ (by lia) (by lia))
   .rw[jn T];by_cases v:j=l
    .rw[ji v,jn λz=>by lia];exact lo i (by lia)
    .rw[jn v];by_cases U:l<i/\i<=x
     .rw[ji U,ji ⟨by lia,by lia⟩];exact c _ _ (by lia) (by lia)
     .rw[jn U];by_cases Y:l<j/\j<=x
      .rw[ji Y];exact c _ _ (by lia) (by lia)
      .rw[jn Y];exact c _ _ C (by lia)
 case fin=>rw[show min (max (max k 1) n) n=n by lia]at c;exact c
 case post=>subst e;exact aCp (q t g c)
def mW (f:Bool)(d:VQ f A s κ)(h0:KeysOf κ aa)(B:TB f aa st)(o:2<=aa.size)(b:aa.size<64){Q:Unit->SortSt->Prop}(q:∀t,(arrOf t).Perm aa->failedOf t=none->SortedToK κ (arrOf t) aa.size->Q () t):wpS (bo prog w) A E s sortRuns' Q st:=by
 have j:minRun' aa.size aa.size 0=aa.size:=by
  generalize p:aa.size=N at*
  cases N with
  |zero=>lia
  |succ N=>rw[minRun'_succ,ji b]
 let SJ (t:SortSt):Prop:=(arrOf t).Perm aa/\failedOf t=none/\pendingOf t=#[(0,aa.size,0)]/\SortedToK κ (arrOf t) aa.size
 have done:∀t,TB f aa t->SortedToK κ (arrOf t) aa.size->SJ (setPending t<|(pendingOf t).push (0,aa.size,0)):=λt a k=>⟨a.perm,a.failed,(jr (·.push (0,aa.size,0)) a.pend),k⟩;rw[sortRuns'_eq];refine aBt (wpS_get ?_);dsimp only;simp only[B.size,j];refine aBt (wpS_mono (Q:=λr t=>r=(none,aa.size)/\SJ t) (aEg (I:=λx r t=>(x=0/\r=(none,0)/\TB f aa t)\/(0<x/\r=(none,aa.size)/\SJ t)) (λx r t _ y I=>?step) (λr t I=>?fin)<|.inl ⟨rfl,rfl,B⟩) λr t ⟨e,D⟩=>?post)
 case step=>
  rcases I with⟨rfl,rfl,a⟩|⟨C,rfl,D⟩
  .show wpS _ _ _ _ (if 0>=aa.size then _ else _) _ t;rw[jn (by lia)];simp only[Nat.sub_zero,Nat.min_self,aDr];have fin:∀u,TB f aa u->(pendingOf u).back?=none:=λu B2=>by rw[B2.pend];rfl
   refine aBt (IA d h0 (aAh _) (by lia) a λn u B2 H l g=>?_);show wpS _ _ _ _ (if n<aa.size then _ else _) _ u;by_cases h:n<aa.size
   .rw[ji h];refine aBt (wpS_lift<|aDi ⟨rfl,aBt (oU d h0 (aAh _) l B2 g λv i m=>?_)⟩);simp only[aCz,aAn,if_false];refine aBt (wpS_get ?_);rw[fin v i];exact aBt (wpS_modify<|aCp<|.inr ⟨aGn _,rfl,done v i m⟩)
   .rw[jn h];obtain rfl:n=aa.size:=by lia
    refine aBt (wpS_get ?_);rw[fin u B2];exact aBt (wpS_modify<|aCp<|.inr ⟨aGn _,rfl,done u B2 g⟩)
  .show wpS _ _ _ _ (if aa.size>=aa.size then _ else _) _ t;rw[ji (aAh _)];exact aCp ⟨rfl,D⟩
 case fin=>
  rcases I with⟨z,_⟩|⟨_,e,D⟩
  .lia
  .exact⟨e,D⟩
 case post=>
  subst e;refine aBt (wpS_mono (Q:=λr u=>u=t/\r=(none,())) (aEg (I:=λ_ r u=>u=t/\r=(none,())) (λ_ r u _ _ ⟨e,c⟩=>?istep) (λ_ _ z=>z) ⟨rfl,rfl⟩) λr u ⟨e,c⟩=>?ipost)
  case istep=>subst e c;refine aBt (wpS_get ?_);rw[ji (by rw[D.2.2.1];exact aAh 1)];exact aCp ⟨rfl,rfl⟩
  case ipost=>subst e c;exact aCp (q _ D.1 D.2.1 D.2.2.2)
end
section
def qk (a:bc)(s c:a9):Prop:=∀b o,b≠a->s.heap.get? b=some o->c.heap.get? b=some o
def yZ {P:Fin->a9->Prop}(p:s.heap.get? a=some (seqObj "list" vs.toArray n))(h0:KeysOf κ (pairsOf vs))(x:∀g,qk a s g->VQ f A g κ)(r:2<=vs.length->∀g,qk a s g->∀{Q:SortKind->a9->Prop},Q (tupK f) g->bb (bo prog w) A (keyKind' vs.toArray) Q E g)(t:vs.length<64)(h:∀c:SortSt,(arrOf c).Perm (pairsOf vs)->SortedToK κ (arrOf c) (pairsOf vs).size->P (.done (.ret .none)) {s with heap:=sortedHeap s.heap a vs ((arrOf c).map (·.2))}):
  bb (bo prog w) A (Builtin.«list.sort» ⟨[.ref a],[]⟩) P E s:=by
 rw[list_sort_plain];have y:a<s.heap.objs.size:=aAf p;refine aAa (aEh p rfl ?_);refine aAa (listUpdate_at p rfl ?_);obtain⟨u,k⟩:∃u,(s.heap.update a<|aBO λ_=>#[]).get? a=some (seqObj "list" #[] u):=⟨_,get?_update_seq p _⟩;refine aAa (seqEpoch_at k rfl<|aAa<|aFS<|aAa<|wpAny_newList<|aAP ?_);have z:a≠(s.heap.update a<|aBO λ_=>#[]).objs.size:=by rw[Heap.size_update];exact aAk y
 have l:qk a s {s with heap:=((s.heap.update a<|aBO λ_=>#[]).push (seqObj "tuple" vs.toArray 0)).push (seqObj "list" #[] 0)}:=λb o B e=>aAc _ (aAc _<|(aAD _ _<|aCi B).trans e)
 have d:(((s.heap.update a<|aBO λ_=>#[]).push (seqObj "tuple" vs.toArray 0)).push (seqObj "list" #[] 0)).get? a=some (seqObj "list" #[] u):=aAc _ (aAc _ k);show bb (bo prog w) A _ P E {s with heap:=((s.heap.update a<|aBO λ_=>#[]).push (seqObj "tuple" vs.toArray 0)).push (seqObj "list" #[] 0)};dsimp only;have O:vs.toArray.size=vs.length:=by simp
 have m:=h;by_cases q:vs.toArray.size<2
 .rw[ji q,ji q];refine aAa (aAb ?_);rw[StateT.run_pure];refine aAa (aAb ?_);dsimp only;refine aAa (seqEpoch_at d rfl (aAa (listUpdate_at d rfl ?_ (hsz2:=by rw[Array.size_map];show(pairsOf vs).size<=_;rw[aES,aFm];lia))));simp only[bne_self_eq_false,aAn,if_false];refine aAb (m (SortSt.mk' general' (vs.toArray.zip vs.toArray) #[] 7 none) (aGq _) λi j T C=>?_);have:i=j:=by rw[aES]at C;lia
  subst this;exact KeyOrd.kle_refl _
 .rw[jn q,jn q];refine aAa (r (by lia) _ l ?_);refine aAa (aBP (mW f (κ:=κ) (x _ l) (aa:=pairsOf vs) (st:=SortSt.mk' (tupK f) (vs.toArray.zip vs.toArray) #[] 7 none) (Q:=λ_ c=>(arrOf c).Perm (pairsOf vs)/\failedOf c=none/\SortedToK κ (arrOf c) (pairsOf vs).size)
   h0 ⟨aGq _,rfl,rfl,rfl⟩ (by rw[aES];lia) (by rw[aES];exact t) λc H I J=>⟨H,I,J⟩) ?_ λ_ _ e=>e)
  rintro⟨⟨⟩,c⟩ U ⟨rfl,v,L,N⟩;dsimp only;refine aAa (seqEpoch_at d rfl (aAa (listUpdate_at d rfl ?_ (hsz2:=by refine aAw (aEi<|(Array.size_map ..).trans (v.size_eq.trans<|aES _)) ?_;rw[aFm];lia))));rw[L];simp only[bne_self_eq_false,aAn,if_false];exact aAb (m c v N)
end
end TS
namespace L2
open PySem PySem.Spec PyProof.Rows
abbrev AB:=Sum Int Str
def NP:AB->af->Bool
 |.inl k,v=>Value.isInt k v
 |.inr x,v=>Value.isStrOf x v
def a2i (w:cp):AB->Int
 |.inl k=>hashInt k
 |.inr x=>hashStr w x
theorem A6:∀{k:AB} {v:af},NP k v=true->(∃i t,k=aGg i/\v=aGr i t)\/(∃x t,k=aGh x/\v=Value.str x t)
 |.inl i,v,h=>by obtain⟨t,e⟩:=Value.isInt_shape (k:=i) (v:=v) h;exact .inl ⟨i,t,rfl,e⟩
 |.inr x,v,h=>by obtain⟨t,e⟩:=Value.isStrOf_shape (x:=x) (v:=v) h;exact .inr ⟨x,t,rfl,e⟩
def ZV (a b:Int):decide ((aGg a:AB)=aGg b)=(a==b):=by
 by_cases e:a=b
 .subst e;simp
 .have h:¬(aGg a:AB)=aGg b:=λq=>e (Sum.inl.inj q);rw[decide_eq_false h];exact(beq_eq_false_iff_ne.mpr e).symm
def cw (a b:Str):decide ((aGh a:AB)=aGh b)=decide (a=b):=by
 by_cases e:a=b
 .subst e;simp
 .have h:¬(aGh a:AB)=aGh b:=λq=>e (Sum.inr.inj q);rw[decide_eq_false h,decide_eq_false e]
def fq (a:Int)(b:Str):decide ((aGg a:AB)=aGh b)=false:=decide_eq_false (λq=>nomatch q)
def mw (a:Str)(b:Int):decide ((aGh a:AB)=aGg b)=false:=decide_eq_false (λq=>nomatch q)
def vZ (prog:bu)(w:cp):PySem.KeyKind prog w AB where
 is:=NP
 hash:=a2i w
 inj:=λv a b g f=>by
  rcases A6 g with⟨i,t,rfl,rfl⟩|⟨x,t,rfl,rfl⟩
  .rcases A6 f with⟨j,u,rfl,e⟩|⟨y,u,rfl,e⟩
   .injection e with c _;rw[c]
   .exact nomatch e
  .rcases A6 f with⟨j,u,rfl,e⟩|⟨y,u,rfl,e⟩
   .exact nomatch e
   .injection e with c _;rw[c]
 byValue:=λk v h=>by rcases A6 h with⟨i,t,rfl,rfl⟩|⟨x,t,rfl,rfl⟩<;>rfl
 pyHash:=λd h=>by
  rcases A6 d with⟨i,t,rfl,rfl⟩|⟨x,t,rfl,rfl⟩
  .exact wpAny_pyHash_int h
  .exact wpAny_pyHash_str h
 eqBool:=λl d h=>by
  rcases A6 l with⟨i,t,rfl,rfl⟩|⟨x,t,rfl,rfl⟩
  .rcases A6 d with⟨j,u,rfl,rfl⟩|⟨y,u,rfl,rfl⟩
   .rw[ZV]at h;exact wpAny_eqBool_int h
   .rw[fq]at h;exact aGb i t y u _ _ _ _ h
  .rcases A6 d with⟨j,u,rfl,rfl⟩|⟨y,u,rfl,rfl⟩
   .rw[mw]at h;exact aGc x t j u _ _ _ _ h
   .rw[cw]at h;exact wpAny_eqBool_str h
 «strs»:=λk x t v h=>by
  rcases A6 h with⟨i,u,rfl,e⟩|⟨y,u,rfl,e⟩
  .exact nomatch e
  .injection e with c _;subst c;cases v<;>rfl
def jj (prog:bu)(w:cp)(k:AB)(v:af):(vZ prog w).is k v=NP k v:=rfl
inductive V where
 |non|bl (b:Bool)|int (i:Int)|str (x:Str)|byt (b:Array UInt8)|flt (b:UInt64)|ref (a:Addr)|ty (n:String)
 deriving DecidableEq
def RelV:V->af->Prop
 |.non,u=>u=Value.none
 |.bl b,u=>u=aDw b
 |.int i,u=>∃t,u=aGr i t
 |.str x,u=>∃t,u=Value.str x t
 |.byt b,u=>∃t,u=Value.bytes b t
 |.flt b,u=>∃t,u=Value.float b t
 |.ref a,u=>u=aCV a
 |.ty n,u=>u=aCv n
abbrev n4:List V->List af->Prop:=Paired RelV
def n4.length {Y:List V}{us:List af}(r:n4 Y us):Y.length=us.length:=Paired.length r
theorem n4.get:∀{Y:List V} {us:List af} {i:Nat} {x:V},n4 Y us->Y[i]?=some x->∃u,us[i]?=some u/\RelV x u
 |_,_,_,_,.nil,e=>by simp at e
 |_,_,0,_,.cons r _,e=>by simp at e;subst e;exact⟨_,rfl,r⟩
 |_,_,i+1,x,.cons _ t,e=>by obtain⟨u,a,b⟩:=n4.get (i:=i) (x:=x) t (by simpa using e);exact⟨u,by simpa using a,b⟩
theorem n4.append:∀{Y a:List V} {us ws:List af},n4 Y us->n4 a ws->n4 (Y++a) (us++ws)
 |_,_,_,_,.nil,s=>s
 |_,_,_,_,.cons r t,s=>.cons r (n4.append t s)
theorem n4.take:∀{Y:List V} {us:List af} (n:Nat),n4 Y us->n4 (Y.take n) (us.take n)
 |_,_,0,_=>.nil
 |_,_,_+1,.nil=>.nil
 |_,_,n+1,.cons r t=>.cons r (n4.take n t)
theorem n4.drop:∀{Y:List V} {us:List af} (n:Nat),n4 Y us->n4 (Y.drop n) (us.drop n)
 |_,_,0,r=>r
 |_,_,_+1,.nil=>.nil
 |_,_,n+1,.cons _ t=>n4.drop n t
def rz:Option V->Option af->Prop
 |some v,some u=>RelV v u
 |none,none=>True
 |_,_=>False
def KV {κ:Type}:List (κ×V)->List (κ×af)->Prop:=Paired λ(p:κ×V) (q:κ×af)=>p.1=q.1/\RelV p.2 q.2
def kV:AB->V
 |.inl i=>.int i
 |.inr x=>.str x
inductive HO where
 |lst (Y:List V)
 |tup (Y:List V)
 |dK (N:List (AB×V))|dT (N:List (List AB×V))
 |set (S:Int->Bool) (n:Nat)
 |ins (C dx:Addr) (fs:List (Str×V))
 |own (x:Addr)
 |xd (fs:List (Str×V))
 |met (f x:Addr)
 |rng (lo hi:Int)
 |frz (o:Obj) (u:HO)
 |tbl (tb:List (Pos×Str))
 |ext (φ:Heap->Prop)
abbrev Hp:=bc->Option HO
def upd (H:Hp)(a:bc)(o:HO):Hp:=λb=>if b=a then some o else H b
def j2:upd H a o a=some o:=by unfold upd;rw[ji rfl]
def k7 (h:b≠a):upd H a o b=H b:=by unfold upd;rw[jn h]
def t5 {H:Hp}{a b:bc}{o:HO}(h:H a=some o)(h':H b=none):a≠b:=by intro e;subst e;rw[h]at h';cases h'
section
variable(P:bu) (w:cp)
def ObjOk (H:Hp)(h:cq)(a:bc):HO->Prop
 |.lst Y=>Y.length<=sizeLine/\∃(b:List af) (n:Nat),n4 Y b/\h.get? a=some {cls:=.type "list",data:=.seq b.toArray n}
 |.tup Y=>Y.length<=sizeLine/\∃b:List af,n4 Y b/\IsTup h a b.toArray
 |.dK N=>N.length<=sizeLine/\(a==sysModules)=false/\∃e,KV N e/\h.DictOf (vZ P w) a e
 |.dT N=>N.length<=sizeLine/\(a==sysModules)=false/\∃Y:List (List AB×bc×af),
  Paired (λ(p:List AB×V) (q:List AB×bc×af)=>p.1=q.1/\H q.2.1=some (.tup (p.1.map kV))/\RelV p.2 q.2.2) N Y/\
  ∃o j r,h.get? a=some o/\o.ExactDict/\o.data=.dict j r/\j.toList=Y.map (entryOfKey<|tupleKind<|vZ P w)/\(Y.map (·.1)).Nodup
 |.set S n=>h.SetOf (intKind P w) a S n
 |.ins C g fs=>H g=some (.own a)/\fs.length<=1000/\g≠a/\h.get? a=some (PySem.W.instObj C g)/\
  ∃d,h.Ns1 g d/\(∀f,rz (fs.lookup f) (d f))/\PySem.Within d (fs.map (·.1))
 |.own _=>∃o,h.get? a=some o
 |.xd fs=>∃d,h.Ns1 a d/\∀f,rz (fs.lookup f) (d f)
 |.rng lo s=>∃t u v,h.get? a=some {cls:=.type "range",data:=.fields #[.int lo t,.int s u,.int 1 v]}
 |.frz o u=>h.get? a=some o/\ObjOk H h a u
 |.tbl y=>∃i:Array af,h.get? a=some {cls:=.none,data:=.fields i}/\TriplesOk i.toList/\∀p∈y,fo p.1 i.toList=none\/∃c k e t,fo p.1 i.toList=some (.ref c)/\H c=some (.frz k (.own c))/\k.data=.fields e/\e[1]?=some (.str p.2 t)
 |.met f x=>h.get? a=some (PySem.W.methodObj (.ref f)<|.ref x)
 |.ext φ=>φ h/\(∃o,h.get? a=some o)/\∀l m:cq,φ l->(∀o,l.get? a=some o->m.get? a=some o)->φ m
def YL:HO->Prop
 |.tup _=>True
 |.frz o _=>∃a,o.data=.fields a
 |_=>False
def aD (H:Hp)(h:cq):Prop:=∀a o,H a=some o->ObjOk P w H h a o
end
section
variable{P:bu} {w:cp} {H H':Hp} {h h':cq} {a:bc} {o:HO}
def ObjOk.lt (x:ObjOk P w H h a o):a<h.objs.size:=by
 cases o with
 |lst Y=>obtain⟨_,_,_,_,e⟩:=x;exact aAf e
 |tup Y=>obtain⟨_,_,_,p⟩:=x;exact p.lt
 |dK N=>obtain⟨_,_,_,_,o,_,_,e,_⟩:=x;exact aAf e
 |dT N=>obtain⟨_,_,_,_,o,_,_,e,_⟩:=x;exact aAf e
 |set S n=>obtain⟨o,_,_,_,e,_⟩:=x;exact aAf e
 |ins C b fs=>obtain⟨_,_,_,e,_⟩:=x;exact aAf e
 |own y=>obtain⟨_,e⟩:=x;exact aAf e
 |xd fs=>obtain⟨_,⟨_,_,_,e,_⟩,_⟩:=x;exact aAf e
 |rng lo c=>obtain⟨_,_,_,e⟩:=x;exact aAf e
 |frz d u=>obtain⟨e,_⟩:=x;exact aAf e
 |tbl g=>obtain⟨_,e,_⟩:=x;exact aAf e
 |met f y=>exact aAf (show h.get? a=some _ from x)
 |ext φ=>obtain⟨_,⟨_,e⟩,_⟩:=x;exact aAf e
theorem Paired.af3 {α β:Type}{F G:α->β->Prop}:∀{l₁:List α} {l₂:List β},Paired F l₁ l₂->(∀a b,F a b->G a b)->Paired G l₁ l₂
 |_,_,.nil,_=>.nil
 |_,_,.cons r t,f=>.cons (f _ _ r) (Paired.af3 t f)
def ObjOk.ab4 (x:ObjOk P w H h a o)(k:∀b u,(b=a\/H b=some (.own a))->h.get? b=some u->h'.get? b=some u)
  (J:∀b,H b=some (.own a)->H' b=some (.own a)) (E:∀b u,YL u->H b=some u->H' b=some u):ObjOk P w H' h' a o:=by
 induction o with
 |lst Y=>obtain⟨z,l,n,r,e⟩:=x;exact⟨z,l,n,r,k _ _ (.inl rfl) e⟩
 |tup Y=>obtain⟨z,l,r,g,e,c⟩:=x;exact⟨z,l,r,g,k _ _ (.inl rfl) e,c⟩
 |dK N=>obtain⟨z,y,m,r,g,i,j,e,c⟩:=x;exact⟨z,y,m,r,g,i,j,k _ _ (.inl rfl) e,c⟩
 |dT N=>obtain⟨z,y,Y,r,g,i,j,e,c⟩:=x;exact⟨z,y,Y,Paired.af3 r λp q z=>⟨z.1,E _ _ trivial z.2.1,z.2.2⟩,g,i,j,k _ _ (.inl rfl) e,c⟩
 |set S n=>obtain⟨g,i,j,t,e,c⟩:=x;exact⟨g,i,j,t,k _ _ (.inl rfl) e,c⟩
 |ins C dx fs=>obtain⟨d,z,ne,e,s,⟨A,i,j,B,c⟩,r⟩:=x;exact⟨J _ d,z,ne,k _ _ (.inl rfl) e,s,⟨A,i,j,k _ _ (.inr d) B,c⟩,r⟩
 |own y=>obtain⟨g,e⟩:=x;exact⟨g,k _ _ (.inl rfl) e⟩
 |xd fs=>obtain⟨s,⟨A,i,j,e,c⟩,r⟩:=x;exact⟨s,⟨A,i,j,k _ _ (.inl rfl) e,c⟩,r⟩
 |rng lo hi=>obtain⟨t,u,v,e⟩:=x;exact⟨t,u,v,k _ _ (.inl rfl) e⟩
 |frz g u L=>obtain⟨e,q⟩:=x;exact⟨k _ _ (.inl rfl) e,L q⟩
 |tbl tb=>obtain⟨O,e,t,f⟩:=x;exact⟨O,k a _ (.inl rfl) e,t,λp Q=>(f p Q).imp id λ⟨c,T,m,t,U,B,I⟩=>⟨c,T,m,t,U,E _ _ ⟨m,I.1⟩ B,I⟩⟩
 |met f y=>have e:h.get? a=some (PySem.W.methodObj (.ref f)<|.ref y):=x;show h'.get? a=some (PySem.W.methodObj (.ref f)<|.ref y);exact k a _ (.inl rfl) e
 |ext φ=>obtain⟨p,⟨o,e⟩,st⟩:=x;exact⟨st _ _ p λo q=>k _ _ (.inl rfl) q,⟨o,k _ _ (.inl rfl) e⟩,st⟩
def aD.lt (x:aD P w H h)(e:H a=some o):a<h.objs.size:=(x a o e).lt
def aD.fresh (x:aD P w H h)(e:h.objs.size<=a):H a=none:=by
 cases q:H a with
 |none=>rfl
 |some u=>exact absurd (aAs (x.lt q) e) (aBl _)
def aD.kept (x:aD P w H h)(k:∀b u,h.get? b=some u->h'.get? b=some u):aD P w H h':=λa o e=>(x a o e).ab4 (λb u _ q=>k b u q) (λ_ q=>q) λ_ _ _ q=>q
def aD.laid (x:aD P w H h)(k:∀b u,h.get? b=some u->h'.get? b=some u)(i:h.objs.size<=a)(d:ObjOk P w (upd H a o) h' a o):aD P w (upd H a o) h':=λb u e=>by
 have f:=x.fresh i;by_cases g:b=a
 .subst g;rw[j2]at e;cases e;exact d
 .rw[k7 g]at e;exact(x b u e).ab4 (λc v _ q=>k c v q) (λc q=>by rw[k7 (t5 q f)];exact q) λc Y _ q=>by rw[k7 (t5 q f)];exact q
end
def Rd (H:Hp)(a:bc)(u:HO):Prop:=H a=some u\/∃o,H a=some (.frz o u)
def Rd.ok (r:Rd H a u)(x:aD P w H h):ObjOk P w H h a u:=by
 rcases r with r|⟨o,r⟩
 .exact x a u r
 .obtain⟨_,q⟩:=x a _ r;exact q
def Mut:Option HO->Prop
 |some (.lst _)=>True
 |some (.dK _)=>True
 |some (.dT _)=>True
 |some (.set _ _)=>True
 |some (.ins _ _ _)=>True
 |some (.ext _)=>True
 |_=>False
section
variable{P:bu} {w:cp} {H:Hp} {h h':cq} {x e:bc} {o':HO}
def aD.write (ok:aD P w H h)(i:Mut (H x))(o:e=x\/H e=some (.own x))(k:∀b u,b≠e->h.get? b=some u->h'.get? b=some u)(m:∃u,h'.get? e=some u)
  (n:ObjOk P w (upd H x o') h' x o'):aD P w (upd H x o') h':=λb u q=>by
 have d:∀c y,H c=some (.own y)->c≠x:=λc y r z=>by subst z;rw[r]at i;exact i
 have g:∀c u,YL u->H c=some u->c≠x:=λc u f r z=>by subst z;rw[r]at i;cases u<;>first|exact i|exact f
 by_cases j:b=x
 .subst j;rw[j2]at q;cases q;exact n
 .rw[k7 j]at q;by_cases a:b=e
  .have p:H b=some (.own x):=by
    rcases o with z|z
    .exact absurd (a.trans z) j
    .rw[a];exact z
   rw[q]at p;cases p;obtain⟨v,s⟩:=m;exact⟨v,by rw[a];exact s⟩
  .refine(ok b u q).ab4 (λc v l r=>k c v ?_ r) (λc r=>by rw[k7 (d c b r)];exact r) λc Y f r=>by rw[k7 (g c Y f r)];exact r
   rcases l with rfl|l
   .exact a
   .rintro rfl;rcases o with z|z
    .exact d c b l z
    .rw[l]at z;cases z;exact j rfl
end
structure Un (fs ex:List Addr)(H H':Hp)(h h':Heap):Prop where
 keep:∀b o,h.get? b=some o->H b=none->b∉fs->b∉ex->h'.get? b=some o
 slot:∀b o,h.get? b=some o->H b=none->b∈fs->b∉ex->∃sl,h'.get? b=some {o with slots:=sl}
 free:∀b o,h.get? b=some o->H b=none->b∉ex->H' b=none
 there:∀b o,h.get? b=some o->b∉ex->∃o',h'.get? b=some o'
 tups:∀b Y,H b=some (.tup Y)->H' b=some (.tup Y)
 frzs:∀b o u,H b=some (.frz o u)->H' b=some (.frz o u)
 tbls:∀b tb,H b=some (.tbl tb)->H' b=some (.tbl tb)
section
variable{fs ze ex ex':List bc} {H H1 H2:Hp} {h h1 h2 h':cq} {a x e:bc} {o:HO}
def Un.any (u:Un fs ex H H1 h h1)(q:h.get? b=some c)(n:H b=none)(d:b∉ex):∃sl,h1.get? b=some {c with slots:=sl}:=by
 by_cases f:b∈fs
 .exact u.slot b c q n f d
 .exact⟨c.slots,u.keep b c q n f d⟩
def Un.kept (k:∀b u,h.get? b=some u->h'.get? b=some u):Un fs ex H H h h':=
 ⟨λb c q _ _ _=>k b c q,λb c q _ _ _=>⟨c.slots,k b c q⟩,λ_ _ _ n _=>n,λb c q _=>⟨c,k b c q⟩,λ_ _ q=>q,λ_ _ _ q=>q,λ_ _ q=>q⟩
def Un.refl:Un fs ex H H h h:=Un.kept λ_ _ q=>q
def Un.laid (k:∀b u,h.get? b=some u->h'.get? b=some u)(d:h.objs.size<=a)(c:H a=none):Un fs ex H (upd H a o) h h' where
 keep:=λb u q _ _ _=>k b u q
 slot:=λb u q _ _ _=>⟨u.slots,k b u q⟩
 free:=λb u q n _=>by rw[k7 (aAk<|aAs (aAf q) d)];exact n
 there:=λb u q _=>⟨u,k b u q⟩
 tups:=λb Y q=>by rw[k7 (t5 q c)];exact q
 frzs:=λb u Y q=>by rw[k7 (t5 q c)];exact q
 tbls:=λb f q=>by rw[k7 (t5 q c)];exact q
def Un.write (d:Mut (H x))(l:e=x\/H e=some (.own x))(k:∀b u,b≠e->h.get? b=some u->h'.get? b=some u)(f:∃u,h'.get? e=some u):Un fs ex H (upd H x o) h h':=by
 have i:∀b,H b=none->b≠x:=λb n z=>by subst z;rw[n]at d;exact d
 have j:∀b,H b=none->b≠e:=λb n z=>by
  subst z;rcases l with r|r
  .exact i b n r
  .rw[n]at r;cases r
 have g:∀b u,H b=some u->¬Mut (some u)->b≠x:=λb u q m z=>by subst z;rw[q]at d;exact m d
 refine⟨λb u q n _ _=>k b u (j b n) q,λb u q n _ _=>⟨u.slots,k b u (j b n) q⟩,λb u q n _=>by rw[k7 (i b n)];exact n,λb u q _=>?_,
  λb Y q=>by rw[k7 (g b _ q λz=>z)];exact q,λb u Y q=>by rw[k7 (g b _ q λz=>z)];exact q,λb p q=>by rw[k7 (g b _ q λz=>z)];exact q⟩
 by_cases c:b=e
 .subst c;exact f
 .exact⟨u,k b u c q⟩
end
def trk (h:cq)(H:Hp):List bc:=(aBK h.objs.size).filter λa=>(H a).isSome
def rE (h:cq)(H:Hp):cq:=PySem.W.hideAll h (trk h H)
def HK (h:cq)(H:Hp):(rE h H).objs.size=h.objs.size:=PySem.W.hideAll_size _ _
def RA (e:h.get? b=some o)(n:H b=none):(rE h H).get? b=some o:=
 PySem.W.hideAll_get _ e λa=>by have q:(H b).isSome=true:=(aBQ.mp a).2;rw[n]at q;simp at q
def VJ (e:(rE h H).get? b=some o):h.get? b=some o/\H b=none:=by
 have a:h.get? b=some o:=PySem.W.of_hideAll (trk h H) e;refine⟨a,?_⟩;cases q:H b with
 |none=>rfl
 |some x=>have c:b∈trk h H:=aBQ.mpr ⟨aCE.mpr (aAf a),by simp[q]⟩;have z:(rE h H).get? b=none:=PySem.W.hideAll_none (trk h H) c;rw[z]at e;cases e
def UG (g h:cq)(L:bc):List (bc×Obj):=(aBK h.objs.size).filterMap λa=>if a=L\/(g.get? a).isSome=true then none else(h.get? a).map λo=>(a,o)
def rest (g h:cq)(L d:bc):List (bc×Obj):=(UG g h L).filter λp=>decide (p.1≠d)
structure Mod (K:PySem.W.Frag)(mg:Y1)(base:Heap):Prop where
 kin:K.In base
 glob:base.Ns mainGlobals mg
 blt:∃mb,base.Ns builtinsNs mb/\∀x:Str,x≠ "__name__"->mb x=bootBuiltins x
 nolimit:base.NoLimit
structure Cx where
 prog:Program
 w:World
 K:PySem.W.Frag
 mg:Str->Option Value
 base:Heap
 A:Around
 N:List Str
 sa:Shared
 Ha:Hp
 env:Env
 outer:List Env
 stack:List Env
 ex:List Addr
 fn:Str->Bool
 calm:Bool
 pn:List (Addr×Obj)
 xe:Value->Shared->Prop
def W5 (l:List Env):List bc:=l.filterMap (·.frame)
abbrev Cx.fs (X:Cx):List bc:=W5 X.outer
def xH (sc:ik)(x:Str):Prop:=sc.names.lookup x=some .local\/sc.names.lookup x=some .cell\/sc.names.lookup x=some .free
def Loc (sc:ik)(x:Str):Prop:=sc.names.lookup x=some .local\/sc.names.lookup x=some .cell
def Look (env:Env)(h:cq)(m:Y1)(x:Str)(u:af):Prop:=
 (env.kindOf x=some .local/\m x=some u)\/((env.kindOf x=some .cell\/env.kindOf x=some .free)/\∃c,env.cells.lookup x=some c/\h.IsCell c (some u))
structure Cx.Ok (X:Cx):Prop where
 mod:Mod X.K X.mg X.base
 kind:X.env.scope.kind=.function
 glob:X.env.globals=mainGlobals
 blt:X.env.builtins=builtinsNs
 above:X.sa.heap.objs.size<=X.env.locals
 inj:∀x y c,X.env.cells.lookup x=some c->X.env.cells.lookup y=some c->x=y
 has:∀x,(X.env.kindOf x=some .cell\/X.env.kindOf x=some .free)->∃c,X.env.cells.lookup x=some c
 cab:∀x c,X.fn x=true->X.env.cells.lookup x=some c->X.sa.heap.objs.size<=c
 hd:X.calm=true->X.A.handled=none
 frames:X.A.frames=some X.stack
 stk:X.stack=X.outer\/(X.stack=X.env::X.outer/\X.env.frame=some X.env.locals)
 exf:∀b∈X.ex,b≠X.env.locals/\∀x c,X.env.cells.lookup x=some c->c≠b
 bs:∀b o,X.base.get? b=some o->X.sa.heap.get? b=some o/\X.Ha b=none
 bsz:X.base.objs.size<=X.sa.heap.objs.size
 noex:∀b o,X.base.get? b=some o->b∉X.ex
 exfs:∀b∈X.ex,b∉X.fs
 funs:X.sa.heap.FunFrames X.base X.outer
 frf:∀b∈X.fs,X.Ha b=none
structure Inv (X:Cx)(pins:N9)(σ:List (Option V))(H:Hp)(s:Shared):Prop where
 ok:X.Ok
 os:s.os=X.sa.os
 bare:AllBare s.gens
 base:Un X.fs X.ex X.Ha H X.sa.heap s.heap
 loc:∃m,s.heap.Ns X.env.locals m/\∀(i:Nat) (x:Str) (v:V),X.N[i]?=some x->σ[i]?=some (some v)->xH X.env.scope x->∃u,RelV v u/\Look X.env s.heap m x u
 cell:∀x c,X.env.cells.lookup x=some c->∃v,s.heap.IsCell c v
 free:H X.env.locals=none
 freeC:∀x c,X.env.cells.lookup x=some c->H c=none
 pin:∀p∈X.pn++pins,s.heap.get? p.1=some p.2/\H p.1=none/\p.1≠X.env.locals/\p.1∉X.fs/\∀v,p.2.data≠.cell v
 hok:aD X.prog X.w H s.heap
 len:σ.length=X.N.length
section
variable{X:Cx} {pins:N9} {σ:List (Option V)} {H H':Hp} {s:a9} {h':cq}
def Cx.Ok.nofr (ok:X.Ok)(e:X.base.get? b=some o):b∉X.fs:=λa=>by have:=(ok.funs.mem a).1;rw[e]at this;cases this
def Inv.bs (I:Inv X pins σ H s):∀b o,X.base.get? b=some o->s.heap.get? b=some o/\H b=none:=λb o e=>⟨I.base.keep b o (I.ok.bs b o e).1 (I.ok.bs b o e).2 (I.ok.nofr e) (I.ok.noex b o e),I.base.free b o (I.ok.bs b o e).1 (I.ok.bs b o e).2 (I.ok.noex b o e)⟩
def Inv.bk (I:Inv X pins σ H s):∀b o,X.base.get? b=some o->s.heap.get? b=some o:=λb o e=>(I.bs b o e).1
def Inv.mod (I:Inv X pins σ H s):Mod X.K X.mg X.base:=I.ok.mod
def Inv.kIn (I:Inv X pins σ H s):X.K.In s.heap:=I.ok.mod.kin.keeps I.bk
def Inv.lt (I:Inv X pins σ H s):X.env.locals<s.heap.objs.size:=let⟨_,a,_⟩:=I.loc;a.lt
def Inv.sz (I:Inv X pins σ H s):X.sa.heap.objs.size<=s.heap.objs.size:=aAw I.ok.above (aDb I.lt)
def Inv.ag2 (I:Inv X pins σ H s)(h:s.heap.objs.size<=a):a∉X.fs:=λb=>by obtain⟨_,o,c,_⟩:=I.ok.funs.mem b;exact absurd (aAs (aAf c)<|aAw I.sz h) (aBl _)
def Inv.cne (I:Inv X pins σ H s):∀x c,X.env.cells.lookup x=some c->c≠X.env.locals:=λx c e z=>by obtain⟨v,o,a,b⟩:=I.cell x c e;obtain⟨m,⟨g,h,i,d,f,_⟩,_⟩:=I.loc;rw[z,d]at a;cases a;rw[f]at b;cases b
def Inv.funs (I:Inv X pins σ H s):s.heap.FunFrames X.base X.outer:=by
 have all:∀(l:List Env),(∀b∈W5 l,b∈X.fs)->X.sa.heap.FunFrames X.base l->s.heap.FunFrames X.base l:=by
  intro l;induction l with
  |nil=>intro _ _;trivial
  |cons g r h=>intro f i;obtain⟨j,⟨L,o,a,k,m,n⟩,p⟩:=i;have c:L∈X.fs:=f L (by unfold W5;rw[aCj,a];exact aBg);obtain⟨q,e⟩:=I.base.slot L o m (I.ok.frf L c) c λz=>I.ok.exfs L z c;exact⟨j,⟨L,_,a,k,e,n⟩,h (λb d=>f b (by unfold W5;rw[aCj,a];exact aAe _ d)) p⟩
 exact all X.outer (λ_ d=>d) I.ok.funs
def Inv.stack (I:Inv X pins σ H s):s.heap.FunFrames X.base X.stack:=by
 rcases I.ok.stk with e|⟨e,a⟩
 .rw[e];exact I.funs
 .rw[e];obtain⟨m,b,_⟩:=I.loc;refine .cons (by rw[I.ok.kind];decide) a b ?_ I.funs;exact aEq (aAw I.ok.bsz I.ok.above)
def Inv.aa9 (I:Inv X pins σ H s):∀b∈W5 X.stack,b∈X.env.locals::X.fs:=λb a=>by
 rcases I.ok.stk with e|⟨e,c⟩
 .rw[e]at a;exact aAe _ a
 .rw[e]at a;unfold W5 at a;rw[aCj,c]at a;exact a
def Inv.ab9 (I:Inv X pins σ H s):∀b∈W5 X.stack,H b=none:=λb a=>by
 rcases aAd.mp (I.aa9 b a)with e|a
 .rw[e];exact I.free
 .obtain⟨_,o,c,_⟩:=I.ok.funs.mem a;exact I.base.free b o c (I.ok.frf b a) λz=>I.ok.exfs b z a
def Inv.step {g':Array GenState}{t':Nat}{d':Drawn}{ch:List bc}(I:Inv X pins σ H s)
  (E:∀b∈ch,(b∈X.ex\/X.sa.heap.objs.size<=b)/\b≠X.env.locals/\(∀x c,X.env.cells.lookup x=some c->c≠b)/\∀p∈X.pn++pins,p.1≠b)
  (g:∀b o,b≠X.env.locals->b∉X.fs->b∉ch->s.heap.get? b=some o->H b=none->h'.get? b=some o)
  (slot:∀b o,b≠X.env.locals->b∈X.fs->b∉ch->s.heap.get? b=some o->H b=none->∃sl,h'.get? b=some {o with slots:=sl}) (f:∀b o,b∉ch->s.heap.get? b=some o->H b=none->H' b=none)
  (y:∀b o,b∉ch->s.heap.get? b=some o->∃J,h'.get? b=some J)
  (L:∀b Y,H b=some (.tup Y)->H' b=some (.tup Y)) (N:∀b o u,H b=some (.frz o u)->H' b=some (.frz o u)) (O:∀b tb,H b=some (.tbl tb)->H' b=some (.tbl tb))
  (ns:∀m,s.heap.Ns X.env.locals m->h'.Ns X.env.locals m) (T:aD X.prog X.w H' h') (hg:AllBare g'):
  Inv X pins σ H' {s with heap:=h',gens:=g',drawn:=d',toks:=t'}:=by
 have Q:∀b o,X.sa.heap.get? b=some o->b≠X.env.locals:=λb o e=>aAk (aAs (aAf e) I.ok.above);have t:∀b o,X.sa.heap.get? b=some o->b∉X.ex->b∉ch:=λb o e a A=>by
  rcases(E b A).1 with z|z
  .exact a z
  .exact absurd (aAs (aAf e) z) (aBl _)
 have h:∀x c,X.env.cells.lookup x=some c->∀v,s.heap.IsCell c v->h'.IsCell c v:=λx c e v ⟨o,C,U⟩=>by
  have j:c∉ch:=λz=>(E c z).2.2.1 x c e rfl;by_cases hc:c∈X.fs
  .obtain⟨sl,q⟩:=slot c o (I.cne x c e) hc j C (I.freeC x c e);exact⟨_,q,U⟩
  .exact⟨o,g c o (I.cne x c e) hc j C (I.freeC x c e),U⟩
 refine⟨I.ok,I.os,hg,⟨λb o e n A a=>?_,λb o e n A a=>?_,λb o e n a=>?_,λb o e a=>?_,λb Y e=>L b Y (I.base.tups b Y e),λb o Y e=>N b o Y (I.base.frzs b o Y e),λb ps e=>?_⟩,?_,λx c e=>?_,?_,λx c e=>?_,λp hp=>?_,T,I.len⟩
 .exact g b o (Q b o e) A (t b o e a) (I.base.keep b o e n A a) (I.base.free b o e n a)
 .obtain⟨sl,B⟩:=I.base.slot b o e n A a;obtain⟨sl',e2⟩:=slot b _ (Q b o e) A (t b o e a) B (I.base.free b o e n a);exact⟨sl',e2⟩
 .obtain⟨J,B⟩:=I.base.there b o e a;exact f b J (t b o e a) B (I.base.free b o e n a)
 .obtain⟨J,B⟩:=I.base.there b o e a;exact y b J (t b o e a) B
 .exact O b ps (I.base.tbls b ps e)
 .obtain⟨m,hn,hl⟩:=I.loc;refine⟨m,ns m hn,λi x v B e2 e3=>?_⟩;obtain⟨u,r,l⟩:=hl i x v B e2 e3;refine⟨u,r,?_⟩;rcases l with l|⟨k,c,e,z⟩
  .exact .inl l
  .exact .inr ⟨k,c,e,h x c e _ z⟩
 .obtain⟨v,z⟩:=I.cell x c e;exact⟨v,h x c e v z⟩
 .obtain⟨m,⟨o,_,_,C,_⟩,_⟩:=I.loc;exact f _ o (λz=>(E _ z).2.1 rfl) C I.free
 .obtain⟨v,o,C,U⟩:=I.cell x c e;exact f c o (λz=>(E c z).2.2.1 x c e rfl) C (I.freeC x c e)
 .obtain⟨e,n,ne,nf,d⟩:=I.pin p hp;have j:p.1∉ch:=λz=>(E p.1 z).2.2.2 p hp rfl;exact⟨g p.1 p.2 ne nf j e n,f p.1 p.2 j e n,ne,nf,d⟩
def Inv.un {t':Nat}(I:Inv X pins σ H s)(u:Un X.fs [] H H' s.heap h')(a:aD X.prog X.w H' h'):Inv X pins σ H' {s with heap:=h',toks:=t'}:=by
 obtain⟨m,⟨o,l,p,g,r⟩,_⟩:=id I.loc;obtain⟨q,i⟩:=u.any g I.free (by simp);exact I.step (g':=s.gens) (d':=s.drawn) (ch:=[]) (λ_ z=>nomatch z) (λb o _ c _ e n=>u.keep b o e n c (by simp)) (λb o _ c _ e n=>u.slot b o e n c (by simp)) (λb o _ e n=>u.free b o e n (by simp)) (λb o _ e=>u.there b o e (by simp)) u.tups u.frzs u.tbls (λt j=>by obtain⟨v,d,f,h,k⟩:=j;rw[g]at h;cases h;exact⟨_,d,f,i,k⟩) a I.bare
def Inv.call {g':Array GenState}{t':Nat}{d':Drawn}{ch:List bc}(I:Inv X pins σ H s)(u:Un (W5 X.stack) ch H H' s.heap h')(d:aD X.prog X.w H' h')(l:AllBare g')
  (i:∀b∈ch,(b∈X.ex\/X.sa.heap.objs.size<=b)/\b≠X.env.locals/\(∀x c,X.env.cells.lookup x=some c->c≠b)/\∀p∈X.pn++pins,p.1≠b):
  Inv X pins σ H' {s with heap:=h',gens:=g',drawn:=d',toks:=t'}:=by
 obtain⟨m,⟨o,y,A,j,r⟩,_⟩:=id I.loc;obtain⟨B,f⟩:=u.any j I.free λz=>(i _ z).2.1 rfl;exact I.step (ch:=ch) i (λb o f q a e n=>u.keep b o e n (λz=>(aAd.mp<|I.aa9 b z).elim f q) a) (λb o _ _ a e n=>u.any e n a) (λb o a e n=>u.free b o e n a) (λb o a e=>u.there b o e a) u.tups u.frzs u.tbls (λC t=>by obtain⟨E,g,h,k,v⟩:=t;rw[j]at k;cases k;exact⟨_,g,h,f,v⟩) d l
def Inv.turned {t':Nat}{it:bc}(I:Inv X pins σ H s)(k:∀b o,b≠it->s.heap.get? b=some o->h'.get? b=some o)(g:H it=none)(f:it≠X.env.locals)
  (h:it∈X.ex\/X.sa.heap.objs.size<=it) (i:∀x c,X.env.cells.lookup x=some c->c≠it) (j:∀p∈X.pn++pins,p.1≠it):Inv X pins σ H {s with heap:=h',toks:=t'}:=by
 have d:∀b u,H b=some u->b≠it:=λb u e z=>by rw[z,g]at e;cases e
 refine I.step (g':=s.gens) (d':=s.drawn) (ch:=[it]) (λb l=>?_) (λb o _ _ a e _=>k b o (λz=>a (by simp[z])) e) (λb o _ _ a e _=>⟨o.slots,k b o (λz=>a (by simp[z])) e⟩) (λ_ _ _ _ n=>n)
  (λb o a e=>⟨o,k b o (λz=>a (by simp[z])) e⟩) (λ_ _ e=>e) (λ_ _ _ e=>e) (λ_ _ e=>e) (λm t=>?_) (λb u e=>?_) I.bare
 .have e:b=it:=by simpa using l
  subst e;exact⟨h,f,i,j⟩
 .obtain⟨o,w,y,A,r⟩:=t;exact⟨o,w,y,k _ o (aCi f) A,r⟩
 .refine(I.hok b u e).ab4 (λc v a q=>k c v ?_ q) (λ_ q=>q) λ_ _ _ q=>q;rcases a with z|z
  .rw[z];exact d b u e
  .exact d c _ z
def Inv.tok (I:Inv X pins σ H s)(t:Nat):Inv X pins σ H {s with toks:=t}:=I.un (h':=s.heap) (t':=t) Un.refl I.hok
def Inv.kept (I:Inv X pins σ H s)(k:∀b u,s.heap.get? b=some u->h'.get? b=some u):Inv X pins σ H {s with heap:=h',toks:=t'}:=I.un (Un.kept k) (I.hok.kept k)
def Inv.laid (I:Inv X pins σ H s)(k:∀b u,s.heap.get? b=some u->h'.get? b=some u)(c:s.heap.objs.size<=a)(d:ObjOk X.prog X.w (upd H a o) h' a o):
 Inv X pins σ (upd H a o) {s with heap:=h',toks:=t'}:=I.un (Un.laid k c<|I.hok.fresh c) (I.hok.laid k c d)
def Inv.write (I:Inv X pins σ H s)(d:Mut (H x))(f:e=x\/H e=some (.own x))(k:∀b u,b≠e->s.heap.get? b=some u->h'.get? b=some u)(a:∃u,h'.get? e=some u)(c:ObjOk X.prog X.w (upd H x o) h' x o):Inv X pins σ (upd H x o) {s with heap:=h',toks:=t'}:=I.un (Un.write d f k a) (I.hok.write d f k a c)
def Inv.ad7 (I:Inv X pins σ H s)(h:∀p∈a,s.heap.get? p.1=some p.2/\H p.1=none/\p.1≠X.env.locals/\p.1∉X.fs/\∀v,p.2.data≠.cell v):Inv X a σ H s:=
 ⟨I.ok,I.os,I.bare,I.base,I.loc,I.cell,I.free,I.freeC,λp b=>(aAQ.mp b).elim (λz=>I.pin p (aBF _ z)) (h p),I.hok,I.len⟩
def nV {N:List Str}(c:N.Nodup){i j:Nat}{x:Str}(a:N[i]?=some x)(b:N[j]?=some x):i=j:=by obtain⟨f,d⟩:=aAB.mp a;obtain⟨g,e⟩:=aAB.mp b;exact(List.getElem_inj c).mp (d.trans e.symm)
def sF {M:je}{A:cf}{E:C7}{i:Nat}{x:Str}{v:V}{u:af}{Q:Unit->a9->Prop}(I:Inv X pins σ H s)(hN:X.N.Nodup)(U:X.N[i]?=some x)(B:Loc X.env.scope x)(r:RelV v u)
  (h:∀s',Inv X pins (σ.set i (some v)) H s'->(∃a,Heap.SameBut a s.heap s'.heap/\(a=X.env.locals\/X.env.cells.lookup x=some a))->Q () s') (hf:X.fn x=true\/X.env.scope.names.lookup x=some .local:=by first|exact .inl rfl|exact .inr rfl|assumption):bb M A (storeName X.env x u) Q E s:=by
 obtain⟨m,hn,hl⟩:=id I.loc;have Y:(X.env.scope.kind==.class||(X.env.scope.kind==.module&&X.env.locals !=X.env.globals))=false:=by rw[I.ok.kind];rfl
 have J:i<σ.length:=by rw[I.len];exact(aAB.mp U).1
 have cne:=I.cne;have g:∀{a:bc} {h':cq},(∃o,s.heap.get? a=some o/\H a=none)->Heap.SameBut a s.heap h'->aD X.prog X.w H h':=λ{a h'} ha f b ob e=>by
  obtain⟨_,_,la⟩:=ha;refine(I.hok b ob e).ab4 (λc w' t q=>(f.2 c ?_).trans q) (λ_ q=>q) λ_ _ _ q=>q;rintro rfl;rcases t with rfl|t
  .rw[la]at e;cases e
  .rw[la]at t;cases t
 rcases B with L|L
 .refine wpAny_storeName_local L hn (λh' hn' f=>?_) Y;obtain⟨oL,_,_,hoL,_⟩:=id hn;refine h _ ⟨I.ok,I.os,I.bare,⟨λb o e n O B=>?_,λb o e n O B=>?_,I.base.free,λb o e B=>?_,I.base.tups,I.base.frzs,I.base.tbls⟩,⟨_,hn',λj y v' l C e3=>?_⟩,λy c e=>?_,I.free,I.freeC,λp hp=>?_,g ⟨oL,hoL,I.free⟩ f,by simpa using I.len⟩ ⟨_,f,.inl rfl⟩
  .exact(f.2 b (aAk<|aAs (aAf e) I.ok.above)).trans (I.base.keep b o e n O B)
  .obtain⟨sl,l⟩:=I.base.slot b o e n O B;exact⟨sl,(f.2 b (aAk<|aAs (aAf e) I.ok.above)).trans l⟩
  .obtain⟨o',l⟩:=I.base.there b o e B;exact⟨o',(f.2 b (aAk<|aAs (aAf e) I.ok.above)).trans l⟩
  .by_cases T:j=i
   .subst T;rw[U]at l;cases l;rw[aBj J]at C;cases C;exact⟨u,r,.inl ⟨L,by simp⟩⟩
   .rw[aCy (aCi T)]at C;obtain⟨u',r',q⟩:=hl j y v' l C e3;refine⟨u',r',?_⟩;rcases q with⟨k,e⟩|⟨k,c,e,z⟩
    .refine .inl ⟨k,?_⟩;have:y≠x:=λe=>T (nV hN l<|e▸U);simp[this,e]
    .exact .inr ⟨k,c,e,z.sameBut f (cne y c e)⟩
  .obtain⟨w',z⟩:=I.cell y c e;exact⟨w',z.sameBut f (cne y c e)⟩
  .obtain⟨e,n,ne,nf,d⟩:=I.pin p hp;exact⟨(f.2 p.1 ne).trans e,n,ne,nf,d⟩
 .have zg:X.fn x=true:=by
   rcases hf with z|z
   .exact z
   .rw[z]at L;cases L
  obtain⟨c,t⟩:=I.ok.has x (.inl L);obtain⟨w',z⟩:=I.cell x c t;refine wpAny_storeName_cell I.ok.kind L t z (λh' hc' f=>?_);obtain⟨oc,gh,hocd⟩:=id z;refine h {s with heap:=h'} ⟨I.ok,I.os,I.bare,⟨λb o e n O B=>?_,λb o e n O B=>?_,I.base.free,λb o e B=>?_,I.base.tups,I.base.frzs,I.base.tbls⟩,⟨m,hn.sameBut f (aCi<|cne x c t),λj y v' l C e3=>?_⟩,λy c' e=>?_,I.free,I.freeC,λp hp=>?_,g ⟨oc,gh,I.freeC x c t⟩ f,by simpa using I.len⟩ ⟨c,f,.inr t⟩
  .exact(f.2 b (aAk<|aAs (aAf e)<|I.ok.cab x c zg t)).trans (I.base.keep b o e n O B)
  .obtain⟨sl,l⟩:=I.base.slot b o e n O B;exact⟨sl,(f.2 b (aAk<|aAs (aAf e)<|I.ok.cab x c zg t)).trans l⟩
  .obtain⟨o',l⟩:=I.base.there b o e B;exact⟨o',(f.2 b (aAk<|aAs (aAf e)<|I.ok.cab x c zg t)).trans l⟩
  .by_cases T:j=i
   .subst T;rw[U]at l;cases l;rw[aBj J]at C;cases C;exact⟨u,r,.inr ⟨.inl L,c,t,hc'⟩⟩
   .rw[aCy (aCi T)]at C;obtain⟨u',r',q⟩:=hl j y v' l C e3;refine⟨u',r',?_⟩;rcases q with q|⟨k,c',e,z'⟩
    .exact .inl q
    .refine .inr ⟨k,c',e,z'.sameBut f ?_⟩;rintro rfl;exact T (nV hN l<|I.ok.inj _ _ _ e t▸U)
  .by_cases hcc:c'=c
   .subst hcc;exact⟨_,hc'⟩
   .obtain⟨w2,z2⟩:=I.cell y c' e;exact⟨w2,z2.sameBut f hcc⟩
  .obtain⟨e,n,ne,nf,d⟩:=I.pin p hp;refine⟨(f.2 p.1 ?_).trans e,n,ne,nf,d⟩;intro q;rw[q,gh]at e;have q':oc=p.2:=aAl e;exact d w' (by rw[<-q'];exact hocd)
def F1 {E:C7}{Q:Unit->a9->Prop}(I:Inv X pins σ H s)(a:X.N.Nodup)(b:X.N[i]?=some x)(c:Loc X.env.scope x)(r:RelV v u)(h:∀s',Inv X pins (σ.set i (some v)) H s'->Q () s')(d:X.fn x=true\/X.env.scope.names.lookup x=some .local:=by first|exact .inl rfl|exact .inr rfl|assumption):bb M A (storeName X.env x u) Q E s:=
 sF I a b c r (λs' e _=>h s' e) d
def Inv.af2 (I:Inv X pins σ H s)(d:s'.os=s.os)(u:Un (W5 X.stack) ch H H' s.heap s'.heap)(a:aD X.prog X.w H' s'.heap)(f:AllBare s'.gens)(g:∀b∈ch,(b∈X.ex\/X.sa.heap.objs.size<=b)/\b≠X.env.locals/\(∀x c,X.env.cells.lookup x=some c->c≠b)/\∀p∈X.pn++pins,p.1≠b):Inv X pins σ H' s':=by obtain⟨h',g',d',t',h⟩:=s';have e:h=s.os:=d;subst e;exact I.call (g':=g') (t':=t') (d':=d') u a f g
end
abbrev XK:=af->Option bc->Hp->Prop
abbrev St:=List (Option V)
abbrev VK:=V->Hp->Prop
abbrev TE:=St->Hp->VK->Prop
abbrev TT:=St->Hp->(Bool->Hp->Prop)->Prop
abbrev TA:=St->Hp->(List V->Hp->Prop)->Prop
structure Ends where
 nx:St->Hp->Prop
 rt:VK
 bk:St->Hp->Prop:=λ_ _=>False
 ct:St->Hp->Prop:=λ_ _=>False
abbrev TS:=Ends->St->Hp->Prop
def EP (X:Cx)(a:N9)(σ:St)(Q:VK)(u:af)(s':a9):Prop:=∃v b,Inv X a σ b s'/\RelV v u/\Q v b
def TP (X:Cx)(a:N9)(σ:St)(Q:Bool->Hp->Prop)(b:Bool)(s':a9):Prop:=∃c,Inv X a σ c s'/\Q b c
def AP (X:Cx)(a:N9)(σ:St)(Q:List V->Hp->Prop)(us:List af)(s':a9):Prop:=∃b c,Inv X a σ c s'/\n4 b us/\Q b c
def SP (X:Cx)(a:N9)(D:Ends)(f:Flow)(s':a9):Prop:=
 match f with
 |.next=>∃c b,Inv X a c b s'/\D.nx c b
 |.brk=>∃c b,Inv X a c b s'/\D.bk c b
 |.cont=>∃c b,Inv X a c b s'/\D.ct c b
 |.ret u=>∃v c b,Inv X a c b s'/\RelV v u/\D.rt v b
def PE (X:Cx)(e:cu)(t:TE):Prop:=
 ∀(a:N9) (s:a9) (σ:St) (H:Hp) (Q:VK),Inv X a σ H s->t σ H Q->bb (bo X.prog X.w) X.A (dz e X.env) (EP X a σ Q) X.xe s
def PT (X:Cx)(e:cu)(t:TT):Prop:=
 ∀(a:N9) (s:a9) (σ:St) (H:Hp) (Q:Bool->Hp->Prop),Inv X a σ H s->t σ H Q->bb (bo X.prog X.w) X.A (isTrue e X.env<|dz e X.env) (TP X a σ Q) X.xe s
def PW (X:Cx)(e:cu)(t:TT):Prop:=
 ∀(b:Sem af) (a:N9) (s:a9) (σ:St) (H:Hp) (Q:Bool->Hp->Prop),Inv X a σ H s->t σ H Q->bb (bo X.prog X.w) X.A (isTrue e X.env b) (TP X a σ Q) X.xe s
def PW.pt (h:PW X e t):PT X e t:=h _
def PA (X:Cx)(es:List cu)(t:TA):Prop:=
 ∀(b:Pos) (a:N9) (s:a9) (σ:St) (H:Hp) (Q:List V->Hp->Prop),Inv X a σ H s->t σ H Q->bb (bo X.prog X.w) X.A (spliced<|cv b<|a5 es X.env) (AP X a σ Q) X.xe s
def PS (X:Cx)(st:dm)(t:TS):Prop:=
 ∀(a:N9) (s:a9) (σ:St) (H:Hp) (D:Ends),Inv X a σ H s->t D σ H->bb (bo X.prog X.w) X.A (exec st X.env) (SP X a D) X.xe s
def uA (X:Cx)(st:List dm)(t:TS):Prop:=
 ∀(a:N9) (s:a9) (σ:St) (H:Hp) (D:Ends),Inv X a σ H s->t D σ H->bb (bo X.prog X.w) X.A (execs st X.env) (SP X a D) X.xe s
def C4 {α:Type}{t:Sem α}{Q b:α->a9->Prop}{M:je}{A:cf}{E:C7}{s:a9}(h:bb M A t Q E s)(c:∀a s,Q a s->b a s):bb M A t b E s:=aBP h c λ_ _ x=>x
section
variable{X:Cx}
def ww (i:Nat):TE:=λσ H Q=>∃v,σ[i]?=some (some v)/\Q v H
def tC (v:V):TE:=λ_ H Q=>Q v H
def S1 (k:X.N[i]?=some x)(n:xH X.env.scope x)(f:(x==kb)=false:=by decide)(o:(x==kc)=false:=by decide):PE X (.Name x pos) (ww i):=by
 intro d s σ H Q I h;obtain⟨v,e,h⟩:=h;obtain⟨m,p,q⟩:=I.loc;obtain⟨u,r,l⟩:=q i x v k e n;have a:EP X d σ Q u s:=⟨v,H,I,r,h⟩;rcases l with⟨b,t⟩|⟨b,c,g,j⟩
 .exact wpAny_Name (wpAny_loadName_local I.ok.kind b p t a) f
 .rcases b with b|b
  .exact wpAny_Name (wpAny_loadName_cell I.ok.kind b g j a) f
  .exact wpAny_Name (wpAny_loadName_free I.ok.kind b g j a o) f
def ZF {i j pos}:PE X (.Constant (.int i) j pos) (tC (.int i)):=λ_ _ _ H _ I h=>wpAny_Constant_int ⟨.int i,H,I.tok _,⟨_,rfl⟩,h⟩
def yy {b j pos}:PE X (.Constant (.bool b) j pos) (tC (.bl b)):=λ_ _ _ H _ I h=>Constant_bool ⟨.bl b,H,I,rfl,h⟩
def lz {j pos}:PE X (.Constant .none j pos) (tC .non):=λ_ _ _ H _ I h=>Constant_none ⟨.non,H,I,rfl,h⟩
def YT {x j pos}:PE X (.Constant (.str x) j pos) (tC (.str x)):=λ_ _ _ H _ I h=>Calls.Constant_str ⟨.str x,H,I.tok _,⟨_,rfl⟩,h⟩
def Gl (X:Cx)(x:Str):Prop:=X.env.kindOf x=some .globalImplicit
def bE {E:C7}{Q:C7}(I:Inv X a σ H s)(b:Gl X x)(c:X.mg x=some u)(h:Q u s)(d:(x==kb)=false:=by decide):bb (bo X.prog X.w) X.A (dz (.Name x pos) X.env) Q E s:=
 Calls.Name_function_global I.ok.kind b (Calls.loadGlobal_global (by rw[I.ok.glob];exact I.mod.glob.keeps I.bk) c h) d
def N0 {E:C7}{Q:C7}(I:Inv X a σ H s)(b:Gl X x)(c:X.mg x=none)(d:dq x=some u)(h:Q u s)(e:x≠ "__name__":=by decide)(f:(x==kb)=false:=by decide):bb (bo X.prog X.w) X.A (dz (.Name x pos) X.env) Q E s:=by obtain⟨j,g,i⟩:=I.mod.blt;exact Calls.Name_function_global I.ok.kind b (Calls.loadGlobal_builtin (by rw[I.ok.glob];exact I.mod.glob.keeps I.bk) c (by rw[I.ok.blt];exact g.keeps I.bk) ((i x e).trans d) h) f
def FY (a:Gl X x)(b:X.mg x=some u)(r:RelV v u)(c:(x==kb)=false:=by decide):PE X (.Name x pos) (tC v):=
 λ_ _ _ H _ I h=>bE I a b ⟨v,H,I,r,h⟩ c
def FC (a:Gl X x)(b:X.mg x=none)(c:dq x=some u)(r:RelV v u)(d:x≠ "__name__":=by decide)(e:(x==kb)=false:=by decide):PE X (.Name x pos) (tC v):=
 λ_ _ _ H _ I h=>N0 I a b c ⟨v,H,I,r,h⟩ d e
variable{a b:cu} {ta tb:TE} {pos:Pos}
def tB (t:TE):TT:=λσ H Q=>t σ H λx d=>∃c,x=.bl c/\Q c d
def nq {e:cu}{t:TE}(h:PE X e t)(f:∀whole,isTrue e X.env whole=(do let v<-whole;standAt e.pos;i3 [v] (truthy v)):=by intro _;rfl):PT X e (tB t):=by intro c s σ H Q I g;refine isTrue_plain (C4 (h c s σ H _ I g) λv m ⟨x,i,j,k,l⟩=>?_) (f _);obtain⟨d,rfl,q⟩:=l;cases k;exact aBD ⟨i,j,q⟩
variable{tA tB':TT} {rest:List cu}
def a2o (t u:TT):TT:=λσ H Q=>t σ H λc d=>if c=true then u σ d Q else Q false d
def tOr (t u:TT):TT:=λσ H Q=>t σ H λc d=>if c=true then Q true d else u σ d Q
def a2j (t:TT):TT:=λσ H Q=>t σ H λc d=>Q (!c) d
def WI (f:PT X a tA):PW X (.BoolOp .And [a] pos) tA:=by
 intro g d s σ H Q I h;refine isTrue_and (C4 (f d s σ H Q I h) λc i e=>?_);cases c with
 |true=>exact isTrue_and_nil e
 |false=>exact e
def jy (f:PT X a tA):PW X (.BoolOp .Or [a] pos) tA:=by
 intro g d s σ H Q I h;refine isTrue_or (C4 (f d s σ H Q I h) λc i e=>?_);cases c with
 |false=>exact isTrue_or_nil e
 |true=>exact e
def mz (i:PT X a tA)(j:PW X (.BoolOp .And (b::rest) pos) tB'):PW X (.BoolOp .And (a::b::rest) pos) (a2o tA tB'):=by
 intro k d s σ H Q I h;refine isTrue_and (C4 (i d s σ H _ I h) λc l ⟨e,f,g⟩=>?_);cases c with
 |true=>exact j k d l σ e Q f g
 |false=>exact⟨e,f,g⟩
def yq (i:PT X a tA)(j:PW X (.BoolOp .Or (b::rest) pos) tB'):PW X (.BoolOp .Or (a::b::rest) pos) (tOr tA tB'):=by
 intro k d s σ H Q I h;refine isTrue_or (C4 (i d s σ H _ I h) λc l ⟨e,f,g⟩=>?_);cases c with
 |true=>exact⟨e,f,g⟩
 |false=>exact j k d l σ e Q f g
def ax (e:PT X a tA):PT X (.UnaryOp .Not a pos) (a2j tA):=by intro d s σ H Q I h;exact isTrue_not (e d s σ H (λc f=>Q (!c) f) I h)
def a0m (ta tb:TE):TE:=λσ H Q=>ta σ H λx d=>∃c,x=.bl c/\if c=true then tb σ d Q else Q (.bl false) d
def tw (ta:TE):TE:=λσ H Q=>ta σ H λx d=>∃c,x=.bl c/\Q (.bl (!c)) d
def ZC {op}(h:PE X a t):PE X (.BoolOp op [a] pos) t:=λc s σ H Q I d=>BoolOp_one (h c s σ H Q I d)
def gz (i:PE X a ta)(j:PE X (.BoolOp .And (b::rest) pos) tb):PE X (.BoolOp .And (a::b::rest) pos) (a0m ta tb):=by
 intro d s σ H Q I h;refine BoolOp_and (C4 (i d s σ H _ I h) λv k ⟨x,f,g,l,e⟩=>?_);obtain⟨c,rfl,e⟩:=e;cases l;refine aBD ?_;cases c with
 |true=>exact j d k σ f Q g e
 |false=>exact⟨.bl false,f,g,rfl,e⟩
def ZK (f:PE X a ta):PE X (.UnaryOp .Not a pos) (tw ta):=by intro d s σ H Q I h;refine UnaryOp_ (C4 (f d s σ H _ I h) λv k ⟨x,g,i,j,e⟩=>?_);obtain⟨c,rfl,e⟩:=e;cases j;exact not_of (aBD ⟨.bl (!c),g,i,rfl,e⟩)
end
def O5 (K:ka)(H:Hp)(a:bc)(Y:List V):Prop:=
 Rd H a (.lst Y)\/
  ∃(o:Obj) (b:Array af) (n:Nat),K.lookup a=some o/\o.cls=.type "list"/\o.dict=none/\o.data=.seq b n/\b.size<=sizeLine/\n4 Y b.toList
def X0 (K:ka)(H:Hp)(a:bc)(Y:List V):Prop:=
 Rd H a (.tup Y)\/
  ∃(o:Obj) (b:Array af) (n:Nat),K.lookup a=some o/\o.cls=.type "tuple"/\o.data=.seq b n/\b.size<=sizeLine/\n4 Y b.toList
def a2z:af->Option V
 |.none=>some .non
 |.bool b=>some (.bl b)
 |.int i _=>some (.int i)
 |.str x _=>some (.str x)
 |.bytes b _=>some (.byt b)
 |.float b _=>some (.flt b)
 |.ref a=>some (.ref a)
 |.type n=>some (.ty n)
 |_=>none
def RelV.abs (r:RelV x u):a2z u=some x:=by
 cases x with
 |non=>cases r;rfl
 |bl _=>cases r;rfl
 |int _=>obtain⟨t,rfl⟩:=r;rfl
 |str _=>obtain⟨t,rfl⟩:=r;rfl
 |byt _=>obtain⟨t,rfl⟩:=r;rfl
 |flt _=>obtain⟨t,rfl⟩:=r;rfl
 |ref _=>cases r;rfl
 |ty _=>cases r;rfl
def RelV.inj {x y:V}{u:af}(r:RelV x u)(q:RelV y u):x=y:=aAl (r.abs.symm.trans q.abs)
theorem n4.inj:∀{Y a:List V} {us:List af},n4 Y us->n4 a us->Y=a
 |_,_,_,.nil,.nil=>rfl
 |_,_,_,.cons r t,.cons b c=>by rw[r.inj b,n4.inj t c]
section
variable{X:Cx} {pins:N9} {σ:St} {H:Hp} {s:a9} {a:bc} {Y ys:List V}
def O5.of {K:ka}(h:H a=some (.lst Y)):O5 K H a Y:=.inl (.inl h)
def X0.of {K:ka}(h:H a=some (.tup Y)):X0 K H a Y:=.inl (.inl h)
def Inv.list (I:Inv X pins σ H s)(h:O5 X.K H a Y):∃b:List af,n4 Y b/\PlainL s.heap a b.toArray/\Y.length<=sizeLine:=by
 rcases h with h|⟨o,b,n,c,d,f,g,i,r⟩
 .obtain⟨z,b,n,r,e⟩:=h.ok I.hok;exact⟨b,r,⟨_,n,e,rfl,rfl,rfl⟩,z⟩
 .refine⟨b.toList,r,⟨o,n,I.kIn a o c,d,f,by simpa using g⟩,?_⟩;have e:=r.length;simp only[aBd]at e
  lia
def Inv.tuple (I:Inv X pins σ H s)(h:X0 X.K H a Y):∃b:List af,n4 Y b/\IsTup s.heap a b.toArray/\Y.length<=sizeLine:=by
 rcases h with h|⟨o,b,n,c,d,f,g,r⟩
 .obtain⟨z,b,r,p⟩:=h.ok I.hok;exact⟨b,r,p,z⟩
 .refine⟨b.toList,r,⟨o,I.kIn a o c,d,n,by simpa using f⟩,?_⟩;have e:=r.length;simp only[aBd]at e
  lia
def Inv.ac1 (I:Inv X pins σ H s)(h:O5 X.K H a Y)(h':O5 X.K H a ys):Y=ys:=by
 obtain⟨c,r,⟨o,n,e,_,_,d⟩,_⟩:=I.list h;obtain⟨b,i,⟨k,l,f,_,_,g⟩,_⟩:=I.list h';rw[e]at f;cases f;rw[d]at g;injection g with j _;have:c=b:=by simpa using jr aFE j
 subst this;exact r.inj i
def Inv.ab6 (I:Inv X pins σ H s)(h:X0 X.K H a Y)(h':X0 X.K H a ys):Y=ys:=by
 obtain⟨c,r,⟨o,e,_,n,d⟩,_⟩:=I.tuple h;obtain⟨b,i,⟨k,f,_,l,g⟩,_⟩:=I.tuple h';rw[e]at f;cases f;rw[d]at g;injection g with j _;have:c=b:=by simpa using jr aFE j
 subst this;exact r.inj i
end
abbrev Cx.ab0 (X:Cx)(E:C7):Cx:={X with xe:=E}
abbrev Cx.nox (X:Cx):Cx:=X.ab0 λ_ _=>False
def Cx.Ok.ab0 {X:Cx}(ok:X.Ok)(E:C7):(X.ab0 E).Ok:=
 ⟨ok.mod,ok.kind,ok.glob,ok.blt,ok.above,ok.inj,ok.has,ok.cab,ok.hd,ok.frames,ok.stk,ok.exf,ok.bs,ok.bsz,ok.noex,ok.exfs,ok.funs,ok.frf⟩
def Cx.Ok.aa6 {X:Cx}{E:C7}(ok:(X.ab0 E).Ok):X.Ok:=
 ⟨ok.mod,ok.kind,ok.glob,ok.blt,ok.above,ok.inj,ok.has,ok.cab,ok.hd,ok.frames,ok.stk,ok.exf,ok.bs,ok.bsz,ok.noex,ok.exfs,ok.funs,ok.frf⟩
section
variable{X:Cx} {pins:N9} {σ:St} {H:Hp} {s:a9} {E:C7}
def Inv.ab0 (I:Inv X pins σ H s)(E:C7):Inv (X.ab0 E) pins σ H s:=⟨I.ok.ab0 E,I.os,I.bare,I.base,I.loc,I.cell,I.free,I.freeC,I.pin,I.hok,I.len⟩
def Inv.aa6 (I:Inv (X.ab0 E) pins σ H s):Inv X pins σ H s:=⟨I.ok.aa6,I.os,I.bare,I.base,I.loc,I.cell,I.free,I.freeC,I.pin,I.hok,I.len⟩
def SP.aa6 (h:SP (X.ab0 E) pins D f s'):SP X pins D f s':=by
 cases f with
 |next=>obtain⟨a,b,I,q⟩:=h;exact⟨a,b,I.aa6,q⟩
 |brk=>obtain⟨a,b,I,q⟩:=h;exact⟨a,b,I.aa6,q⟩
 |cont=>obtain⟨a,b,I,q⟩:=h;exact⟨a,b,I.aa6,q⟩
 |ret u=>obtain⟨v,a,b,I,r,q⟩:=h;exact⟨v,a,b,I.aa6,r,q⟩
def uA.nox {st:List dm}{t:TS}(h:uA X.nox st t):uA X st t:=λpins s σ H D I a=>aBP (h pins s σ H D (I.ab0 _) a) (λ_ _ q=>q.aa6) λ_ _ z=>aAi z
end
section
variable{X:Cx} {st:dm} {rest:List dm} {t u:TS} {e:cu} {te:TE} {pos:Pos}
def wq:TS:=λD σ H=>D.nx σ H
def a3e (t u:TS):TS:=λD σ H=>t {D with nx:=u D} σ H
def TU:uA X [] wq:=λ_ _ σ H _ I h=>aDO ⟨σ,H,I,h⟩
def yH (b:PS X st t)(c:uA X rest u):uA X (st::rest) (a3e t u):=by
 intro a s σ H D I h;refine aDf (C4 (b a s σ H {D with nx:=u D} I h) λf d q=>?_);cases f with
 |next=>obtain⟨g,i,j,q⟩:=q;exact c a d g i D j q
 |ret v=>exact q
 |brk=>exact q
 |cont=>exact q
def vY (b:PS X st t):uA X [st] t:=by
 intro a s σ H D I h;refine aDf (C4 (b a s σ H D I h) λf c q=>?_);cases f with
 |next=>exact aDO q
 |ret v=>exact q
 |brk=>exact q
 |cont=>exact q
def Inv.quiet (I:Inv X a σ H s):interactive X.env=false:=by simp[interactive,I.ok.kind]
def a0o (te:TE):TS:=λD σ H=>te σ H λ_ a=>D.nx σ a
def nC (b:PE X e te)(c:et e none pos.line X.env=pure false:=by rfl):PS X (.Expr e pos) (a0o te):=by intro a s σ H D I h;exact aFT (C4 (b a s σ H _ I h) λv i ⟨x,d,f,j,g⟩=>⟨σ,d,f,g⟩) I.quiet c
def a3f (te:TE):TS:=λD σ H=>te σ H D.rt
def CG (b:PE X e te):PS X (.Return (some e) pos) (a3f te):=by intro a s σ H D I h;exact wpAny_Return_some (C4 (b a s σ H _ I h) λv i ⟨x,c,d,f,g⟩=>⟨x,σ,c,d,f,g⟩)
def a3g (c:TT)(t u:TS):TS:=λD σ H=>c σ H λb a=>if b=true then t D σ a else u D σ a
def a0p {c:cu}{a b:List dm}{g:TT}(m:PT X c g)(n:uA X a t)(o:uA X b u):PS X (.If c a b pos) (a3g g t u):=by
 intro f s σ H D I h;refine wpAny_If (C4 (m f s σ H _ I h) λd i ⟨j,k,l⟩=>?_);cases d with
 |true=>exact n f i σ j D k l
 |false=>exact o f i σ j D k l
def ez:TS:=λ_ _ _=>False
def LR:PS X st ez:=λ_ _ _ _ _ _ h=>h.elim
end
abbrev TG:=V->St->Hp->(St->Hp->Prop)->Prop
abbrev fx:=List V->St->Hp->(St->Hp->Prop)->Prop
def PG (X:Cx)(a:cu)(t:TG):Prop:=
 ∀(b:N9) (s:a9) (σ:St) (H:Hp) (v:V) (u:af) (Q:St->Hp->Prop),Inv X b σ H s->RelV v u->t v σ H Q->
  bb (bo X.prog X.w) X.A (il a X.env u) (λ_ e=>∃c d,Inv X b c d e/\Q c d) X.xe s
def pk (X:Cx)(f:List cu)(t:fx):Prop:=
 ∀(a:N9) (s:a9) (σ:St) (H:Hp) (b:List V) (c:List af) (Q:St->Hp->Prop),Inv X a σ H s->n4 b c->t b σ H Q->
  bb (bo X.prog X.w) X.A (gB ((eR f X.env).map (·.2)) c) (λ_ g=>∃d e,Inv X a d e g/\Q d e) X.xe s
abbrev SY:=V->V->V->Hp->(Hp->Prop)->Prop
def tq (X:Cx)(t:SY):Prop:=
 ∀(a:N9) (s:a9) (σ:St) (H:Hp) (o i v:V) (b c u:af) (Q:Hp->Prop),Inv X a σ H s->RelV o b->RelV i c->RelV v u->t o i v H Q->
  bb (bo X.prog X.w) X.A (setItem b c u) (λ_ e=>∃d,Inv X a σ d e/\Q d) X.xe s
section
variable{X:Cx} {pos:Pos}
def XE (i:Nat):TG:=λv σ H Q=>Q (σ.set i<|some v) H
def SL (b:X.N.Nodup)(c:X.N[i]?=some x)(d:Loc X.env.scope x)(e:X.fn x=true\/X.env.scope.names.lookup x=some .local:=by first|exact .inl rfl|exact .inr rfl|assumption):PG X (.Name x pos) (XE i):=by intro a s σ H v u Q I r h;exact wpAny_assign_Name (F1 I b c d r (λg f=>⟨_,H,f,h⟩) e)
def a2g:fx:=λa σ H Q=>a=[]/\Q σ H
def vk (t:TG)(u:fx):fx:=λa σ H Q=>∃v r,a=v::r/\t v σ H λb c=>u r b c Q
def VY:pk X [] a2g:=by intro a s σ H b c Q I r h;obtain⟨e,h⟩:=h;subst e;cases r;exact aFg ⟨σ,H,I,h⟩
def NA {e:cu}{es:List cu}{t:TG}{u:fx}(c:PG X e t)(d:pk X es u)
  (f:(eR (e::es) X.env).map (·.2)=il e X.env::(eR es X.env).map (·.2):=by rfl):pk X (e::es) (vk t u):=by
 intro a s σ H n o Q I r h;obtain⟨v,p,g,h⟩:=h;subst g;cases r with
 |cons r i=>rw[f];refine aCP (C4 (c a s σ H _ _ _ I r h) λ_ j ⟨b,k,l,m⟩=>?_);exact d a j b k _ _ Q l i m
def a2b (a b:TE)(t:SY):TG:=λv σ H Q=>a σ H λo c=>b σ c λi d=>t o i v d λe=>Q σ e
def ZT {o i:cu}{d e:TE}{t:SY}(f:PE X o d)(g:PE X i e)(j:tq X t)
  (k:∀v,il (.Subscript o i pos) X.env v=(do
   let b<-i3 [v] (dz o X.env)
   let c<-i3 [v,b] (dz i X.env)
   standAt pos
   i3 [v,b,c] (setItem b c v)
   release [v,b,c] []):=by intro _;rfl):PG X (.Subscript o i pos) (a2b d e t):=by
 intro a s σ H v u Q I r h;rw[k];refine aAa (aAP<|C4 (f a s σ H _ I h) λb l ⟨x,m,n,p,q⟩=>?_);refine aAa (aAP<|C4 (g a l σ m _ n q) λc w ⟨y,z,A,B,C⟩=>?_);refine aAa (aDP<|aAa<|aAP<|C4 (j a w σ z x y v b c u _ A p B r C) λ_ N ⟨E,J,L⟩=>?_);exact wpAny_release ⟨σ,E,J,L⟩
def yj (a:TE)(g:TG):TS:=λD σ H=>a σ H λx b=>g x σ b D.nx
def LI {b e:cu}{c:TE}{g:TG}(d:PE X e c)(f:PG X b g)(i:gC [b] e pos.line X.env=pure false:=by rfl)(j:gW [b] e X.env=pure none:=by rfl)
  (k:(eR [b] X.env).map (·.2)=[il b X.env]:=by rfl):PS X (.Assign [b] e pos) (yj c g):=by
 intro a s σ H D I h;refine wpAny_Assign_stores (C4 (d a s σ H _ I h) λv l ⟨x,m,n,o,p⟩=>?_) i j;rw[k];exact C4 (f a l σ m x v _ n o p) λ_ r q=>q
def OL {i:Nat}{x:Str}{e:cu}{c:TE}{a:Pos}(d:X.N.Nodup)(f:X.N[i]?=some x)(g:Loc X.env.scope x)(j:PE X e c)(k:et e (some (.Name x a)) pos.line X.env=pure false:=by rfl)(l:X.fn x=true\/X.env.scope.names.lookup x=some .local:=by first|exact .inl rfl|exact .inr rfl|assumption):
  PS X (.Assign [.Name x a] e pos) (yj c (XE i)):=by
 intro b s σ H D I h;refine aFh (C4 (j b s σ H _ I h) λv r ⟨y,m,n,o,p⟩=>?_) k;exact F1 n d f g o (λt q=>⟨_,m,q,p⟩) l
def a1u (i j:Nat)(ta:TA):TS:=λD σ H=>ta σ H λa b=>∃v w,a=[v,w]/\D.nx ((σ.set i<|some v).set j (some w)) b
def ZG {i j:Nat}{x y:Str}{a b:cu}{ta:TA}{k l pt:Pos}{m k2 AS}(J:X.calm=true)(u:X.N.Nodup)(L:X.N[i]?=some x)(O:X.N[j]?=some y)(Q:i≠j)
  (z:X.env.scope.names.lookup x=some .local) (B:X.env.scope.names.lookup y=some .local) (T:PA X [a,b] ta)
  (U:gW [.Tuple [.Name x k,.Name y l] m pt] (.Tuple [a,b] k2 AS) X.env=pure (some [x,y]))
  (Y:gC [.Tuple [.Name x k,.Name y l] m pt] (.Tuple [a,b] k2 AS) pos.line X.env=pure false:=by rfl):
  PS X (.Assign [.Tuple [.Name x k,.Name y l] m pt] (.Tuple [a,b] k2 AS) pos) (a1u i j ta):=by
 intro c s σ H D I h;rw[exec_Assign_arm];refine aAa (aDP ?_);rw[Y];refine aAa (aAb ?_);rw[jn (by decide)];refine aAa (Tuple_<|C4 (T _ c s σ H _ I h) λus d ⟨vs,C,I1,r1,n⟩=>?_);obtain⟨v,w,e1,n⟩:=n;subst e1;obtain⟨f,g,rfl,rv,r⟩:∃f g,us=[f,g]/\RelV v f/\RelV w g:=by
  cases r1 with
  |cons p q=>
   cases q with
   |cons p' q'=>cases q';exact⟨_,_,rfl,p,p'⟩
 refine aBo ?_ (by show 2<=sizeLine;decide);have I2:Inv X c σ C {d with heap:=d.heap.push {cls:=.type "tuple",data:=.seq [f,g].toArray}}:=I1.kept (t':=d.toks) λb o e=>aAc _ e;rw[U];refine aAa (aAb ?_);show bb (bo X.prog X.w) X.A (do rule "assign.swapped-stores";let items<-unpackItems (.ref d.heap.objs.size) 2 none;gB [λv=>hE X.env y v,λv=>hE X.env x v] items.reverse;pure Flow.next) _ _ _;refine aAa (aDi<|aAa<|unpackItems_tuple (items:=#[f,g]) (I.ok.hd J) (IsTup.new d.heap _) λh' t=>?_);have I3:=I2.kept (h':=h') (t':=d.toks) λb o e=>t b o (aAk<|aAf e) e;show bb _ _ (gB [λv=>hE X.env y v,λv=>hE X.env x v] [g,f]>>=λ_=>pure Flow.next) _ _ _;refine aAa (aCP<|aEa<|F1 I3 u O (.inl B) r (λs2 I4=>?_)<|.inr B);refine aCP (aEa<|F1 I4 u L (.inl z) rv (λs3 E=>aFg (aAb ?_))<|.inr z);rw[List.set_comm _ _ (aCi Q)]at E;exact⟨_,C,E,n⟩
end
section
variable{X:Cx} {pos:Pos}
def ZZ (c:TT)(tb:TS):TS:=λD σ H=>∃W:Nat->St->Hp->Prop,(∃m,W m σ H)/\∀m σ H,W m σ H->
 c σ H λb a=>if b=true then∃N:St->Hp->Prop,(∀d e,N d e->∃f,f<m/\W f d e)/\tb {D with nx:=N,ct:=N,bk:=D.nx} σ a else D.nx σ a
def OX {c:cu}{body:List dm}{q:TT}{tb:TS}(r:PassesOwn (bo X.prog X.w) X.A X.env X.xe)(C:PT X c q)(E:uA X body tb):PS X (.While c body [] pos) (ZZ q tb):=by
 intro a s σ H D I h;obtain⟨W,⟨J,L⟩,turn⟩:=h;refine wpAny_While (codeAny_whileLoop (λn O=>∃t u,Inv X a t u O/\W n t u) ?_ J ⟨σ,H,I,L⟩);rintro n Q ⟨d,x,T,U⟩;refine aCW r (C4 (C a Q d x _ T<|turn n d x U) λb Y ⟨y,z,i⟩=>?_);cases b with
 |true=>
  obtain⟨N,B,i⟩:=i;rw[ji rfl];refine aCW r (C4 (E a Y d y _ z i) λf s3 j=>?_);cases f with
  |next=>obtain⟨e,g,k,l⟩:=j;obtain⟨m,o,p⟩:=B e g l;exact⟨m,o,e,g,k,p⟩
  |cont=>obtain⟨e,g,k,l⟩:=j;obtain⟨m,o,p⟩:=B e g l;exact⟨m,o,e,g,k,p⟩
  |brk=>exact j
  |ret v=>exact j
 |false=>rw[jn aAV];exact aDO ⟨d,y,z,i⟩
end
structure It where
 go:Nat->Hp->Prop
 yld:Nat->Hp->V->Hp->Prop
 stop:Nat->Hp->Prop
def rK (X:Cx)(pins:N9)(H:Hp)(b:bc):Prop:=
 H b=none/\b≠X.env.locals/\b∉X.fs/\(b∈X.ex\/X.sa.heap.objs.size<=b)/\(∀x c,X.env.cells.lookup x=some c->c≠b)/\∀p∈X.pn++pins,p.1≠b
def Inv.af6 (I:Inv X a σ H s)(d:s.heap.objs.size<=b)(f:H' b=none):rK X a H' b:=by
 refine⟨f,aDs (aAs I.lt d),I.ag2 d,.inr (aAw I.sz d),λx c e z=>?_,λp g z=>?_⟩
 .obtain⟨v,q⟩:=I.cell x c e;exact absurd (aAs q.lt (by rw[z];exact d)) (aBl _)
 .exact absurd (aAs (aAf (I.pin p g).1) (by rw[z];exact d)) (aBl _)
structure Turn (P:Program)(w:World)(K:PySem.W.Frag)(tg:Expr)(J:It)(fp:List Addr)(it:Addr)(tn:Nat->Heap->Prop):Prop where
 mem:it∈fp
 obj:∀i h,tn i h->∀b∈fp,∃o,h.get? b=some o/\∀v,o.data≠.cell v
 keep:∀i h h',tn i h->(∀b∈fp,∀o,h.get? b=some o->h'.get? b=some o)->tn i h'
 item:∀(X:Cx),X.prog=P->X.w=w->X.K=K->X.calm=true->∀(i:Nat) (pins:N9) (s:Shared) (σ:St) (H:Hp) (E:C7),Inv X pins σ H s->(∀b∈fp,rK X pins H b)->tn i s.heap->J.go i H->
  wpAny (model P w) X.A (pyNext (.ref it)) (λr s1=>∃u,r=some u/\
   wpAny (model P w) X.A (letOwnedTupleGo tg (.ref it) u) (λ_ s2=>∃x H',Inv X pins σ H' s2/\RelV x u/\J.yld i H x H'/\tn (i+1) s2.heap/\∀b∈fp,H' b=none) E s1) E s
 done:∀(X:Cx),X.prog=P->X.w=w->X.K=K->X.calm=true->∀(i:Nat) (pins:N9) (s:Shared) (σ:St) (H:Hp) (E:C7),Inv X pins σ H s->(∀b∈fp,rK X pins H b)->tn i s.heap->J.stop i H->
  wpAny (model P w) X.A (pyNext (.ref it)) (λr s1=>r=none/\Inv X pins σ H s1) E s
 self:∀(A:Around) (i:Nat) (s:Shared) (Q:C7) (E:C7),tn i s.heap->Q (.ref it) s->wpAny (model P w) A (pyIter (.ref it)) Q E s
abbrev TI:=St->Hp->(It->Hp->Prop)->Prop
def PIE (X:Cx)(a:N9)(σ:St)(i:cu)(R:It->Hp->Prop)(c:af)(e:a9):Prop:=
 ∃(f:bc) (g:List bc) (h:Nat->cq->Prop) (J:It) (d:Hp),c=.ref f/\Inv X a σ d e/\Turn X.prog X.w X.K i J g f h/\h 0 e.heap/\(∀b∈g,rK X a d b)/\R J d
def PI (X:Cx)(b B7:cu)(c:TI):Prop:=
 ∀(a:N9) (s:a9) (σ:St) (H:Hp) (R:It->Hp->Prop),Inv X a σ H s->c σ H R->
  bb (bo X.prog X.w) X.A (dz B7 X.env) (λv d=>bb (bo X.prog X.w) X.A (pyIter v) (PIE X a σ b R) X.xe d) X.xe s
def PM {E : af → a9 → Prop} {Q : Unit → a9 → Prop} (b : s.heap.get? it = some o) (c : o.cls = .type n) (d : o.data = .fields vs) (e : ["enumerate", "zip", "dict_itemiterator", "dict_reverseitemiterator", "odict_iterator", "itertools.zip_longest", "itertools.pairwise"].contains n = false) (a : Q () s) : bb M A (letOwnedTupleGo f (.ref it) u) Q E s := by
  unfold letOwnedTupleGo;cases f <;> first
    | exact aAb a
    | (cases u <;> first
        | exact aAb a
        | (refine aAa (wpAny_load b ?_)
           rw [c, d];show bb M A (if (["enumerate", "zip", "dict_itemiterator", "dict_reverseitemiterator", "odict_iterator", "itertools.zip_longest", "itertools.pairwise"].contains n && vs[0]? == some (fb _)) = true then _ else _) Q E s;rw [jn (by intro h; rw [e, Bool.false_and] at h; cases h)];exact aAb a))
def Itl (K:ka)(a:bc):It:=
 ⟨λi H=>∃Y x,O5 K H a Y/\Y[i]?=some x,λi H x b=>b=H/\∀Y,O5 K H a Y->Y[i]?=some x,λi H=>∃Y,O5 K H a Y/\Y.length<=i⟩
def Itt (K:ka)(a:bc):It:=
 ⟨λi H=>∃Y x,X0 K H a Y/\Y[i]?=some x,λi H x b=>b=H/\∀Y,X0 K H a Y->Y[i]?=some x,λi H=>∃Y,X0 K H a Y/\Y.length<=i⟩
def HZ {P:bu}{w:cp}{K:ka}{U:cu}(a it:bc):Turn P w K U (Itl K a) [it] it (λi h=>h.IsListIter it a i)where
 mem:=by simp
 obj:=λi h st b g=>by
  have e:b=it:=by simpa using g
  subst e;obtain⟨o,e,c,d⟩:=st;exact⟨o,e,λv z=>by rw[d]at z;cases z⟩
 keep:=λi h l st k=>st.at λo e=>k it (by simp) o e
 item:=by intro X q r t T i f s σ H E I m st y;subst q r t;obtain⟨Y,x,n,A⟩:=y;obtain⟨B,C,p,hz⟩:=I.list n;obtain⟨u,hu,ru⟩:=C.get A;obtain⟨J,L,f2,N,O,Q⟩:=m it (by simp);refine wpAny_pyNext_list_item st p.isList (x:=u) (by simpa using hu) λl j sb=>?_;have I1:Inv X f σ H {s with heap:=l}:=I.turned (t':=s.toks) (λb o g e=>(sb.2 b g).trans e) J L N O Q;obtain⟨o,e,c,d⟩:=id j;exact⟨u,rfl,PM (s:={s with heap:=l}) e c d (by decide) ⟨x,H,I1,ru,⟨rfl,λys hy=>by rw[I.ac1 hy n];exact A⟩,j,λb g=>(m b g).1⟩⟩
 done:=by intro X q r t T i f s σ H E I m st y;subst q r t;obtain⟨Y,n,A⟩:=y;obtain⟨B,C,p,hz⟩:=I.list n;obtain⟨J,L,f2,N,O,Q⟩:=m it (by simp);have hl:=C.length;exact wpAny_pyNext_list_end (I.ok.hd T) st p.isList (by simp;lia) λl eb=>⟨rfl,I.turned (t':=s.toks) (λb o g e=>eb b o g e) J L N O Q⟩
 self:=λ_ _ _ _ _ st h=>wpAny_pyIter_listiter st h
def BQ {P:bu}{w:cp}{K:ka}{U:cu}(a it:bc):Turn P w K U (Itt K a) [it] it (λi h=>h.IsTupleIter it a i)where
 mem:=by simp
 obj:=λi h st b g=>by
  have e:b=it:=by simpa using g
  subst e;obtain⟨o,e,c,d⟩:=st;exact⟨o,e,λv z=>by rw[d]at z;cases z⟩
 keep:=λi h m st k=>st.at λo e=>k it (by simp) o e
 item:=by intro X r t y T i f s σ H E I n st A;subst r t y;obtain⟨Y,x,q,B⟩:=A;obtain⟨j,C,p,hz⟩:=I.tuple q;obtain⟨u,hu,ru⟩:=C.get B;obtain⟨J,L,f2,N,O,Q⟩:=n it (by simp);refine wpAny_pyNext_tuple_item st (show s.heap.IsTuple a j.toArray from p) (x:=u) (by simpa using hu) λm l sb=>?_;have I1:Inv X f σ H {s with heap:=m}:=I.turned (t':=s.toks) (λb o g e=>(sb.2 b g).trans e) J L N O Q;obtain⟨o,e,c,d⟩:=id l;exact⟨u,rfl,PM (s:={s with heap:=m}) e c d (by decide) ⟨x,H,I1,ru,⟨rfl,λys hy=>by rw[I.ab6 hy q];exact B⟩,l,λb g=>(n b g).1⟩⟩
 done:=by intro X r t y T i f s σ H E I n st A;subst r t y;obtain⟨Y,q,B⟩:=A;obtain⟨j,C,p,hz⟩:=I.tuple q;obtain⟨J,L,f2,N,O,Q⟩:=n it (by simp);have hl:=C.length;exact wpAny_pyNext_tuple_end (I.ok.hd T) st (show s.heap.IsTuple a j.toArray from p) (by simp;lia) λm eb=>⟨rfl,I.turned (t':=s.toks) (λb o g e=>eb b o g e) J L N O Q⟩
 self:=λ_ _ _ _ _ st h=>wpAny_pyIter_tupleiter st h
section
variable{X:Cx} {tg:cu}
def tz (K:ka)(c:TE):TI:=λσ H R=>c σ H λx b=>∃a,x=.ref a/\(∃Y,O5 K b a Y)/\R (Itl K a) b
def a3a (K:ka)(c:TE):TI:=λσ H R=>c σ H λx b=>∃a,x=.ref a/\(∃Y,X0 K b a Y)/\R (Itt K a) b
def VI (g:PE X l i):PI X tg l (tz X.K i):=by
 intro c s σ H R I h;refine C4 (g c s σ H _ I h) λv d ⟨x,j,f,k,m⟩=>?_;obtain⟨a,e,⟨Y,n⟩,q⟩:=m;subst e;cases k;obtain⟨r,u,p,w⟩:=f.list n;refine aDx p.isList ?_;refine⟨d.heap.objs.size,[d.heap.objs.size],_,_,j,rfl,f.kept (t':=d.toks) λb o e=>aAc _ e,HZ a _,⟨_,aAr _ rfl,rfl,rfl⟩,λb t=>?_,q⟩;have e:b=d.heap.objs.size:=by simpa using t
 subst e;exact f.af6 (aAh _) (f.hok.fresh<|aAh _)
def YZ {l:cu}{i:TE}(j:PE X l i):PI X tg l (a3a X.K i):=by
 intro c s σ H R I h;refine C4 (j c s σ H _ I h) λv d ⟨x,k,f,m,n⟩=>?_;obtain⟨a,e,⟨Y,r⟩,q⟩:=n;subst e;cases m;obtain⟨g,u,p,w⟩:=f.tuple r;refine wpAny_pyIter_tuple (show d.heap.IsTuple a g.toArray from p) ?_;refine⟨d.heap.objs.size,[d.heap.objs.size],_,_,k,rfl,f.kept (t':=d.toks) λb o e=>aAc _ e,BQ a _,⟨_,aAr _ rfl,rfl,rfl⟩,λb t=>?_,q⟩;have e:b=d.heap.objs.size:=by simpa using t
 subst e;exact f.af6 (aAh _) (f.hok.fresh<|aAh _)
def a2r (d:TI)(g:TG)(tb:TS):TS:=λD σ H=>d σ H λJ e=>∃W:Nat->Nat->St->Hp->Prop,(∃m,W 0 m σ e)/\∀i m σ H,W i m σ H->
 (J.stop i H/\D.nx σ H)\/(J.go i H/\∃N:St->Hp->Prop,(∀b a,N b a->∃c,c<m/\W (i+1) c b a)/\∀x a,J.yld i H x a->g x σ a λf h=>tb {D with nx:=N,ct:=N,bk:=D.nx} f h)
def pG (a:List bc)(h:cq):List (bc×Obj):=a.filterMap λb=>(h.get? b).map λo=>(b,o)
def bM (a:b∈c)(e:h.get? b=some o):(b,o)∈pG c h:=aBM.mpr ⟨b,a,by rw[e];rfl⟩
def HL (a:p∈pG c h):p.1∈c/\h.get? p.1=some p.2:=by
 obtain⟨b,d,e⟩:=aBM.mp a;cases q:h.get? b with
 |none=>rw[q]at e;cases e
 |some o=>rw[q]at e;have f:(b,o)=p:=aAl e;subst f;exact⟨d,q⟩
def Inv.pinned (I:Inv X a σ H s)(h:∀b∈c,rK X a H b)(i:∀b∈c,∃o,s.heap.get? b=some o/\∀v,o.data≠.cell v):Inv X (a++pG c s.heap) σ H s:=
 I.ad7 λp j=>(aAQ.mp j).elim (λz=>I.pin p (aAE _ z)) λz=>by obtain⟨f,e⟩:=HL z;obtain⟨k,l,m,_⟩:=h p.1 f;obtain⟨o,g,d⟩:=i p.1 f;rw[e]at g;cases g;exact⟨e,k,l,m,d⟩
def Inv.ab3 (I:Inv X (a++c) σ H s):Inv X a σ H s:=I.ad7 λp b=>I.pin p (aAE _<|aBF _ b)
def YR (z:PassesOwn (bo X.prog X.w) X.A X.env X.xe)(hc:X.calm=true)(hi:PI X tg B7 wi)(hg:PG X tg g)(c:uA X body tb)(hs:∀x,f6 B7 X.env x=pure x:=by intro _;rfl):PS X (.For tg B7 body [] pos) (a2r wi g tb):=by
 intro a s σ H D I h;refine wpAny_For (C4 (hi a s σ H _ I h) λv s1 h1=>C4 h1 λitv s2 h2=>?_) hs;obtain⟨it,B,tn,J,H2,e,I2,T,og,f2,W,⟨m0,w0⟩,turn⟩:=h2;subst e;have j:∀{q:Hp},(∀b∈B,q b=none)->∀b∈B,rK X a q b:=λhn b c=>⟨hn b c,(f2 b c).2⟩;refine codeAny_forLoop_any (λn s'=>∃i C q,Inv X a C q s'/\tn i s'.heap/\(∀b∈B,q b=none)/\W i n C q) ?_ m0 ⟨0,σ,H2,I2,og,λb c=>(f2 b c).1,w0⟩;rintro n s3 ⟨i,E,U,I3,L,O,w3⟩;rcases turn i n E U w3 with⟨stop,qn⟩|⟨go,N,hN,step⟩
 .refine aCW z (C4 (T.done X rfl rfl rfl hc i a s3 E U X.xe I3 (j O) L stop) λr s4 ⟨Y,I4⟩=>?_);subst Y;exact aDO ⟨E,U,I4,qn⟩
 .refine aCW z (C4 (T.item X rfl rfl rfl hc i a s3 E U X.xe I3 (j O) L go) λr s4 ⟨u,Y,h4⟩=>?_);subst Y;refine aCW z (C4 h4 λ_ s5 ⟨x,H5,I5,r5,y5,y,fr5⟩=>?_);have I5':=I5.pinned (j fr5) (T.obj _ _ y);refine aCW z (C4 (hg _ s5 E H5 x u _ I5' r5<|step x H5 y5) λ_ s6 ⟨σ6,H6,I6,q6⟩=>?_);refine aCW z (C4 (c _ s6 σ6 H6 _ I6 q6) λf s7 t=>?_);have again:∀{k:St} {l:Hp},Inv X (a++pG B s5.heap) k l s7->N k l->∃m,m<n/\∃i C q,Inv X a C q s7/\tn i s7.heap/\(∀b∈B,q b=none)/\W i m C q:=λ{k l} p Q=>by obtain⟨m',hm,w7⟩:=hN k l Q;refine⟨m',hm,i+1,k,l,p.ab3,T.keep _ _ _ y λb c o e=>(p.pin (b,o)<|aAE _<|aAE _<|bM c e).1,λb c=>?_,w7⟩;obtain⟨o,e,d⟩:=T.obj _ _ y b c;exact(p.pin (b,o)<|aAE _<|aAE _<|bM c e).2.1
  cases f with
  |next=>obtain⟨k,l,p,Q⟩:=t;exact again p Q
  |cont=>obtain⟨k,l,p,Q⟩:=t;exact again p Q
  |brk=>obtain⟨k,l,p,t⟩:=t;exact⟨k,l,p.ab3,t⟩
  |ret v=>obtain⟨x7,k,l,p,r7,t⟩:=t;exact⟨x7,k,l,p.ab3,r7,t⟩
end
abbrev R2:=V->V->Hp->VK->Prop
def mK (X:Cx)(f:af->af->Sem af)(r:R2):Prop:=
 ∀(a:N9) (s:a9) (σ:St) (H:Hp) (x y:V) (v u:af) (Q:VK),Inv X a σ H s->RelV x v->RelV y u->r x y H Q->
  bb (bo X.prog X.w) X.A (f v u) (EP X a σ Q) X.xe s
def UnR (X:Cx)(f:af->Sem af)(r:V->Hp->VK->Prop):Prop:=
 ∀(a:N9) (s:a9) (σ:St) (H:Hp) (x:V) (v:af) (Q:VK),Inv X a σ H s->RelV x v->r x H Q->
  bb (bo X.prog X.w) X.A (f v) (EP X a σ Q) X.xe s
def xU (X:Cx)(f:af)(r:List V->Hp->VK->Prop):Prop:=
 ∀(a:N9) (s:a9) (σ:St) (H:Hp) (Y:List V) (b:List af) (Q:VK),Inv X a σ H s->n4 Y b->r Y H Q->
  bb (bo X.prog X.w) X.A (call f b) (EP X a σ Q) X.xe s
def tUn (r:V->Hp->VK->Prop)(ta:TE):TE:=λσ H Q=>ta σ H λx a=>r x a Q
def rI (C:Int->Int->Prop)(g:Int->Int->V):R2:=λx y H Q=>∃i j,x=.int i/\y=.int j/\C i j/\Q (g i j) H
def XB (g:Int->Int->V):R2:=λx y H Q=>∃i j,x=.int i/\y=.int j/\Q (g i j) H
def rU (g:Int->V):V->Hp->VK->Prop:=λx H Q=>∃i,x=.int i/\Q (g i) H
section
variable{X:Cx} {a b c:cu} {ta tb tc:TE} {pos:Pos}
def RE (j:PE X a ta)(k:PE X b tb){d:N9}{s:a9}{σ:St}{H:Hp}{R:V->V->Hp->Prop}(I:Inv X d σ H s)
  (h:ta σ H λx i=>tb σ i λy e=>R x y e) {Q:C7} {f:af->af->Sem af}
  (l:∀v u g x y e,Inv X d σ e g->RelV x v->RelV y u->R x y e->bb (bo X.prog X.w) X.A (f v u) Q X.xe g):
  bb (bo X.prog X.w) X.A (dz a X.env) (λv m=>bb (bo X.prog X.w) X.A (dz b X.env) (λu n=>bb (bo X.prog X.w) X.A (f v u) Q X.xe n) X.xe m) X.xe s:=by
 refine C4 (j d s σ H _ I h) λv o ⟨x,i,p,q,r⟩=>?_;refine C4 (k d o σ i _ p r) λu g ⟨y,e,t,z,B⟩=>?_;exact l v u g x y e t q z B
def qx {r:V->Hp->VK->Prop}(e:UnR X (unaryOp op) r)(f:PE X a ta):PE X (.UnaryOp op a pos) (tUn r ta):=by intro d s σ H Q I h;exact UnaryOp_ (C4 (f d s σ H _ I h) λv g ⟨x,i,j,k,l⟩=>e d g σ i x v Q j k l)
def opI {f:af->af->Sem af}{C:Int->Int->Prop}{g:Int->Int->Int}
  (rule:∀(i j:Int) (t u:Tok) (s:a9) (Q:C7) (E:C7),C i j->Q (.int (g i j) s.toks) {s with toks:=s.toks+1}->bb (bo X.prog X.w) X.A (f (.int i t) (.int j u)) Q E s):
  mK X f (rI C λi j=>.int (g i j)):=by
 intro d s σ H x y v u Q I e k h;obtain⟨i,j,rfl,rfl,l,q⟩:=h;obtain⟨t,rfl⟩:=e;obtain⟨m,rfl⟩:=k;exact rule i j t m s _ _ l ⟨.int (g i j),H,I.tok _,⟨_,rfl⟩,q⟩
def zq {f:af->af->Sem af}{g:Int->Int->Int}
  (rule:∀(i j:Int) (t u:Tok) (s:a9) (Q:C7) (E:C7),Q (.int (g i j) s.toks) {s with toks:=s.toks+1}->bb (bo X.prog X.w) X.A (f (.int i t) (.int j u)) Q E s):
  mK X f (XB λi j=>.int (g i j)):=by
 intro d s σ H x y v u Q I e k h;obtain⟨i,j,rfl,rfl,q⟩:=h;obtain⟨t,rfl⟩:=e;obtain⟨l,rfl⟩:=k;exact rule i j t l s _ _ ⟨.int (g i j),H,I.tok _,⟨_,rfl⟩,q⟩
def mj {f:af->af->Sem af}{g:Int->Int->Bool}
  (rule:∀(i j:Int) (t u:Tok) (s:a9) (Q:C7) (E:C7),Q (.bool (g i j)) s->bb (bo X.prog X.w) X.A (f (.int i t) (.int j u)) Q E s):
  mK X f (XB λi j=>.bl (g i j)):=by
 intro d s σ H x y v u Q I e k h;obtain⟨i,j,rfl,rfl,q⟩:=h;obtain⟨t,rfl⟩:=e;obtain⟨l,rfl⟩:=k;exact rule i j t l s _ _ ⟨.bl (g i j),H,I,rfl,q⟩
def a2f (i j:Int):Prop:=0<=j/\j<=1000000/\i.natAbs<2^64
def ZX:mK X (eY .Add) (XB λi j=>.int (i+j)):=zq λ_ _ _ _ _ _ _ q=>add_int q
def gj:mK X (eY .Sub) (XB λi j=>.int (i-j)):=zq λ_ _ _ _ _ _ _ q=>sub_int q
def UT:mK X (eY .Mod) (rI (λ_ j=>j≠0) λi j=>.int (i.fmod j)):=opI λ_ _ _ _ _ _ _ d q=>mod_int' d q
def bw:mK X (eY .Pow) (rI a2f λi j=>.int (i^j.toNat)):=opI λ_ _ _ _ _ _ _ d q=>pow_int_small d.1 d.2.1 d.2.2 q
def unI {f:af->Sem af}{g:Int->Int}
  (rule:∀(i:Int) (t:Tok) (s:a9) (Q:C7) (E:C7),Q (.int (g i) s.toks) {s with toks:=s.toks+1}->bb (bo X.prog X.w) X.A (f (.int i t)) Q E s):
  UnR X f (rU λi=>.int (g i)):=by
 intro d s σ H x v Q I e h;obtain⟨i,rfl,q⟩:=h;obtain⟨t,rfl⟩:=e;exact rule i t s _ _ ⟨.int (g i),H,I.tok _,⟨_,rfl⟩,q⟩
def bj:UnR X (unaryOp .USub) (rU λi=>.int (-i)):=unI λ_ _ _ _ _ q=>neg_int q
end
section
variable{X:Cx} {a b c:cu} {ta tb tc:TE} {pos:Pos}
def ZB (I:Inv X d σ H s)(q:Q (.bl k) H)(e:k=f):EP X d σ Q (.bool f) s:=by subst e;exact⟨.bl k,H,I,rfl,q⟩
def sk:mK X (eQ .Lt) (XB λi j=>.bl (decide (i<j))):=mj λ_ _ _ _ _ _ _ q=>lt_int q
def qy:mK X (eQ .LtE) (XB λi j=>.bl (decide (i<=j))):=mj λ_ _ _ _ _ _ _ q=>le_int q
def rq:mK X (eQ .Gt) (XB λi j=>.bl (decide (j<i))):=mj λ_ _ _ _ _ _ _ q=>gt_int q
def jx:mK X (eQ .Is) (λx y H Q=>y=.non/\Q (.bl (decide (x=.non))) H):=by
 intro d s σ H x y v u Q I e f h;obtain⟨rfl,q⟩:=h;cases f;refine is_none_gen (ZB I q ?_);cases x<;>first
  |(cases e;rfl)
  |(obtain⟨t,rfl⟩:=e;rfl)
def DV (b:cu)(h:op≠.In:=by decide)(d:op≠.NotIn:=by decide):hF op b=false:=by
 have e:(op==CmpOp.In)=false:=by cases op<;>first|rfl|exact absurd rfl h
 have f:(op==CmpOp.NotIn)=false:=by cases op<;>first|rfl|exact absurd rfl d
 cases b<;>simp[hF,e,f]
def DF:(sizeLine:Nat)<2^63:=by rw[aFm];decide
def vals1 (r:n4 [x] us):∃u,us=[u]/\RelV x u:=by
 cases r with
 |cons d e=>cases e;exact⟨_,rfl,d⟩
def vals2 (r:n4 [x,y] us):∃u d,us=[u,d]/\RelV x u/\RelV y d:=by
 cases r with
 |cons e f=>
  cases f with
  |cons g h=>cases h;exact⟨_,_,rfl,e,g⟩
def PV:xU X (.builtin "abs") (λY H Q=>∃i,Y=[.int i]/\Q (.int (if i<0 then-i else i)) H):=by intro d s σ H Y e Q I r h;obtain⟨i,rfl,q⟩:=h;obtain⟨u,rfl,t,rfl⟩:=vals1 r;exact call_abs_int λu f=>⟨.int (if i<0 then-i else i),H,I.tok _,⟨_,rfl⟩,q⟩
end
section
variable{prog:bu} {w:cp} {A:cf} {E:C7} {s:a9} {K:ka} {x dx C f:bc} {mA:Y1} {name:Str} {v:af}
end
section
variable{P:bu} {w:cp} {H H':Hp} {h h':cq} {a C dx:bc} {fs ze:List (Str×V)}
end
section
variable{X:Cx} {pins:N9} {σ:St} {H:Hp} {s:a9} {a C dx:bc} {fs:List (Str×V)} {f:Str} {v:V} {A:cf} {E:C7}
end
section
variable{X:Cx} {o e value:cu} {f:Str} {pos pos' tpos:Pos} {ta tv:TE}
end
section
variable{X:Cx} {pins:N9} {σ:St} {H:Hp} {s:a9} {A:cf} {E:C7} {Q:C7} {c:af} {b:Bool}
end
structure Room (k:Nat)(A:Around):Prop where
 hd:A.handled=none
 dp:A.depth+3*k+5<recursionLimit
 un:A.units+16*k+200<cLine
def Room.mono (r:Room k A)(h:j<=k):Room j A:=⟨r.hd,by have:=r.dp;lia,by have:=r.un;lia⟩
def Room.deeper (r:Room (k+1) A)(env:Env):Room k (A.deeper env):=
 ⟨r.hd,by have:=r.dp;show A.depth+1+3*k+5<_;lia,by have:=r.un;show A.units+3+16*k+200<_;lia⟩
def Room.depth (r:Room k A):A.depth<recursionLimit:=by have:=r.dp;lia
def Room.units (r:Room k A):A.units+64<dA:=by have:=r.un;lia
def a3c:TA:=λ_ H Q=>Q [] H
def qz (ta:TE)(tr:TA):TA:=λσ H Q=>ta σ H λx a=>tr σ a λY b=>Q (x::Y) b
section
variable{X:Cx} {e:cu} {es:List cu} {te:TE} {t:TA} {pos:Pos}
def Z8:PA X [] a3c:=λ_ _ _ _ H Q I h=>aFi ⟨[],H,I,.nil,h⟩
def F9 (b:PE X e te)(c:PA X es t)(d:a5 (e::es) X.env=(false,dz e X.env)::a5 es X.env:=by rfl):PA X (e::es) (qz te t):=by intro pos a s σ H Q I h;rw[d];show bb _ _ (spliced ((false,dz e X.env)::cv pos (a5 es X.env))) _ _ s;refine aDQ (C4 (b a s σ H _ I h) λu f ⟨x,g,i,j,k⟩=>?_);exact C4 (c pos a f σ g _ i k) λp q ⟨Y,l,m,n,o⟩=>⟨x::Y,l,m,.cons j n,o⟩
def a1s (t:TA):TE:=λσ H Q=>t σ H λY a=>Y.length<=sizeLine/\∀p,a p=none->Q (.ref p) (upd a p<|.tup Y)
def a3b (t:TA):TE:=λσ H Q=>t σ H λY a=>Y.length<=sizeLine/\∀p,a p=none->Q (.ref p) (upd a p<|.lst Y)
def fj {g}(h:PA X es t):PE X (.Tuple es g pos) (a1s t):=by intro a s σ H Q I i;refine wpAny_Tuple_spliced (C4 (h pos a s σ H _ I i) λj c ⟨Y,d,f,r,z,q⟩=>⟨by rw[<-r.length];exact z,?_⟩);have k:d c.heap.objs.size=none:=f.hok.fresh (aAh _);refine⟨.ref c.heap.objs.size,upd d c.heap.objs.size (.tup Y),f.laid (t':=c.toks) (λb u e=>aAc _ e) (aAh _) ?_,rfl,q _ k⟩;exact⟨z,j,r,⟨_,aAr _ rfl,rfl,_,rfl⟩⟩
def RK (h:PA X es t):PE X (.List es pos) (a3b t):=by intro a s σ H Q I g;refine wpAny_List_spliced (C4 (h pos a s σ H _ I g) λi c ⟨Y,d,f,r,z,q⟩=>⟨by rw[<-r.length];exact z,?_⟩);have j:d c.heap.objs.size=none:=f.hok.fresh (aAh _);refine⟨.ref c.heap.objs.size,upd d c.heap.objs.size (.lst Y),f.laid (t':=c.toks) (λb u e=>aAc _ e) (aAh _) ?_,rfl,q _ j⟩;exact⟨z,i,0,r,aAr _ rfl⟩
end
abbrev Sp:=List V->Hp->VK->XK->Prop
abbrev OI:=List Env->Hp->a9->XK->af->a9->Prop
structure Env0 (P:Program)(w:World)(K:PySem.W.Frag)(mg:Y1)(base:Heap)(A:Around)(outer:List Env)(s:Shared)(H:Hp):Prop where
 frames:A.frames=some outer
 mod:Mod K mg base
 bs:∀b o,base.get? b=some o->s.heap.get? b=some o/\H b=none
 bsz:base.objs.size<=s.heap.objs.size
 funs:s.heap.FunFrames base outer
 frf:∀b∈W5 outer,H b=none
 hok:aD P w H s.heap
 bare:AllBare s.gens
def CE (a:List Env)(P:bu)(w:cp)(H:Hp)(s:a9)(Q:VK)(u:af)(s':a9):Prop:=
 ∃v b,s'.os=s.os/\AllBare s'.gens/\Un (W5 a) [] H b s.heap s'.heap/\aD P w b s'.heap/\RelV v u/\Q v b
def CR (b:OI)(a:List Env)(P:bu)(w:cp)(H:Hp)(s:a9)(Q:VK)(E:XK)(r:Result)(s':a9):Prop:=
 match r with
 |.ok (.ret u)=>CE a P w H s Q u s'
 |.ok _=>False
 |.error e=>b a H s E e s'
structure FnOk (P:Program)(w:World)(K:PySem.W.Frag)(mg:Y1)(base:Heap)(CX:OI)(k:Nat)(f:Addr)(fd:FuncData)(ps:List Str)(sp:Sp):Prop where
 len:∀vs H Q E,sp vs H Q E->vs.length=ps.length
 run:∀(A:Around) (outer:List Env) (s:Shared) (H:Hp) (args:Args) (us:List Value) (vs:List V) (Q:VK) (E:XK),Room k A->Env0 P w K mg base A outer s H->BindsTo s fd args (ps.zip us)->n4 vs us->sp vs H Q E->
  codeAny (model P w) A (.call (.ref f) args) (CR CX outer P w H s Q E) s
def FnOk.imp {P:bu}{w:cp}{K:ka}{mg:Y1}{base:cq}{d:OI}{k:Nat}{f:bc}{fd:dC}{ps:List Str}{e b:Sp}(F:FnOk P w K mg base d k f fd ps e)
  (h:∀vs H Q E,b vs H Q E->e vs H Q E):FnOk P w K mg base d k f fd ps b:=
 ⟨λvs H Q E q=>F.len vs H Q E (h _ _ _ _ q),λA a s H c g vs Q E i j l m n=>F.run A a s H c g vs Q E i j l m (h _ _ _ _ n)⟩
section
variable{X:Cx} {pins:N9} {σ:St} {H:Hp} {s s':a9}
def Inv.ae8 (I:Inv X pins σ H s):Env0 X.prog X.w X.K X.mg X.base X.A X.stack s H:=
 ⟨I.ok.frames,I.ok.mod,I.bs,aAw I.ok.bsz I.sz,I.stack,I.ab9,I.hok,I.bare⟩
def Inv.after (I:Inv X pins σ H s)(h:CE X.stack X.prog X.w H s Q u s'):EP X pins σ Q u s':=by obtain⟨v,f,os,a,un,c,r,q⟩:=h;obtain⟨i,g,d,t,e⟩:=s';obtain rfl:e=s.os:=os;exact⟨v,f,I.call (h':=i) (g':=g) (d':=d) (t':=t) (ch:=[]) un c a (λb z=>absurd z (by simp)),r,q⟩
end
def xj (b:Sp)(a:List V)(E:XK)(t:TA):TE:=λσ H Q=>t σ H λc d=>b (c++a) d Q E
def Binds (K:ka)(fd:dC)(ps:List Str)(ds:List af):Prop:=
 ∀(s:a9) (us:List af),K.In s.heap->(us++ds).length=ps.length->BindsTo s fd ⟨us,[]⟩ (ps.zip<|us++ds)
def Binds.all {K:ka}{fd:dC}{ps:List Str}(h:∀us:List af,us.length=ps.length->bindArgs fd ⟨us,[]⟩=pure (ps.zip us)):Binds K fd ps []:=λs us _ a=>by rw[aBG]at a⊢;exact .of_eq (h us a)
def qN (c:OI)(X:Cx)(E:XK):Prop:=∀(a:N9) (σ:St) (H:Hp) (s:a9) (e:af) (b:a9),Inv X a σ H s->c X.stack H s E e b->X.xe e b
section
variable{X:Cx} {CX:OI} {k:Nat} {f C:bc} {fd:dC} {ps:List Str} {sp:Sp} {dvs:List V} {ds:List af} {E:XK} {x m:Str} {p pos apos:Pos} {e o:cu} {es:List cu} {ta:TE} {t:TA}
def cz (F:FnOk X.prog X.w X.K X.mg X.base CX k f fd ps sp)(d:Room k X.A)(g:Binds X.K fd ps ds)(i:n4 dvs ds)(j:qN CX X E)(I:Inv X a σ H s)(r:n4 vs us)(h:sp (vs++dvs) H Q E):bb (bo X.prog X.w) X.A (call (.ref f) us) (EP X a σ Q) X.xe s:=by
 have c:n4 (vs++dvs) (us++ds):=r.append i;have l:(us++ds).length=ps.length:=by rw[<-c.length];exact F.len _ _ _ _ h
 refine aFH (aDt (F.run X.A X.stack s H ⟨us,[]⟩ (us++ds) (vs++dvs) Q E d I.ae8 (g s us I.kIn l) c h) λr n b=>?_);cases r with
 |error e=>exact j a σ H s e n I b
 |ok q=>
  cases q with
  |ret u=>exact I.after b
  |next=>exact aAi b
  |brk=>exact aAi b
  |cont=>exact aAi b
def uW (F:FnOk X.prog X.w X.K X.mg X.base CX k f fd ps sp)(c:Room k X.A)(d:Gl X x)(g:X.mg x=some (.ref f))(i:PySem.W.keepIn X.K (.ref f)=true)(j:Binds X.K fd ps ds)(l:n4 dvs ds)(n:qN CX X E)
  (u:PA X (e::es) t) (v:(x==kb)=false:=by decide) (y:a5 (e::es) X.env=(false,dz e X.env)::a5 es X.env:=by rfl) (A8:(cv pos (a5 es X.env)).any (·.1)=false:=by rfl):
  PE X (.Call (.Name x p) (e::es) [] pos) (xj sp dvs E t):=by
 intro a s σ H Q I h;refine aAK (bE I d g ?_ v);refine PySem.W.callWith_K (h₀:=X.base) I.ok.mod.kin i (C4 (u pos a s σ H _ I h) λz B ⟨J,L,b,r,q⟩=>⟨b.kIn,?_⟩) y A8;exact cz F c j l n b r q
end
section
variable{X:Cx} {CX:OI} {k:Nat} {f C:bc} {fd:dC} {ps ks:List Str} {sp:Sp} {E:XK} {x m:Str} {p pos apos kpos:Pos} {e o:cu} {es:List cu} {kws:List Keyword} {te ta:TE} {t tk:TA} {nm:Option Str}
variable{g:List af->List af->List af} {gV:List V->List V->List V}
end
structure FnScope (N P:List Str)(sc:Scope):Prop where
 kind:sc.kind=.function
 co:sc.isCoroutine=false
 gen:sc.isGenerator=false
 nd:N.Nodup
 pre:N.take P.length=P
 par:∀x∈P,sc.names.lookup x=some .local\/sc.names.lookup x=some .cell
 nofree:∀y∈sc.names,y.2≠.free
theorem sM {kindOf:Str->Option e9}{x:Str}:∀{binds:List (Str×af)} {m:Y1},(∀v,(x,v)∉binds)->bindL kindOf binds m x=m x
 |[],_,_=>rfl
 |(n,v)::r,m,h=>by
  unfold bindL;rw[sM λw a=>h w (aAe _ a)];split
  .have:x≠n:=by rintro rfl;exact h v aBg
   simp[this]
  .rfl
theorem tO {kindOf:Str->Option e9}{x:Str}:∀{binds:List (Str×af)} {m:Y1},(∀v,(x,v)∉binds)->bindC kindOf binds m x=m x
 |[],_,_=>rfl
 |(n,v)::r,m,h=>by
  unfold bindC;rw[tO λw a=>h w (aAe _ a)];split
  .rfl
  .have:x≠n:=by rintro rfl;exact h v aBg
   simp[this]
theorem sQ {kindOf:Str->Option e9}{x:Str}{v:af}:∀{P:List Str} {vs:List af} {i:Nat} {m:Y1},P.Nodup->P[i]?=some x->vs[i]?=some v->kindOf x=some .local->
  bindL kindOf (P.zip vs) m x=some v
 |[],_,_,_,_,h,_,_=>by simp at h
 |_::_,[],_,_,_,_,h,_=>by simp at h
 |p::P,w::vs,0,m,c,a,b,d=>by simp at a b;subst a;subst b;show bindL kindOf ((p,w)::P.zip vs) m p=_;unfold bindL;rw[sM λv e=>(aAR.mp c).1 (aDL e).1,ji d];simp
 |p::P,w::vs,i+1,m,c,a,b,d=>by show bindL kindOf ((p,w)::P.zip vs) m x=_;unfold bindL;exact sQ (i:=i) (aAR.mp c).2 (by simpa using a) (by simpa using b) d
theorem rO {kindOf:Str->Option e9}{x:Str}{v:af}:∀{P:List Str} {vs:List af} {i:Nat} {m:Y1},P.Nodup->P[i]?=some x->vs[i]?=some v->kindOf x≠some .local->
  bindC kindOf (P.zip vs) m x=some v
 |[],_,_,_,_,h,_,_=>by simp at h
 |_::_,[],_,_,_,_,h,_=>by simp at h
 |p::P,w::vs,0,m,c,a,b,d=>by simp at a b;subst a;subst b;show bindC kindOf ((p,w)::P.zip vs) m p=_;unfold bindC;rw[tO λv e=>(aAR.mp c).1 (aDL e).1,jn d];simp
 |p::P,w::vs,i+1,m,c,a,b,d=>by show bindC kindOf ((p,w)::P.zip vs) m x=_;unfold bindC;exact rO (i:=i) (aAR.mp c).2 (by simpa using a) (by simpa using b) d
def start (N:List Str)(vs:List V):St:=vs.map some++aCR (N.length-vs.length) none
def vG (c:OI)(P:bu)(w:cp)(K:ka)(mg:Y1)(base:cq)(N:List Str)(qual:Str)(a:ik)(f:bc)(cd:af)(A:cf)(outer:List Env)(s:a9)(H:Hp)(E:XK):Cx where
 prog:=P
 w:=w
 K:=K
 mg:=mg
 base:=base
 A:=A.deeper (envOfC qual a s.heap.objs.size f cd)
 N:=N
 sa:=s
 Ha:=H
 env:=envOfC qual a s.heap.objs.size f cd
 outer:=outer
 stack:=envOfC qual a s.heap.objs.size f cd::outer
 ex:=[]
 calm:=true
 fn:=λ_=>true
 pn:=[]
 xe:=λe d=>bb (bo P w) (A.deeper<|envOfC qual a s.heap.objs.size f cd) (leaving (envOfC qual a s.heap.objs.size f cd) e) (λ_ b=>c outer H s E e b) (λg b=>c outer H s E g b) d
def xS {sc:ik}{n:Nat}{x:Str}(h:sc.names.lookup x=some .cell):∃c,(dV n sc.names []).lookup x=some c:=by have q:=PySem.W.cellsFrom_some sc.names n [] (.inl h);exact aFj.mp q
def IP {J:OI}{P:bu}{w:cp}{K:ka}{mg:Y1}{base:cq}{N ps:List Str}{qual:Str}{d:ik}{f:bc}{cd:af}{A:cf}{g:List Env}{s L:a9}{H:Hp}{E:XK}{us:List af}{vs:List V}
  (S:FnScope N ps d) (T:A.handled=none) (l:Env0 P w K mg base A g s H) (hl:vs.length=ps.length) (r:n4 vs us)
  (x:InCallC s s.heap.objs.size (bindL (envOfC qual d s.heap.objs.size f cd).kindOf (ps.zip us) λ_=>none) (dV (s.heap.objs.size+1) d.names []) (bindC (envOfC qual d s.heap.objs.size f cd).kindOf (ps.zip us) λ_=>none) L):
  Inv (vG J P w K mg base N qual d f cd A g s H E) [] (start N vs) H L:=by
 have A8:ps.length<=N.length:=by have:=jr List.length S.pre;rw[aBT]at this;lia
 obtain⟨C,tk,rfl,O⟩:=x.done;have m:∀b:bc,b∉(vG J P w K mg base N qual d f cd A g s H E).ex:=λb z=>absurd (show b∈([]:List bc)from z) (by simp);refine⟨⟨l.mod,S.kind,rfl,rfl,aAh _,λy z c C j=>?_,λy o=>?_,λy c _ h=>?_,λ_=>T,aFL l.frames,.inr ⟨rfl,rfl⟩,λb z=>absurd z (m b),l.bs,l.bsz,λb _ _=>m b,λb z=>absurd z (m b),l.funs,l.frf⟩,
  rfl,l.bare,Un.kept O,⟨_,x.toInCall.ns,λi y v C j h3=>?_⟩,λy c h=>⟨_,x.cell y c h⟩,l.hok.fresh (aAh _),λy c h=>?_,λp t=>absurd (show p∈([]:N9)from t) (by simp),l.hok.kept O,?_⟩
 .exact name_of_addr x.apart (PySem.mem_of_lookup C) (PySem.mem_of_lookup j)
 .have o:d.names.lookup y=some .cell\/d.names.lookup y=some .free:=o;rcases o with o|o
  .exact xS o
  .exact absurd rfl (S.nofree _<|PySem.mem_of_lookup o)
 .exact aDb (x.above y c<|PySem.mem_of_lookup h)
 .have I:i<vs.length:=by
   unfold start at j;by_cases I:i<vs.length
   .exact I
   .rw[aAz (by simpa using I)]at j;rw[aBu]at j;split at j<;>cases j
  have U:vs[i]?=some v:=by
   unfold start at j;rw[aAS (by simpa using I),aAM]at j;cases e:vs[i]? with
   |none=>rw[e]at j;cases j
   |some a=>rw[e]at j;cases j;rfl
  obtain⟨u,Q,Y⟩:=r.get U;have t:ps[i]?=some y:=by rw[<-S.pre,List.getElem?_take_of_lt (by lia)];exact C
  have B:ps.Nodup:=by rw[<-S.pre];exact S.nd.sublist (List.take_sublist _ _)
  refine⟨u,Y,?_⟩;rcases S.par y (aAm t)with k|k
  .exact .inl ⟨k,sQ B t Q k⟩
  .obtain⟨c,e⟩:=xS (n:=s.heap.objs.size+1) k;refine .inr ⟨.inl k,c,e,?_⟩;have q:=x.cell y c e;rw[rO B t Q (by show d.names.lookup y≠_;rw[k];decide)]at q;exact q
 .exact l.hok.fresh (aDb<|x.above y c<|PySem.mem_of_lookup h)
 .unfold start;show _=N.length;rw[aAF,aAj,aCt]
  lia
def PN {m:OI}{P:bu}{w:cp}{K:ka}{mg:Y1}{base:cq}{k:Nat}{f:bc}{name qual:Str}{d:Arguments}{body:List dm}{a:ik}{Y kV h pm T ct oc:af}{an od:Option bc}
  {z:Array (Option af)} {N ps:List Str} {B:Sp} (lk:K.lookup f=some ⟨oc,od,.func (PySem.W.fnOf name qual d body a Y kV h pm an T ct),z⟩) (gr:PySem.W.codeIn K T qual=true) (S:FnScope N ps a)
  (len:∀vs H Q E,B vs H Q E->vs.length=ps.length)
  (xn:∀(A:cf) (c:List Env) (s:a9) (H:Hp) (vs:List V) (Q:VK) (E:XK),Room k (A.deeper (envOfC qual a s.heap.objs.size f T))->B vs H Q E->
   ∃t,uA (vG m P w K mg base N qual a f T A c s H E) body t/\t {nx:=λ_ H'=>Q .non H',rt:=Q} (start N vs) H):
  FnOk P w K mg base m (k+1) f (PySem.W.fnOf name qual d body a Y kV h pm an T ct) ps B:=by
 refine⟨len,λA c s H args us vs Q E C i hb r j=>?_⟩;have hl:=len _ _ _ _ j;have KX:K.In s.heap:=i.mod.kin.keeps λb o e=>(i.bs b o e).1;have L:s.heap.NoLimit:=i.mod.nolimit.keeps λb o e=>(i.bs b o e).1;have qr:∀y∈ps.zip us,a.names.lookup y.1=some .local\/(a.names.lookup y.1=some .cell/\((dV (s.heap.objs.size+1) a.names []).lookup y.1).isSome=true):=λ⟨n,v⟩ hy=>by
  rcases S.par n (aDL hy).1 with q|q
  .exact .inl q
  .exact .inr ⟨q,PySem.W.cellsFrom_some _ _ _ (.inl q)⟩
 refine codeAny_call_function C.depth (KX _ _ lk) rfl S.co S.gen rfl (PySem.W.codeRec_of KX gr) (hb _ _ _ _ ?_);refine wpAny_newFunctionEnv_cells S.kind qr λenv he s1 x=>?_;subst he;refine⟨L.keeps x.toInCall.keep,codeAny_func ?_⟩;obtain⟨t,ht,hq⟩:=xn A c s H vs Q E (C.deeper _) j;have I:Inv (vG m P w K mg base N qual a f T A c s H E) [] (start N vs) H s1:=IP S C.hd i hl r x;refine aBP (ht [] s1 (start N vs) H _ I hq) (λfl O g=>?_) λe O g=>g;have l:∀{p:St} {H':Hp} {v:V} {u:af},Inv (vG m P w K mg base N qual a f T A c s H E) [] p H' O->RelV v u->Q v H'->CE c P w H s Q u O:=
  λ{p H' v u} J U q=>⟨v,H',J.os,J.bare,J.base,J.hok,U,q⟩
 cases fl with
 |ret u=>obtain⟨v,p,H',J,U,q⟩:=g;exact l J U q
 |next=>obtain⟨p,H',J,q⟩:=g;exact l (v:=V.non) (u:=Value.none) J rfl q
 |brk=>obtain⟨_,_,_,q⟩:=g;exact aAi q
 |cont=>obtain⟨_,_,_,q⟩:=g;exact aAi q
section
variable{X:Cx} {x:Str} {p pos:Pos} {e:cu} {es:List cu} {t:TA} {id T:String} {r:List V->Hp->VK->Prop}
end
end L2
namespace HT
open PySem PyProof.Rows
def lexLt:List Int->List Int->Bool
 |[],[]=>false
 |[],_::_=>true
 |_::_,[]=>false
 |x::Y,y::a=>if x=y then lexLt Y a else decide (x<y)
def I0 (x y:Int)(Y a:List Int):lexLt (x::Y) (y::a)=if x=y then lexLt Y a else decide (x<y):=rfl
def Z6:lexLt [] []=false:=rfl
def M9 (y:Int)(a:List Int):lexLt [] (y::a)=true:=rfl
def C5 (x:Int)(Y:List Int):lexLt (x::Y) []=false:=rfl
def yW (A:cf)(s:a9)(a:Int)(t:Tok)(c:Int)(u:Tok):∃e,SeqAt.EqAt A s (.int a t) (.int c u) e/\(e=true↔a=c):=
 ⟨(a==c),aET a t c u,by simp⟩
def zM (A:cf)(s:a9)(a:Int)(t:Tok)(c:Int)(u:Tok)(prog:bu)(w:cp)(E:C7)(Q:C7)(h:Q (.bool (decide (a<c))) s):
  bb (bo prog w) A (richCompare .Lt (.int a t) (.int c u)) Q E s:=
 (PyProof.Rows.lt_int h:bb (bo prog w) A (eQ .Lt (.int a t) (.int c u)) Q E s)
section
open PySem.SeqAt
open PySem.AutoSeq1 (wpAny_loadPart')
open PySem.MeetsSeq PySem.MeetsSeq2 PySem.MeetsSeq3
def rH (l b:bc)(items o:Array af)(n n2:Nat)(dd xo:Option bc)(sl wg:Array (Option af))(ns B:List Int)(T:IntsAre items.toList ns)(U:IntsAre o.toList B):
  Meets (Builtin.«tuple.__lt__» ⟨[.ref l,.ref b],[]⟩)
   (λ_ R s=>s.heap.get? l=some {cls:=.type "tuple",dict:=dd,data:=.seq items n,slots:=sl}/\s.heap.get? b=some {cls:=.type "tuple",dict:=xo,data:=.seq o n2,slots:=wg}/\
    R (.ok (.ret (.bool (lexLt ns B)))) s):=
 .of_wp λk w A R s h=>by
  obtain⟨C,g,d,E,os⟩:=s;obtain⟨hl,hb,h⟩:=h;have f2:=AutoSeq1.sub_tuple_tuple;have z1:items.size=ns.length:=by rw[<-T.length];simp
  have z2:o.size=B.length:=by rw[<-U.length];simp
  wp_walk using aEy hl,aEy hb,aCx _ (λrest b J=>b.1=none/\J=⟨C,g,d,E,os⟩/\∃(H I:List af) (p r:List Int),rest=H.zip I/\
   IntsAre H p/\IntsAre I r/\p.length+o.size=r.length+items.size/\R (.ok (.ret (.bool (lexLt p r)))) ⟨C,g,d,E,os⟩) _
  case turn=>
   rintro⟨y,x⟩ rest b J ⟨L,rfl,H,I,p,r,i,N,j,f,m⟩;cases N with
   |nil=>rw[List.zip_nil_left]at i;cases i
   |cons a t v=>
    cases j with
    |nil=>rw[List.zip_nil_right]at i;cases i
    |cons c u z=>
     rw[aBY]at i;injection i with O au;injection O with hy hx;subst hy hx;rw[I0]at m;simp only[aAu]at f;obtain⟨e,he,Y⟩:=yW A.in1 ⟨C,g,d,E,os⟩ a t c u;refine aAa (he k w _ _ ?_);cases e with
     |true=>
      rw[ji (Y.mp rfl)]at m
      wp_walk
      exact⟨rfl,rfl,_,_,_,_,au,v,z,by lia,m⟩
     |false=>
      rw[jn (λq=>absurd (Y.mpr q) aAV)]at m;have Q:=zM A.in1 ⟨C,g,d,E,os⟩ a t c u k w
      wp_walk using Q
      exact⟨_,rfl,by simpa using m⟩
  case fin=>
   rintro⟨b1,b2⟩ J ⟨L,rfl,H,I,p,r,i,N,j,f,m⟩;simp only at L;subst L;have hv:lexLt p r=decide (items.size<o.size):=by
    cases N with
    |nil=>
     cases j with
     |nil=>simp only[aAY]at f;rw[Z6];exact(decide_eq_false (by lia)).symm
     |cons c u hw=>simp only[aAY,aAu]at f;rw[M9];exact(decide_eq_true (by lia)).symm
    |cons a t hv=>
     cases j with
     |nil=>simp only[aAY,aAu]at f;rw[C5];exact(decide_eq_false (by lia)).symm
     |cons c u hw=>rw[aBY]at i;cases i
   rw[hv]at m
   wp_walk
   exact⟨_,rfl,by simpa[Builtin.Tuple.tupleCompareSizes]using m⟩
  case h=>exact⟨rfl,rfl,items.toList,o.toList,ns,B,rfl,T,U,by lia,h⟩
end
section
variable{prog:bu} {w:cp} {A:cf} {E:C7} {s:a9}
def lt_tupInts {Q:C7}(o:IsTup s.heap l items)(p:IsTup s.heap b d)(q:IntsAre items.toList ns)(r:IntsAre d.toList c)(t:A.units<dA)(h:Q (.bool (lexLt ns c)) s):bb (bo prog w) A (eQ .Lt (.ref l) (.ref b)) Q E s:=by
 obtain⟨⟨cls,u,e,v⟩,f,g,n,i⟩:=id o;obtain⟨⟨j,y,data2,z⟩,k,m,B,a⟩:=id p;simp only at g i m a;subst g i m a;exact richCompare_meets_room (op:=.Lt) ⟨_,f,rfl⟩ ⟨_,k,rfl⟩ PySem.F.slot_tuple_lt PySem.F.entry_tuple_lt (PySem.F.args_tuple_lt_2 _ _) (rH l b items d n B u y v z ns c q r)
  ⟨f,k,show aDw (lexLt ns c)≠Value.notImplemented/\Q (.bool (lexLt ns c)) s from⟨(λx=>nomatch x),h⟩⟩ t
def cat_tup {Q:C7}(r:IsTup s.heap t vs.toArray)(u:IsTup s.heap b ws.toArray)(g:vs≠[])(v:ws=[]->Q (.ref t) s)(x:ws≠[]->Q (.ref s.heap.objs.size) {s with heap:=s.heap.push {cls:=.type "tuple",data:=.seq (vs++ws).toArray}})(y:vs.length+ws.length<=sizeLine):bb (bo prog w) A (eY .Add (.ref t) (.ref b)) Q E s:=by
 obtain⟨⟨cls,h,data,i⟩,c,j,n,k⟩:=id r;obtain⟨⟨l,m,data2,o⟩,d,p,q,a⟩:=id u;simp only at j k p a;subst j k p a;have e:vs.toArray++ws.toArray=(vs++ws).toArray:=by simp
 by_cases f:ws=[]
 .exact aFF ⟨_,c,rfl⟩ ⟨_,d,rfl⟩ aFs seq_tuple_add PySem.F.slot_tuple_add PySem.F.entry_tuple_add (PySem.F.args_tuple_add_2 _ _)
   (tuple_addW1 t b vs.toArray ws.toArray n q h m i o (by simpa using g) (by simp[f])) ⟨c,d,v f⟩
 .refine aFF ⟨_,c,rfl⟩ ⟨_,d,rfl⟩ aFs seq_tuple_add PySem.F.slot_tuple_add PySem.F.entry_tuple_add (PySem.F.args_tuple_add_2 _ _)
   (tuple_addW2 t b vs.toArray ws.toArray n q h m i o (by simpa using g) (by simpa using f) (by rw[aAp,aAp];exact y)) ⟨c,d,?_⟩
  rw[e];exact x f
def sIx (n d:Nat):Option Int->Nat
 |none=>d
 |some v=>if v<0 then(v+(n:Int)).toNat else min v.toNat n
def uq (n d:Nat):sIx n d none=d:=rfl
def ZJ (n d:Nat)(b:d<=n)(o:Option Int):sIx n d o<=n:=by
 cases o with
 |none=>exact b
 |some v=>
  show(if v<0 then(v+(n:Int)).toNat else min v.toNat n)<=n;by_cases a:v<0
  .rw[ji a];lia
  .rw[jn a];exact Nat.min_le_right _ _
def FO (v:Int)(n d:Nat):(if v<0 then max (v+(n:Int)) 0 else min v (n:Int))=((sIx n d (some v):Nat):Int):=by
 show(if v<0 then max (v+(n:Int)) 0 else min v (n:Int))=(((if v<0 then(v+(n:Int)).toNat else min v.toNat n):Nat):Int);by_cases a:v<0
 .simp only[ji a];lia
 .simp only[jn a];lia
def CC (lo a:Option Int)(n:Nat):aDB lo a 1 (n:Int)=(((sIx n 0 lo:Nat):Int),((sIx n n a:Nat):Int)):=by
 have b:¬((1:Int)<0):=by lia
 unfold aDB;simp only[b,if_false];refine aEQ ?_ ?_
 .cases lo with
  |none=>rfl
  |some v=>exact FO v n 0
 .cases a with
  |none=>rfl
  |some v=>exact FO v n n
def DT (i j:Nat):aCS (i:Int) (j:Int) 1=j-i:=by
 unfold aCS;have a:(1:Int)>0:=by lia
 simp only[a,if_true,Int.ediv_one];split<;>lia
def oI {Q:Option Int->a9->Prop}(p:IsPart v o)(h:Q o s):bb (bo prog w) A (Builtin.Slice.slicePartIndex v) Q E s:=by
 cases p with
 |none=>exact slicePart_none h
 |int i t=>exact slicePart_int h
def lF {sl:bc}{c d:af}{lo a:Option Int}{n:Nat}{Q:Int×Int×Nat->a9->Prop}(f:s.heap.IsSliceOf sl c d .none)(g:IsPart c lo)(i:IsPart d a)
  (h:Q (((sIx n 0 lo:Nat):Int),1,sIx n n a-sIx n 0 lo) s):bb (bo prog w) A (aEK (.ref sl) (pure (n:Int))) Q E s:=by
 obtain⟨os,b,j,e⟩:=id f;unfold aEK Builtin.Slice.sliceFields;refine aAa (aAa<|aCT b e (x:=c) rfl<|aAa<|aCT b e (x:=d) rfl<|aAa<|aCT b e (x:=.none) rfl<|aAb ?_);refine aAa (slicePart_none ?_);show bb _ _ (if((1:Int)==0)=true then _ else _) _ _ s;rw[jn (by decide)];refine aAa (oI g<|aAa<|oI i<|aAa<|aAb ?_);show bb _ _ (match aDB lo a 1 (n:Int)with|(lo,a)=>pure (lo,(1:Int),aCS lo a 1)) _ _ s;rw[CC lo a n];show bb _ _ (pure (((sIx n 0 lo:Nat):Int),(1:Int),aCS ((sIx n 0 lo:Nat):Int) ((sIx n n a:Nat):Int) 1)) _ _ s;rw[DT];exact aAb h
def MI (Y:Array af)(i k:Nat):((aBK k).filterMap λ(m:Nat)=>Y[((i:Int)+(m:Int)*1).toNat]?).toArray=((Y.toList.drop i).take k).toArray:=by
 have e:(λ(m:Nat)=>Y[((i:Int)+(m:Int)*1).toNat]?)=λm=>Y[i+m]?:=by
  funext m
  have:((i:Int)+(m:Int)*1).toNat=i+m:=by lia
  rw[this]
 rw[e];have:=pick_run Y i k;rw[aDl]at this;have a:((λx=>Y[x]?)∘λx=>i+x)=λm=>Y[i+m]?:=rfl;rw[a]at this;rw[this]
def getItem_tuple_cut {t sl:bc}{items:Array af}{g i:af}{lo a:Option Int}{Q:C7}(b:IsTup s.heap t items)(j:s.heap.IsSliceOf sl g i .none)(k:IsPart g lo)(l:IsPart i a)
  (n:¬(sIx items.size 0 lo=0/\sIx items.size items.size a=items.size))
  (h:Q (.ref s.heap.objs.size) {s with heap:=s.heap.push {cls:=.type "tuple",data:=.seq ((items.toList.drop (sIx items.size 0 lo)).take (sIx items.size items.size a-sIx items.size 0 lo)).toArray}})
  (p:items.size<=sizeLine):bb (bo prog w) A (getItem (.ref t) (.ref sl)) Q E s:=by
 have c:sizeOk (.seq ((items.toList.drop<|sIx items.size 0 lo).take (sIx items.size items.size a-sIx items.size 0 lo)).toArray):=by
  show((items.toList.drop<|sIx items.size 0 lo).take (sIx items.size items.size a-sIx items.size 0 lo)).toArray.size<=sizeLine;rw[aAp,aBT,aDF,aBd]
  lia
 have r:sIx items.size items.size a<=items.size:=ZJ _ _ (aAh _) a;obtain⟨os,d,o,u⟩:=id j;have e:s.TypeIs (.ref sl) "slice":=⟨os,d,o⟩;unfold getItem;try with_reducible refine aAP ?_
 first|refine aAa (aAb ?_)|skip
 refine aAa (wpAny_sequenceKey b.typeIs (by decide) ?_);refine aAa (aCA (name:=aDu "__getitem__") b.typeIs aCF
  (aBy aCF b.typeIs entry_tuple_getitem ?_ (args_tuple_getitem _ _)))
 show bb _ _ (aDA (.ref t)>>=_) _ _ s;refine aAa (tupleItemsOf_ b ?_);refine aAa (aDI e ?_);rw[ji (by decide)];refine aAa (lF j k l ?_);have f:¬((((sIx items.size 0 lo:Nat):Int)==0&&(1:Int)==1&&(sIx items.size items.size a-sIx items.size 0 lo)==items.size)=true):=by intro q;rw[aAJ,aAJ]at q;have v:((sIx items.size 0 lo:Nat):Int)=0:=eq_of_beq q.1.1;have x:sIx items.size items.size a-sIx items.size 0 lo=items.size:=eq_of_beq q.2;exact n ⟨by lia,by lia⟩
 show bb _ _ (if(((sIx items.size 0 lo:Nat):Int)==0&&(1:Int)==1&&(sIx items.size items.size a-sIx items.size 0 lo)==items.size)=true then _ else _) _ _ s;rw[jn f,MI];first
  |exact aAa (m:=aCX _) (aBo (aAb ⟨_,rfl,aAb h⟩) c)
  |exact aAa (m:=aCX _) (aBo (aAa<|aAb<|aAb ⟨_,rfl,aAb h⟩) c)
  |exact aAa (aAa (m:=aCX _)<|aBo (aAb<|aAb ⟨_,rfl,aAb h⟩) c)
  |exact aAa (aAa (m:=aCX _)<|aBo (aAb ⟨_,rfl,aAb h⟩) c)
end
end HT
namespace L2
open PySem PySem.Spec PyProof.Rows
abbrev TO:=St->Hp->(Option Int->Hp->Prop)->Prop
def PO (X:Cx)(e:Option cu)(t:TO):Prop:=
 ∀(a:N9) (s:a9) (σ:St) (H:Hp) (Q:Option Int->Hp->Prop),Inv X a σ H s->t σ H Q->
  bb (bo X.prog X.w) X.A (evalPart e X.env) (λu c=>∃o b,Inv X a σ b c/\IsPart u o/\Q o b) X.xe s
def VU:TO:=λ_ H Q=>Q none H
def a0h (t:TE):TO:=λσ H Q=>t σ H λx a=>∃i,x=.int i/\Q (some i) a
section
variable{X:Cx} {e:cu} {te:TE} {lo hi:Option cu} {tl th:TO} {pos p2:Pos}
def WE:PO X none VU:=by intro a s σ H Q I h;rw[evalPart_none];exact aAb ⟨none,H,I,.none,h⟩
def VA (h:PE X e te):PO X (some e) (a0h te):=by intro a s σ H Q I b;rw[evalPart_some];refine C4 (h a s σ H _ I b) λu j ⟨x,c,d,f,g⟩=>?_;obtain⟨i,rfl,q⟩:=g;obtain⟨t,rfl⟩:=f;exact⟨some i,c,d,.int i t,q⟩
def ZD (X:Cx)(r:V->Option Int->Option Int->Hp->VK->Prop):Prop:=
 ∀(a:N9) (s:a9) (σ:St) (H:Hp) (x:V) (v b c:af) (lo hi:Option Int) (d:bc) (Q:VK),Inv X a σ H s->RelV x v->s.heap.IsSliceOf d b c .none->IsPart b lo->IsPart c hi->r x lo hi H Q->
  ∃T id,typeLookup (.type T) "__getitem__"=pure (some<|.builtin id)/\s.TypeIs v T/\bb (bo X.prog X.w) X.A (getItem v<|.ref d) (EP X a σ Q) X.xe s
def ZD.or {r b:V->Option Int->Option Int->Hp->VK->Prop}(h:ZD X r)(h':ZD X b):ZD X (λx lo hi H Q=>r x lo hi H Q\/b x lo hi H Q):=by
 intro a s σ H x v c d lo hi f Q I g i j k q;rcases q with q|q
 .exact h a s σ H x v c d lo hi f Q I g i j k q
 .exact h' a s σ H x v c d lo hi f Q I g i j k q
def tSl (r:V->Option Int->Option Int->Hp->VK->Prop)(te:TE)(tl th:TO):TE:=λσ H Q=>te σ H λx a=>tl σ a λl b=>th σ b λu c=>r x l u c Q
def LN {r:V->Option Int->Option Int->Hp->VK->Prop}(i:ZD X r)(j:PE X e te)(k:PO X lo tl)(m:PO X hi th):PE X (.Subscript e (.Slice lo hi none p2) pos) (tSl r te tl th):=by intro a s σ H Q I h;refine Subscript_ (C4 (j a s σ H _ I h) λv n ⟨x,o,p,t,y⟩=>?_);refine wpAny_Slice (C4 (k a n σ o _ p y) λd z ⟨l,B,C,E,J⟩=>C4 (m a z σ B _ C J) λf c ⟨u,g,L,N,O⟩=>?_);rw[evalPart_none];refine aAb ?_;have U:Inv X a σ g {c with heap:=c.heap.push {cls:=.type "slice",data:=.fields #[d,f,.none]}}:=L.kept (t':=c.toks) λb ob q=>aAc _ q;obtain⟨T,id,Y,ht,hg⟩:=i a {c with heap:=c.heap.push {cls:=.type "slice",data:=.fields #[d,f,.none]}} σ g x v d f l u c.heap.objs.size Q U t (Heap.IsSliceOf.new ..) E N O;show bb (bo X.prog X.w) X.A (subscriptTail e (.Slice lo hi none p2) v<|.ref c.heap.objs.size) (EP X a σ Q) X.xe {c with heap:=c.heap.push {cls:=.type "slice",data:=.fields #[d,f,.none]}};exact tail_any (ops:=[.ref c.heap.objs.size,v]) ht Y hg (by with_unfolding_all rfl)
def yR (Y:List V)(lo hi:Option Int):List V:=(Y.drop<|HT.sIx Y.length 0 lo).take (HT.sIx Y.length Y.length hi-HT.sIx Y.length 0 lo)
def mF (Y:List V)(lo hi:Option Int):(yR Y lo hi).length<=Y.length:=by
 unfold yR;rw[aBT,aDF]
 lia
def a0l (K:ka):V->Option Int->Option Int->Hp->VK->Prop:=λx lo hi H Q=>∃a Y,x=.ref a/\X0 K H a Y/\
 ¬(HT.sIx Y.length 0 lo=0/\HT.sIx Y.length Y.length hi=Y.length)/\∀p,H p=none->Q (.ref p) (upd H p<|.tup (yR Y lo hi))
def ZN:ZD X (a0l X.K):=by
 intro f s σ H x v t u lo hi w Q I j k l m h;obtain⟨a,Y,rfl,n,p,q⟩:=h;cases j;obtain⟨d,r,g,i⟩:=I.tuple n;have c:d.toArray.size=Y.length:=by rw[aAp];exact r.length.symm
 refine⟨"tuple",_,aCF.lookup,g.typeIs,?_⟩;refine HT.getItem_tuple_cut g k l m (by rw[c];exact p) ?_ (by rw[c];exact i);rw[c];refine⟨.ref s.heap.objs.size,_,I.laid (t':=s.toks) (o:=.tup (yR Y lo hi)) (λb y q=>aAc _ q) (aAh _) ?_,rfl,q _ (I.hok.fresh<|aAh _)⟩;exact⟨aAw (mF Y lo hi) i,_,(r.drop<|HT.sIx Y.length 0 lo).take (HT.sIx Y.length Y.length hi-HT.sIx Y.length 0 lo),IsTup.new _ _⟩
def uk (K:ka):R2:=λx y H Q=>∃a b Y c,x=.ref a/\y=.ref b/\X0 K H a Y/\X0 K H b c/\Y≠[]/\Y.length+c.length<=sizeLine/\
 (c=[]->Q (.ref a) H)/\(c≠[]->∀p,H p=none->Q (.ref p) (upd H p<|.tup (Y++c)))
def n4.ac5 (r:n4 Y us):us=[]↔Y=[]:=by
 cases r with
 |nil=>simp
 |cons _ _=>simp
def GG:mK X (eY .Add) (uk X.K):=by intro f s σ H x y v u Q I i j h;obtain⟨a,b,Y,k,rfl,rfl,l,m,n,g,p,r⟩:=h;cases i;cases j;obtain⟨t,d,A,_⟩:=I.tuple l;obtain⟨B,c,p2,_⟩:=I.tuple m;refine HT.cat_tup A p2 (λz=>n (d.ac5.mp z)) (λz=>⟨.ref a,H,I,rfl,p (c.ac5.mp z)⟩) (λz=>?_) (by rw[<-d.length,<-c.length];exact g);refine⟨.ref s.heap.objs.size,_,I.laid (t':=s.toks) (o:=.tup (Y++k)) (λb C q=>aAc _ q) (aAh _) ?_,rfl,r (λw=>z (c.ac5.mpr w)) _ (I.hok.fresh<|aAh _)⟩;exact⟨by rw[aAF];exact g,_,d.append c,IsTup.new _ _⟩
end
def XI (n:Nat)(i:Int):Option Nat:=if 0<=i then(if i<n then some i.toNat else none)else if-(n:Int)<=i then some (i+n).toNat else none
def qP {α:Type}(Y:List α)(i:Int):Option α:=(XI Y.length i).bind λj=>Y[j]?
def VN (h:XI n i=some j):seqIndex? i n=some j/\j<n/\-(n:Int)<=i/\i<n:=by
 unfold XI at h;by_cases b:0<=i
 .rw[ji b]at h;by_cases a:i<n
  .rw[ji a]at h;have e:i.toNat=j:=aAl h;exact⟨by rw[seqIndex_of b a,e],by lia,by lia,a⟩
  .rw[jn a]at h;cases h
 .rw[jn b]at h;by_cases a:-(n:Int)<=i
  .rw[ji a]at h;have e:(i+n).toNat=j:=aAl h;exact⟨by rw[seqIndex_neg (by lia) a,e],by lia,a,by lia⟩
  .rw[jn a]at h;cases h
def FJ {α:Type}{Y:List α}{i:Int}{v:α}(h:qP Y i=some v):∃j,seqIndex? i Y.length=some j/\Y[j]?=some v/\j<Y.length/\-(Y.length:Int)<=i/\i<Y.length:=by
 unfold qP at h;cases e:XI Y.length i with
 |none=>rw[e]at h;cases h
 |some j=>rw[e]at h;obtain⟨a,b,c,d⟩:=VN e;exact⟨j,a,h,b,c,d⟩
def UU (b:cu):Prop:=∀o i,subscripted b false o i=operate [o,i] (getItem o i)
def IxR (X:Cx)(r:R2):Prop:=
 ∀(c a:cu) (b:N9) (s:a9) (σ:St) (H:Hp) (x y:V) (v u:af) (Q:VK),Inv X b σ H s->RelV x v->RelV y u->r x y H Q->
  subscripted a false v u=operate [v,u] (getItem v u)->bb (bo X.prog X.w) X.A (subscriptTail c a v u) (EP X b σ Q) X.xe s
def MtR (X:Cx)(id:String)(r:V->List V->Hp->VK->Prop):Prop:=
 ∀(a:N9) (s:a9) (σ:St) (H:Hp) (x:V) (Y:List V) (v:af) (b:List af) (Q:VK),Inv X a σ H s->RelV x v->n4 Y b->r x Y H Q->
  bb (bo X.prog X.w) X.A (call (.builtin id) (v::b)) (EP X a σ Q) X.xe s
section
variable{X:Cx} {a b:cu} {ta tb:TE} {pos:Pos}
def a2l (K:ka):R2:=λx y H Q=>∃p Y i v,x=.ref p/\y=.int i/\O5 K H p Y/\qP Y i=some v/\Q v H
def a1y (K:ka):R2:=λx y H Q=>∃p Y i v,x=.ref p/\y=.int i/\X0 K H p Y/\qP Y i=some v/\Q v H
def SR:IxR X (a2l X.K):=by
 intro f g c s σ H x y v u Q I C E h o;obtain⟨p,Y,i,z,rfl,rfl,J,L,q⟩:=h;cases C;obtain⟨t,rfl⟩:=E;obtain⟨k,r,l,hz⟩:=I.list J;obtain⟨j,e,N,h3,O,T⟩:=FJ L;obtain⟨w,A,m⟩:=r.get N;have U:=r.length;have hn:=DF;have d:EP X c σ Q w s:=⟨z,H,I,m,q⟩;by_cases B:0<=i
 .have n:i.toNat=j:=by rw[seqIndex_of B T]at e;exact aAl e
  exact item_listR l.isList B (by lia) (by rw[n];simpa using A) d o
 .have n:(i+(k.toArray.size:Int)).toNat=j:=by rw[seqIndex_neg (by lia) O]at e;rw[aAp,<-U];exact aAl e
  exact subscriptTail_builtinR (x:=w) l.isList.typeIs slot_list_getitem.lookup
   (wpAny_getItem_list_neg (Q:=λr s'=>r=w/\EP X c σ Q r s') l.isList (by lia) (by rw[aAp]<;>lia) (by lia) (by rw[n];simpa using A) ⟨rfl,d⟩) o
def oj:IxR X (a1y X.K):=by
 intro d e c s σ H x y v u Q I l m h n;obtain⟨p,Y,i,z,rfl,rfl,o,A,q⟩:=h;cases l;obtain⟨t,rfl⟩:=m;obtain⟨B,r,k,O⟩:=I.tuple o;obtain⟨j,C,E,T,U,h5⟩:=FJ A;obtain⟨w,J,f⟩:=r.get E;have L:=r.length;have hn:=DF;have g:EP X c σ Q w s:=⟨z,H,I,f,q⟩;exact subscriptTail_builtinR (x:=w) k.typeIs aCF.lookup
  (getItem_tuple (j:=j) (Q:=λr N=>r=w/\EP X c σ Q r N) k (by lia) (by lia) (by rw[aAp,<-L];exact C) (by simpa using J) ⟨rfl,g⟩) n
def wR (lo c:Option Int)(n:Nat):(h9 lo c none n).1=((HT.sIx n 0 lo:Nat):Int)/\(h9 lo c none n).2.1=((HT.sIx n n c:Nat):Int)/\(h9 lo c none n).2.2=1:=by
 refine⟨?_,?_,rfl⟩
 .cases lo with
  |none=>simp[h9,HT.sIx]
  |some i=>
   simp only[h9,HT.sIx,Option.getD_none,show(1:Int)>0 by decide,if_true];by_cases h:i<0
   .simp only[h,if_true]<;>lia
   .simp only[h,if_false]<;>lia
 .cases c with
  |none=>simp[h9,HT.sIx]
  |some i=>
   simp only[h9,HT.sIx,Option.getD_none,show(1:Int)>0 by decide,if_true];by_cases h:i<0
   .simp only[h,if_true]<;>lia
   .simp only[h,if_false]<;>lia
def qR (c:List af)(lo d:Option Int):slicePick c.toArray lo d none=((c.drop (HT.sIx c.length 0 lo)).take (HT.sIx c.length c.length d-HT.sIx c.length 0 lo)).toArray:=by obtain⟨e,f,g⟩:=wR lo d c.toArray.size;unfold slicePick;rw[e,f,g];simp only[sliceRange_one,pick_run,aAp]<;>rfl
def yw (K:ka):V->Option Int->Option Int->Hp->VK->Prop:=λx lo c H Q=>∃a Y,x=.ref a/\O5 K H a Y/\∀p,H p=none->Q (.ref p) (upd H p<|.lst (yR Y lo c))
def UP:ZD X (yw X.K):=by intro d s σ H x v n p lo c t Q I f g i j h;obtain⟨a,Y,rfl,k,q⟩:=h;cases f;obtain⟨l,r,e,m⟩:=I.list k;have hlen:=r.length;refine⟨"list",_,slot_list_getitem.lookup,e.isList.typeIs,?_⟩;refine wpAny_getItem_list_slice e.isList g i j .none (by simp) ?_ (by rw[aAp]<;>lia);rw[qR,<-hlen];refine⟨.ref s.heap.objs.size,_,I.laid (t':=s.toks) (o:=.lst (yR Y lo c)) (λb u q=>aAc _ q) (aAh _) ?_,rfl,q _ (I.hok.fresh<|aAh _)⟩;exact⟨aAw (mF Y lo c) m,_,0,(r.drop<|HT.sIx Y.length 0 lo).take (HT.sIx Y.length Y.length c-HT.sIx Y.length 0 lo),aAr _ rfl⟩
def a0a:V->Bool
 |.non=>true
 |.bl _=>true
 |.int _=>true
 |.str _=>true
 |_=>false
def iY:xU X (.builtin "len") (λY H Q=>∃p d,Y=[.ref p]/\(O5 X.K H p d\/X0 X.K H p d)/\Q (.int d.length) H):=by
 intro j s σ H Y m Q I r h;obtain⟨p,d,rfl,e,q⟩:=h;obtain⟨u,rfl,k⟩:=vals1 r;cases k;have n:=DF;rcases e with e|e
 .obtain⟨f,g,i,l⟩:=I.list e;have c:=g.length;exact Calls.call_len_list i.isList (by simp only[aAp]<;>lia) ⟨.int d.length,H,I.tok _,⟨s.toks+1,by rw[aAp,c]⟩,q⟩
 .obtain⟨f,g,i,l⟩:=I.tuple e;have c:=g.length;exact len_tuple i (by simp only[aAp]<;>lia) ⟨.int d.length,H,I.tok _,⟨s.toks+1,by rw[aAp,c]⟩,q⟩
def jH:xU X (.type "list") (λY H Q=>∃p f,Y=[.ref p]/\(O5 X.K H p f\/X0 X.K H p f)/\∀l,H l=none->Q (.ref l) (upd H l (.lst f))):=by
 intro j s σ H Y J Q I r h;obtain⟨p,f,rfl,k,q⟩:=h;obtain⟨u,rfl,E⟩:=vals1 r;cases E;have m:∀(c:List af),n4 f c->f.length<=sizeLine->∀(d:cq) (g:Nat),(∀b C,s.heap.get? b=some C->d.get? b=some C)->
   d.get? s.heap.objs.size=some {cls:=.type "list",dict:=none,data:=.seq c.toArray g,slots:=#[]}->EP X j σ Q (.ref s.heap.objs.size) {s with heap:=d}:=λc i t d g v e=>
  ⟨.ref s.heap.objs.size,_,I.laid (t':=s.toks) v (aAh _) (show ObjOk X.prog X.w _ d _ (.lst f)from⟨t,c,g,i,e⟩),rfl,q _ (I.hok.fresh<|aAh _)⟩
 rcases k with k|k
 .obtain⟨c,i,y,t⟩:=I.list k;have x:=i.length;obtain⟨o,z,A,n,B⟩:=y.isList;exact call_list_seq p (.inl rfl) z A B (λd g v e=>m c i t d g v e) (by simp only[aAp]<;>lia)
 .obtain⟨c,i,y,t⟩:=I.tuple k;have x:=i.length;obtain⟨o,z,A,n,B⟩:=y;exact call_list_seq p (.inr rfl) z A B (λd g v e=>m c i t d g v e) (by simp only[aAp]<;>lia)
def fQ:xU X (.type "tuple") (λY H Q=>∃p f,Y=[.ref p]/\((O5 X.K H p f/\∀l,H l=none->Q (.ref l) (upd H l (.tup f)))\/(X0 X.K H p f/\Q (.ref p) H))):=by
 intro c s σ H Y z Q I r h;obtain⟨p,f,rfl,h⟩:=h;obtain⟨u,rfl,v⟩:=vals1 r;cases v;rcases h with⟨i,q⟩|⟨i,q⟩
 .obtain⟨d,j,k,m⟩:=I.list i;have n:=j.length;refine call_tuple_list k.isList (λg x=>?_) (by simp only[aAp]<;>lia);have t:Inv X c σ H {s with heap:=g}:=I.kept (t':=s.toks) x;have y:Inv X c σ (upd H g.objs.size<|.tup f) {s with heap:=g.push {cls:=.type "tuple",data:=.seq d.toArray}}:=
   t.laid (t':=s.toks) (λb o e=>aAc _ e) (aAh _) (show ObjOk X.prog X.w _ _ _ (.tup f)from⟨m,d,j,IsTup.new _ _⟩)
  exact⟨.ref g.objs.size,_,y,rfl,q _ (t.hok.fresh<|aAh _)⟩
 .obtain⟨d,j,k,m⟩:=I.tuple i;exact call_tuple_same k ⟨.ref p,H,I,rfl,q⟩
def tyV (K : ka) (T : String) (x : V) (H : Hp) : Prop := match x with
  | .str _ => T = "str"
  | .int _ => T = "int"
  | .ref p => (T = "list" ∧ ∃ Y, O5 K H p Y) ∨ (T = "tuple" ∧ ∃ o, K.lookup p = some o ∧ o.cls = .type "tuple" ∧ o.dict = none) ∨
      (T = "dict" ∧ ((∃ N, H p = some (.dK N)) ∨ ∃ N, H p = some (.dT N))) ∨ (T = "set" ∧ ∃ S n, H p = some (.set S n))
  | _ => False
def RG (I:Inv X k σ H s)(r:RelV x v)(g:tyV X.K T x H):
  s.TypeIs v T/\∀a,v=.ref a->∃l,s.heap.get? a=some l/\l.dict=none:=by
 cases x with
 |str z=>obtain⟨t,rfl⟩:=r;cases(show T= "str"from g);exact⟨typeIs_str s z t,λ_ e=>nomatch e⟩
 |int i=>obtain⟨t,rfl⟩:=r;cases(show T= "int"from g);exact⟨typeIs_int s i t,λ_ e=>nomatch e⟩
 |ref p=>
  cases r;rcases g with⟨rfl,Y,q⟩|⟨rfl,o,d,u,h⟩|⟨rfl,d⟩|⟨rfl,S,n,d⟩
  .obtain⟨w,_,m,_⟩:=I.list q;refine⟨m.isList.typeIs,λa e=>?_⟩;cases e;obtain⟨o,n,e,c,h,_⟩:=m;exact⟨o,e,h⟩
  .refine⟨⟨o,I.kIn p o d,u⟩,λa e=>?_⟩;cases e;exact⟨o,I.kIn _ o d,h⟩
  .have z:∃o,s.heap.get? p=some o/\o.ExactDict:=by
    rcases d with⟨N,d⟩|⟨N,d⟩
    .obtain⟨_,_,_,_,o,_,_,e,f,_⟩:=I.hok p _ d;exact⟨o,e,f⟩
    .obtain⟨_,_,_,_,o,_,_,e,f,_⟩:=I.hok p _ d;exact⟨o,e,f⟩
   obtain⟨o,e,f⟩:=z;refine⟨⟨o,e,f.1⟩,λa j=>?_⟩;cases j;exact⟨o,e,f.2.1⟩
  .obtain⟨o,_,_,_,e,f,_⟩:=I.hok p _ d;refine⟨⟨o,e,f.1⟩,λa j=>?_⟩;cases j;exact⟨o,e,f.2.1⟩
 |_=>exact aAi g
def a2c (K:ka)(T:String)(r:V->List V->Hp->VK->Prop)(d:TE):TE:=λσ H Q=>d σ H λx c=>tyV K T x c/\r x [] c Q
def tBM (K:ka)(T:String)(r:V->List V->Hp->VK->Prop)(d:TE)(t:TA):TE:=λσ H Q=>d σ H λx c=>tyV K T x c/\t σ c λY e=>r x Y e Q
variable{o e:cu} {es:List cu} {to:TE} {t:TA} {name:Str} {apos bf:Pos} {T id:String} {r:V->List V->Hp->VK->Prop}
def NH (i:PlainAttrs T)(slot:Slot T name id)(d:typeOf (.builtin id)=pure (.type "method_descriptor"))(j:MtR X id r)(k:PE X o to)
  (l:hV o name X.env (dz o X.env)=dz o X.env:=by rfl) (m:(apos.endLine==bf.line)=true:=by rfl):PE X (.Call (.Attribute o name apos) [] [] bf) (a2c X.K T r to):=by
 intro c s σ H Q I h;refine wpAny_Call_method0_late l m (C4 (k c s σ H _ I h) λv n ⟨x,p,f,g,q,u⟩=>?_);obtain⟨w,y⟩:=RG f g q;exact⟨T,id,i,slot,d,w,y,aFz rfl (PySem.evalArgs_none<|j c n σ p x [] v [] Q f g .nil u)⟩
def YG (j:PlainAttrs T)(slot:Slot T name id)(d:typeOf (.builtin id)=pure (.type "method_descriptor"))(k:MtR X id r)(l:PE X o to)(m:PA X (e::es) t)
  (n:hV o name X.env (dz o X.env)=dz o X.env:=by rfl)
  (p:((cv bf (a5 (e::es) X.env)).all (λx=>!x.1)&&(backToKw bf (keywordEach [] X.env)).all (λx=>x.1.isSome)
   &&decide ((e::es).length+([]:List Keyword).length+(if([]:List Keyword).isEmpty then 0 else 1)<30))=true:=by rfl)
  (q:(apos.endLine==bf.line)=true:=by rfl) (u:a5 (e::es) X.env=(false,dz e X.env)::a5 es X.env:=by rfl) (w:(cv bf (a5 es X.env)).any (·.1)=false:=by rfl):
  PE X (.Call (.Attribute o name apos) (e::es) [] bf) (tBM X.K T r to t):=by
 intro c s σ H Q I h;refine wpAny_Call_method_late n p q rfl (C4 (l c s σ H _ I h) λv y ⟨x,z,f,g,A,B⟩=>?_);obtain⟨C,E⟩:=RG f g A;refine⟨T,id,j,slot,d,C,E,?_⟩;have i:=m bf c y σ z _ f B;rw[u]at i⊢;refine aFz (by show(false||(cv bf<|a5 es X.env).any (·.1))=false;rw[w]<;>rfl) (aFM ?_);exact C4 i λJ L ⟨N,O,U,Y,q2⟩=>k c L σ O x N v J Q U g Y q2
end
def MtM (X:Cx)(id:String)(r:V->List V->Hp->VK->Prop):Prop:=
 ∀(a:N9) (s:a9) (σ:St) (H:Hp) (x:V) (Y:List V) (v:af) (b:List af) (Q:VK),Inv X a σ H s->RelV x v->n4 Y b->r x Y H Q->
  bb (bo X.prog X.w) X.A (call (.builtin id) (v::b)) (EP X a σ Q) X.xe s
theorem n4.one:∀{x:V} {us:List af},n4 [x] us->∃u,us=[u]/\RelV x u
 |_,_,.cons r .nil=>⟨_,rfl,r⟩
theorem n4.zero:∀{us:List af},n4 [] us->us=[]
 |_,.nil=>rfl
def n4.dropLast (h:n4 Y us):n4 Y.dropLast us.dropLast:=by
 induction h with
 |nil=>exact .nil
 |cons r t a=>
  cases t with
  |nil=>exact .nil
  |cons q b=>exact .cons r a
def BD {α:Type}(l:List α):l.eraseIdx (l.length-1)=l.dropLast:=by
 induction l with
 |nil=>rfl
 |cons a r c=>
  cases r with
  |nil=>rfl
  |cons b r=>
   have e:(a::b::r).length-1=((b::r).length-1)+1:=by
    have d:(a::b::r).length=r.length+2:=rfl;have f:(b::r).length=r.length+1:=rfl
    lia
   rw[e,aFn,c]
   all_goals rfl
section
variable{X:Cx} {pins:N9} {σ:St} {H:Hp} {s:a9} {l b:bc} {Y ys zs:List V}
def Inv.af4 {a its':List af}{n:Nat}{f:Array af->Array af}{t':Nat}(I:Inv X pins σ H s)(c:H l=some (.lst Y))
  (e:s.heap.get? l=some {cls:=.type "list",data:=.seq a.toArray n}) (d:f a.toArray=its'.toArray) (g:n4 ys its') (hz:ys.length<=sizeLine):
  Inv X pins σ (upd H l (.lst ys)) {s with heap:=s.heap.update l (aBO f),toks:=t'}:=by
 have q:=PySem.IsL.update e f;rw[d]at q;refine I.write (x:=l) (e:=l) (by rw[c];exact trivial) (.inl rfl) (λj u h i=>(aAD s.heap (aBO f)<|aCi h).trans i) ⟨_,q⟩ ?_;exact⟨hz,its',_,g,q⟩
def Inv.ag4 (I:Inv X pins σ H s)(c:n4 ys a)(hz:ys.length<=sizeLine):
  Inv X pins σ (upd H s.heap.objs.size (.lst ys)) {s with heap:=s.heap.push {cls:=.type "list",data:=.seq a.toArray},toks:=t'}:=
 I.laid (λ_ _ q=>aAc _ q) (aAh _) ⟨hz,a,0,c,aAr _ rfl⟩
def Inv.fresh (I:Inv X pins σ H s):H s.heap.objs.size=none:=I.hok.fresh (aAh _)
def Inv.af5 (I:Inv X pins σ H s)(c:H l=some (.lst Y)):Y.length<=sizeLine/\∃(a:List af) (n:Nat),n4 Y a/\Y.length=a.length/\s.heap.get? l=some {cls:=.type "list",data:=.seq a.toArray n}:=by obtain⟨z,a,n,r,e⟩:=I.hok l _ c;exact⟨z,a,n,r,r.length,e⟩
def ON (h:n<=sizeLine):aCY n=false:=by unfold aCY;exact decide_eq_false (by lia)
end
section
variable{X:Cx}
def UL:V->List V->Hp->VK->Prop:=λx a H Q=>∃l Y y,x=.ref l/\a=[y]/\H l=some (.lst Y)/\Y.length<sizeLine/\Q .non (upd H l<|.lst (Y++[y]))
def tE:MtM X "list.append" UL:=by
 intro b s σ H x i v j Q I d f h;obtain⟨l,Y,y,rfl,rfl,c,k,q⟩:=h;cases d;obtain⟨u,rfl,g⟩:=f.one;obtain⟨z,a,n,r,m,e⟩:=I.af5 c;refine call_meets F.slot_list_append ⟨_,e,rfl⟩ F.entry_list_append (F.args_list_append_2 _ _) (PySem.list_append l a.toArray n u (by rw[aAp];lia)) ⟨e,?_⟩;refine⟨.non,_,I.af4 (its':=a++[u]) c e (by simp) (r.append<|.cons g .nil) ?_,rfl,q⟩;rw[aAF,List.length_singleton]
 lia
def a1v:V->List V->Hp->VK->Prop:=λx a H Q=>∃l Y y,x=.ref l/\a=[]/\H l=some (.lst Y)/\Y[Y.length-1]?=some y/\Q y (upd H l<|.lst Y.dropLast)
def PY:MtM X "list.pop" a1v:=by
 intro d s σ H x p v t Q I g i h;obtain⟨l,Y,y,rfl,rfl,f,j,q⟩:=h;cases g;have b:=i.zero;subst b;obtain⟨z,a,n,r,k,e⟩:=I.af5 f;obtain⟨u,m,o⟩:=r.get j;have c:a.toArray[a.toArray.size-1]?=some u:=by show a.toArray[a.length-1]?=some u;rw[<-aAC,<-k];exact m
 refine call_meets F.slot_list_pop ⟨_,e,rfl⟩ F.entry_list_pop (F.args_list_pop_1 _) (MeetsSeq.list_pop_last l a.toArray n u c (by rw[aAp];lia)) ⟨e,?_⟩;refine⟨y,_,I.af4 (its':=a.dropLast) f e ?_ r.dropLast ?_,o,q⟩
 .show a.toArray.eraseIdxIfInBounds (a.toArray.size-1)=a.dropLast.toArray;rw[aAp,List.eraseIdxIfInBounds_toArray,BD]
 .rw[aFN]
  lia
end
section
variable{prog:bu} {w:cp} {A:cf} {E:C7} {s:a9}
end
section
variable{X:Cx}
end
end L2
namespace Att
open PySem PySem.W PySem.Calls PyProof.Rows
def mY:∀(ns:List Int) (vs:List af),WellAll P h vs (ns.map WData.int)->IntsAre vs ns:=by
 intro ns;induction ns with
 |nil=>intro vs w;rw[aCe]at w;cases w;exact .nil
 |cons n ns c=>
  intro vs w;rw[aAt]at w;cases w with
  |cons a b=>cases a;exact .cons _ _ (c _ b)
def script_of {l:OpenLaw}{n:Nat}(k:l.most=some n){P:Params}{h:cq}{args:List WData}{b:List af}
  (c:l.row.toRowW.claim.pre args=true) (m:WellAll P h b args):
  ∃a vs ns,b=[aCV a]/\args=[WData.list (ns.map WData.int)]/\h.get? a=some {cls:=.type "list",data:=.seq vs.toArray}/\IntsAre vs ns/\ns.length<=n:=by
 have i:WShape.hasAll [] args [.list .int]=true:=(pre_splitW c).1;have j:l.pre.holds [] {args:=args}=true:=(pre_splitW c).2;obtain⟨d,r,rfl,o,p⟩:=hasAllW_cons i;obtain rfl:=hasAllW_nil p;obtain⟨Y,rfl,s⟩:=hasW_list o;obtain⟨ns,rfl⟩:=items_int s;have e:ns.length<=n:=by
  unfold OpenLaw.pre at j;have f:(WTm.not<|.lt (.lit (.int (n:Int))) (.len (.arg 0))).holds [] {args:=[.list (ns.map .int)]}=true:=by have f:=(holds_andW j).1;rw[k]at f;exact f
  have g:=condW_of f (w_not<|w_lt w_lit<|w_len_list<|w_arg rfl);rw[aAj]at g;refine aEm λq=>?_;have t:(n:Int)<((ns.length:Nat):Int):=by lia
  first
   |(rw[decide_eq_true t]at g;exact absurd g (by decide))
   |(simp at g;lia)
 cases m with
 |cons u v=>
  cases v;cases u with
  |list w x=>exact⟨_,_,ns,rfl,rfl,w,mY ns _ x,e⟩
def post_true (l:OpenLaw)(args:List WData):l.row.toRowW.claim.post args (.bool true) args=true:=
 postW_of (r:=l.row.toRowW) (X:=(true==true))
  (show WShape.has [] (.bool true) .bool=true by first|rfl|decide|simp[WShape.has,WShape.arms,WShape.armsAll])
  (show(WTm.eq .res (.lit (.bool true))).value [] {args:=args,res:=some (.bool true),after:=args}=some (.bool (true==true))from w_eq_bool (w_res rfl) w_lit) rfl
section
variable{prog:bu} {w:cp} {A:cf} {E:C7} {s:a9} {K:Frag}
def a2y (h:cq)(L d:bc):List (bc×Obj):=(aBK h.objs.size).filterMap λa=>if a=L\/a=d then none else(h.get? a).map λo=>(a,o)
end
end Att
namespace L2
open PySem PySem.Spec PyProof.Rows
theorem aG:∀{vs:List af} {ns:List Int},IntsAre vs ns->n4 (ns.map V.int) vs
 |_,_,.nil=>.nil
 |_,_,.cons n t h=>.cons ⟨t,rfl⟩ (aG h)
def E6 (s:dm):Arguments:=match s with
 |.FunctionDef _ a _ _ _ _ _ _ _ _=>a
 |_=>{posonlyargs:=[],args:=[],vararg:=none,kwonlyargs:=[],kw_defaults:=[],kwarg:=none,defaults:=[]}
def o6 (s:dm):List dm:=match s with
 |.FunctionDef _ _ b _ _ _ _ _ _ _=>b
 |_=>[]
def c6 (s:dm):ik:=match s with
 |.FunctionDef _ _ _ _ _ _ a _ _ _=>a
 |_=>{kind:=.function,names:=[],isGenerator:=false,isCoroutine:=false}
abbrev rV:OI:=λ_ _ _ _ _ _=>False
abbrev E0:XK:=λ_ _ _=>False
def YB:qN rV X E0:=λ_ _ _ _ _ _ _ h=>h.elim
structure Fun (K:PySem.W.Frag)(x qual:Str)(st:Stmt)(f:Addr)(fd:FuncData):Prop where
 ex:∃(oc:Value) (od:Option Addr) (kV doc pm:Value) (an:Option Addr) (T ct:Value) (osl:Array (Option Value)),
  fd=PySem.W.fnOf x qual (E6 st) (o6 st) (c6 st) .none kV doc pm an T ct/\K.lookup f=some ⟨oc,od,.func fd,osl⟩/\PySem.W.codeIn K T qual=true
 kp:PySem.W.keepIn K (.ref f)=true
section
variable{P:bu} {w:cp} {K:ka} {mg:Y1} {base:cq}
def Fun.ok {x qual:Str}{st:dm}{f:bc}{fd:dC}{N ps:List Str}{k:Nat}{b:Sp}(F:Fun K x qual st f fd)(S:FnScope N ps (c6 st))(len:∀vs H Q E,b vs H Q E->vs.length=ps.length)
  (d:∀(T:af) (A:cf) (a:List Env) (s:a9) (H:Hp) (vs:List V) (Q:VK) (E:XK),Room k (A.deeper (envOfC qual (c6 st) s.heap.objs.size f T))->b vs H Q E->
   ∃t,uA (vG rV P w K mg base N qual (c6 st) f T A a s H E).nox (o6 st) t/\t {nx:=λ_ H'=>Q .non H',rt:=Q} (start N vs) H):FnOk P w K mg base rV (k+1) f fd ps b:=by
 obtain⟨l,m,kV,e,n,o,T,p,g,rfl,lk,i⟩:=F.ex;refine PN lk i S len λA a s H vs Q E j c=>?_;obtain⟨t,h,q⟩:=d T A a s H vs Q E j c;exact⟨t,h.nox,q⟩
def Fun.binds {x qual:Str}{st:dm}{f:bc}{fd:dC}{ps:List Str}(F:Fun K x qual st f fd)
  (h:∀(kV a b:af) (c:Option bc) (T ct:af) (us:List af),us.length=ps.length->bindArgs (PySem.W.fnOf x qual (E6 st) (o6 st) (c6 st) .none kV a b c T ct) ⟨us,[]⟩=pure (ps.zip us)):Binds K fd ps []:=by
 obtain⟨e,g,kV,a,b,c,T,ct,d,rfl,lk,i⟩:=F.ex;exact .all (h kV a b c T ct)
def OM {x qual:Str}{st:dm}{f:bc}{g:af}{h d:Option bc}{b:Array (Option af)}{kV a e T ct:af}(l:K.lookup f=some ⟨g,h,.func (PySem.W.fnOf x qual (E6 st) (o6 st) (c6 st) .none kV a e d T ct),b⟩)
 (c:PySem.W.codeIn K T qual=true) (k:PySem.W.keepIn K (.ref f)=true):Fun K x qual st f (PySem.W.fnOf x qual (E6 st) (o6 st) (c6 st) .none kV a e d T ct):=⟨⟨g,h,kV,a,e,d,T,ct,b,rfl,l,c⟩,k⟩
end
def JD (h:n<=1000):n<sizeLine:=aBN h (by decide)
section
variable{X:Cx}
end
def Same (H H':Hp):Prop:=∀b o,H b=some o->H' b=some o
def Same.refl (H:Hp):Same H H:=λ_ _ h=>h
def Same.trans (a:Same H d)(b:Same d e):Same H e:=λc o h=>b c o (a c o h)
def Same.seq {K:ka}{H H':Hp}{a:bc}{Y:List V}(e:Same H H')(h:O5 K H a Y):O5 K H' a Y:=by
 rcases h with(h|⟨o,h⟩)|h
 .exact .inl (.inl (e _ _ h))
 .exact .inl (.inr ⟨o,e _ _ h⟩)
 .exact .inr h
end L2
namespace DL
open PySem PySem.Spec L2
open PyProof.Rows hiding St
section
inductive D where
 |non|bl (b:Bool)|int (i:Int)|str (x:Str)|tup (Y:List D)|lst (Y:List D)|dct
mutual
def n9:D->Int
 |.int i=>hashInt i
 |.tup Y=>reduceHash (aAN (wX Y))
 |_=>0
def wX:List D->List Int
 |[]=>[]
 |x::Y=>n9 x::wX Y
end
def S8:Nat->D->Bool
 |_,.int _=>true
 |n+1,.tup Y=>Y.all (S8 n)
 |_,_=>false
inductive R (α:Type)where
 |ok (a:α)|ex (e:Str)|bad
def R.bind {α β:Type}:R α->(α->R β)->R β
 |.ok a,f=>f a
 |.ex e,_=>.ex e
 |.bad,_=>.bad
@[simp]def R.aa0 {α β:Type}(a:α)(f:α->R β):(R.ok a).bind f=f a:=rfl
section
variable(K:ka) (H:Hp) (O:bc->Prop)
mutual
inductive Rep:V->D->Prop
 |non:Rep .non .non
 |bl {b:Bool}:Rep (.bl b) (.bl b)
 |int {i:Int}:Rep (.int i) (.int i)
 |str {x:Str}:Rep (.str x) (.str x)
 |tup {a:Addr} {vs:List V} {ds:List D} (h:X0 K H a vs) (r:Reps vs ds):Rep (.ref a) (.tup ds)
 |lst {a:Addr} {vs:List V} {ds:List D} (h:O5 K H a vs) (n:¬O a) (r:Reps vs ds):Rep (.ref a) (.lst ds)
 |dct {a:Addr} {o:Obj} (h:H a=some (.ext λh=>h.get? a=some o)) (x:o.ExactDict) (n:¬O a):Rep (.ref a) .dct
inductive Reps:List V->List D->Prop
 |nil:Reps [] []
 |cons {v:V} {d:D} {vs:List V} {ds:List D} (h:Rep v d) (t:Reps vs ds):Reps (v::vs) (d::ds)
end
end
section
variable{K:ka}
def _root_.L2.Same.tup {a:bc}{Y:List V}(e:Same H H')(h:X0 K H a Y):X0 K H' a Y:=by
 rcases h with(h|⟨o,h⟩)|h
 .exact .inl (.inl (e _ _ h))
 .exact .inl (.inr ⟨o,e _ _ h⟩)
 .exact .inr h
mutual
theorem Rep.mono (e:∀a Y,X0 K H a Y->X0 K H' a Y)(b:∀a Y,¬O a->O5 K H a Y->¬f a/\O5 K H' a Y)(c:∀a φ,¬O a->H a=some (.ext φ)->¬f a/\H' a=some (.ext φ)):∀{v:V} {d:D},Rep K H O v d->Rep K H' f v d
 |_,_,.non=>.non
 |_,_,.bl=>.bl
 |_,_,.int=>.int
 |_,_,.str=>.str
 |_,_,.tup h r=>.tup (e _ _ h) (Reps.mono e b c r)
 |_,_,.lst h n r=>.lst (b _ _ n h).2 (b _ _ n h).1 (Reps.mono e b c r)
 |_,_,.dct h x n=>.dct (c _ _ n h).2 x (c _ _ n h).1
theorem Reps.mono (b:∀a Y,X0 K H a Y->X0 K H' a Y)(c:∀a Y,¬O a->O5 K H a Y->¬d a/\O5 K H' a Y)(e:∀a φ,¬O a->H a=some (.ext φ)->¬d a/\H' a=some (.ext φ)):∀{vs:List V} {ds:List D},Reps K H O vs ds->Reps K H' d vs ds
 |_,_,.nil=>.nil
 |_,_,.cons h t=>.cons (Rep.mono b c e h) (Reps.mono b c e t)
end
def Rep.same (e:Same H H')(r:Rep K H O v d):Rep K H' O v d:=r.mono (λ_ _ h=>e.tup h) (λ_ _ n h=>⟨n,e.seq h⟩) λ_ _ n h=>⟨n,e _ _ h⟩
def Reps.same (e:Same H H')(r:Reps K H O v d):Reps K H' O v d:=r.mono (λ_ _ h=>e.tup h) (λ_ _ n h=>⟨n,e.seq h⟩) λ_ _ n h=>⟨n,e _ _ h⟩
def Rep.sub (e:∀a,b a->O a)(r:Rep K H O v d):Rep K H b v d:=r.mono (λ_ _ h=>h) (λ_ _ n h=>⟨λz=>n (e _ z),h⟩) λ_ _ n h=>⟨λz=>n (e _ z),h⟩
def Reps.sub (e:∀a,b a->O a)(r:Reps K H O v d):Reps K H b v d:=r.mono (λ_ _ h=>h) (λ_ _ n h=>⟨λz=>n (e _ z),h⟩) λ_ _ n h=>⟨λz=>n (e _ z),h⟩
theorem Reps.length:∀{vs:List V} {ds:List D},Reps K H O vs ds->vs.length=ds.length
 |_,_,.nil=>rfl
 |_,_,.cons _ t=>by simp[Reps.length t]
theorem Reps.get:∀{vs:List V} {ds:List D} {i:Nat} {d:D},Reps K H O vs ds->ds[i]?=some d->∃v,vs[i]?=some v/\Rep K H O v d
 |_,_,_,_,.nil,e=>by simp at e
 |_,_,0,_,.cons r _,e=>by simp at e;subst e;exact⟨_,rfl,r⟩
 |_,_,i+1,d,.cons _ t,e=>by obtain⟨u,a,b⟩:=Reps.get (i:=i) (d:=d) t (by simpa using e);exact⟨u,by simpa using a,b⟩
theorem Reps.append:∀{vs ws:List V} {ds es:List D},Reps K H O vs ds->Reps K H O ws es->Reps K H O (vs++ws) (ds++es)
 |_,_,_,_,.nil,s=>s
 |_,_,_,_,.cons r t,s=>.cons r (Reps.append t s)
theorem Reps.take:∀{vs:List V} {ds:List D} (n:Nat),Reps K H O vs ds->Reps K H O (vs.take n) (ds.take n)
 |_,_,0,_=>.nil
 |_,_,_+1,.nil=>.nil
 |_,_,n+1,.cons r t=>.cons r (Reps.take n t)
theorem Reps.drop:∀{vs:List V} {ds:List D} (n:Nat),Reps K H O vs ds->Reps K H O (vs.drop n) (ds.drop n)
 |_,_,0,r=>r
 |_,_,_+1,.nil=>.nil
 |_,_,n+1,.cons _ t=>Reps.drop n t
def Reps.dropLast (r:Reps K H O vs ds):Reps K H O vs.dropLast ds.dropLast:=by rw[aEj,aEj,r.length];exact r.take _
def Reps.snoc (r:Reps K H O vs ds)(h:Rep K H O v d):Reps K H O (vs++[v]) (ds++[d]):=r.append (.cons h .nil)
theorem Reps.ints:∀(ns:List Int),Reps K H O (ns.map V.int) (ns.map D.int)
 |[]=>.nil
 |_::ns=>.cons .int (Reps.ints ns)
theorem Reps.reverse:∀{vs:List V} {ds:List D},Reps K H O vs ds->Reps K H O vs.reverse ds.reverse
 |_,_,.nil=>.nil
 |_,_,.cons r t=>by rw[aAL,aAL];exact(Reps.reverse t).snoc r
end
def Kp (H:Hp)(O:bc->Prop)(H':Hp)(a:bc->Prop):Prop:=∀b o,H b=some o->¬O b->H' b=some o/\¬a b
section
def Kp.refl (H:Hp)(O:bc->Prop):Kp H O H O:=λ_ _ h n=>⟨h,n⟩
def Kp.of (s:Same H H'):Kp H O H' O:=λb o h n=>⟨s b o h,n⟩
def Kp.trans (a:Kp H O H' f)(b:Kp H' f d e):Kp H O d e:=λc o h n=>let⟨g,i⟩:=a c o h n;b c o g i
end
class Tabs where
 tbs:List (Addr×List (Pos×Str))
inductive Sl where
 |no|v (d:D)|o (Y:List D)|x (C:Value)|c (m:List D->R D) (φ:Hp->(Addr->Prop)->Addr->Prop)|d (N:List (D×D))
abbrev Ev:=List Sl
def Mt:HO->Prop
 |.lst _=>True
 |.dK _=>True
 |.dT _=>True
 |.ext _=>True
 |_=>False
def pT (K:ka)(H:Hp)(O:bc->Prop)(es:List DictEntry)(N:List (D×D)):Prop:=
 Paired (λ(e:DictEntry) (p:D×D)=>(∃a,e.key=.ref a/\Rep K H O (.ref a) p.1)/\(∃v,RelV v e.val/\Rep K H O v p.2)/\e.hash=n9 p.1/\S8 7 p.1=true) es N
def OY (a:bc)(o:Obj)(es:List DictEntry):Prop:=(a==sysModules)=false/\o.ExactDict/\∃b c,o.data=.dict b c/\b.toList=es
def HJ:Sl->Prop
 |.o _=>True
 |.d _=>True
 |_=>False
section
variable(K:ka) (Ha H:Hp) (O:bc->Prop)
def gH (x:Option (Option V)):Sl->Prop
 |.no=>True
 |.v d=>∃v,x=some (some v)/\Rep K H O v d
 |.o Y=>∃a b,x=some (some (V.ref a))/\O a/\Ha a=none/\H a=some (.lst b)/\Reps K H O b Y
 |.x C=>∃a o,x=some (some (V.ref a))/\H a=some (.frz o (.own a))/\o.cls=C
 |.c m φ=>∃a,x=some (some (V.ref a))/\∀e f,Kp H O e f->φ e f a
 |.d N=>∃a o g,x=some (some (V.ref a))/\O a/\Ha a=none/\H a=some (.ext λh=>h.get? a=some o)/\OY a o g/\pT K H O g N/\(N.map (·.1)).Nodup
end
variable [Tabs]
def Tb (H:Hp):Prop:=∀p∈Tabs.tbs,H p.1=some (.tbl p.2)
structure EnvOk (K:PySem.W.Frag)(Ha:Hp)(O0:Addr->Prop)(H:Hp)(O:Addr->Prop)(σ:St)(ρ:Ev):Prop where
 len:σ.length=ρ.length
 same:Same Ha H
 sub:∀a,O0 a->O a
 trk:∀a,O a->∃o,H a=some o/\Mt o
 trk0:∀a,O0 a->∃o,Ha a=some o
 tab:Tb H
 slot:∀(i:Nat) (sl:Sl),ρ[i]?=some sl->gH K Ha H O σ[i]? sl
 inj:∀(i j:Nat) (x y:Sl) (a:Addr),ρ[i]?=some x->ρ[j]?=some y->HJ x->HJ y->σ[i]?=some (some (V.ref a))->σ[j]?=some (some (V.ref a))->i=j
section
variable{K:ka} {O0 O O':bc->Prop}
def Tb.same (h:Tb H)(s:Same H H'):Tb H':=λp a=>s _ _ (h p a)
def EnvOk.val (E:EnvOk K a O0 H O σ ρ)(i:Nat)(d:D)(h:ρ[i]?=some (Sl.v d)):∃v,σ[i]?=some (some v)/\Rep K H O v d:=E.slot i _ h
def EnvOk.own (E:EnvOk K b O0 H O σ ρ)(i:Nat)(Y:List D)(h:ρ[i]?=some (Sl.o Y)):∃a vs,σ[i]?=some (some (V.ref a))/\O a/\b a=none/\H a=some (.lst vs)/\Reps K H O vs Y:=E.slot i _ h
def EnvOk.exc (E:EnvOk K b O0 H O σ ρ)(i:Nat)(C:af)(h:ρ[i]?=some (Sl.x C)):∃a o,σ[i]?=some (some (V.ref a))/\H a=some (.frz o (.own a))/\o.cls=C:=E.slot i _ h
def pT.mono (f:∀{v:V} {d:D},Rep K H O v d->Rep K H' O' v d):∀{N:List (D×D)},pT K H O es N->pT K H' O' es N:=λ{_} r=>Paired.af3 r λ_ _ ⟨⟨v,a,b⟩,⟨w,c,e⟩,g⟩=>⟨⟨v,a,f b⟩,⟨w,c,f e⟩,g⟩
def gH.move (h:gH K y H O x sl)(i:∀a Y,X0 K H a Y->X0 K H' a Y)(j:∀a Y,¬O a->O5 K H a Y->¬O' a/\O5 K H' a Y)(z:∀a o u,H a=some (.frz o u)->H' a=some (.frz o u))(l:Kp H O H' O')(w:HJ sl->∀a o,x=some (some (V.ref a))->O a->H a=some o->O' a/\H' a=some o):gH K y H' O' x sl:=by
 have p:∀a φ,¬O a->H a=some (.ext φ)->¬O' a/\H' a=some (.ext φ):=λa φ n h=>⟨(l a _ h n).2,(l a _ h n).1⟩;cases sl with
 |no=>trivial
 |v d=>obtain⟨v,b,e⟩:=h;exact⟨v,b,e.mono i j p⟩
 |o Y=>obtain⟨a,A,b,e,f,q,s⟩:=h;obtain⟨g,t⟩:=w trivial a _ b e q;exact⟨a,A,b,g,f,t,s.mono i j p⟩
 |x C=>obtain⟨a,o,b,e,f⟩:=h;exact⟨a,o,b,z _ _ _ e,f⟩
 |c m φ=>obtain⟨a,b,e⟩:=h;exact⟨a,b,λB E k=>e B E (l.trans k)⟩
 |d N=>obtain⟨a,o,I,b,e,f,q,s,g⟩:=h;obtain⟨t,J⟩:=w trivial a _ b e q;exact⟨a,o,I,b,t,f,J,s,g.1.mono λr=>r.mono i j p,g.2⟩
def gH.grow (h:gH K a H O x sl)(e:Same H H'):gH K a H' O x sl:=
 h.move (λ_ _ q=>e.tup q) (λ_ _ n q=>⟨n,e.seq q⟩) (λ_ _ _ q=>e _ _ q) (Kp.of e) λ_ _ _ _ b c=>⟨b,e _ _ c⟩
def EnvOk.grow (E:EnvOk K b O0 H O σ ρ)(e:Same H H'):EnvOk K b O0 H' O σ ρ where
 len:=E.len
 same:=E.same.trans e
 sub:=E.sub
 trk:=λa h=>let⟨o,q,m⟩:=E.trk a h;⟨o,e a o q,m⟩
 trk0:=E.trk0
 tab:=E.tab.same e
 slot:=λi c h=>(E.slot i c h).grow e
 inj:=E.inj
def EnvOk.fresh (E:EnvOk K a O0 H O σ ρ)(h:H p=none):¬O p:=λz=>by obtain⟨o,q,_⟩:=E.trk p z;rw[h]at q;cases q
def v6 {α:Type}{l:List α}{i j:Nat}{x:α}(h:i≠j):(l.set i x)[j]?=l[j]?:=aCy h
def A9 {α:Type}{l:List α}{i:Nat}{x y:α}(h:(l.set i x)[i]?=some y):y=x/\i<l.length:=by
 have a:i<l.length:=by have:=(aAB.mp h).1;simpa using this
 rw[aBj a]at h;exact⟨(aAl h).symm,a⟩
def EnvOk.put (E:EnvOk K d O0 H O σ ρ){v:Option V}{sl:Sl}(i:Nat)(no:¬HJ sl)(r:gH K d H O (some v) sl):EnvOk K d O0 H O (σ.set i v) (ρ.set i sl)where
 len:=by simpa using E.len
 same:=E.same
 sub:=E.sub
 trk:=E.trk
 trk0:=E.trk0
 tab:=E.tab
 slot:=λj s h=>by
  by_cases f:i=j
  .subst f;obtain⟨e,t⟩:=A9 h;subst e;rw[aBj (by rw[E.len];exact t)];exact r
  .rw[v6 f]at h⊢;exact E.slot j s h
 inj:=λj k x y a b c g m n p=>by
  have ne:∀(l:Nat) (z:Sl),(ρ.set i sl)[l]?=some z->HJ z->i≠l:=λl z q o e=>by subst e;obtain⟨e,_⟩:=A9 q;subst e;exact no o
  have u:=ne j x b g;have w:=ne k y c m;rw[v6 u]at b n;rw[v6 w]at c p;exact E.inj j k x y a b c g m n p
def EnvOk.set (E:EnvOk K a O0 H O σ ρ)(i:Nat)(r:Rep K H O v d):EnvOk K a O0 H O (σ.set i (some v)) (ρ.set i (.v d)):=E.put i (λz=>z) ⟨v,rfl,r⟩
def gH.at_ (h:gH K g H O x sl)(o:HJ sl):∃a u,x=some (some (V.ref a))/\O a/\g a=none/\H a=some u/\Mt u:=by
 cases sl with
 |o Y=>obtain⟨a,i,b,c,e,f,_⟩:=h;exact⟨a,_,b,c,e,f,trivial⟩
 |d N=>obtain⟨a,u,j,b,c,e,f,_⟩:=h;exact⟨a,_,b,c,e,f,trivial⟩
 |_=>exact o.elim
def EnvOk.af7 (E:EnvOk K p O0 H O σ ρ){a:bc}{sl:Sl}(i:Nat)(t:∀(j:Nat) (y:Sl),i≠j->ρ[j]?=some y->HJ y->σ[j]?≠some (some (V.ref a)))(r:gH K p H O (some (some (V.ref a))) sl):
  EnvOk K p O0 H O (σ.set i (some (V.ref a))) (ρ.set i sl)where
 len:=by simpa using E.len
 same:=E.same
 sub:=E.sub
 trk:=E.trk
 trk0:=E.trk0
 tab:=E.tab
 slot:=λj s h=>by
  by_cases c:i=j
  .subst c;obtain⟨e,w⟩:=A9 h;subst e;rw[aBj (by rw[E.len];exact w)];exact r
  .rw[v6 c]at h⊢;exact E.slot j s h
 inj:=λj k x y b m n u v f g=>by
  have at_:∀(l:Nat),i=l->(σ.set i<|some<|V.ref a)[l]?=some (some<|V.ref b)->b=a:=λl e q=>by subst e;obtain⟨e,_⟩:=A9 q;injection e with e;injection e
  by_cases c:i=j
  .by_cases d:i=k
   .exact c.symm.trans d
   .exfalso;have o:=at_ j c f;subst o;rw[v6 d]at n g;exact t k y d n v g
  .by_cases d:i=k
   .exfalso;have o:=at_ k d g;subst o;rw[v6 c]at m f;exact t j x c m u f
   .rw[v6 c]at m f;rw[v6 d]at n g;exact E.inj j k x y b m n u v f g
def j3 (h:H p=none)(o:HO):Same H (upd H p o):=λb u q=>by rw[k7 (t5 q h)];exact q
def EnvOk.ab8 (E:EnvOk K d O0 H O σ ρ)(h:H a=none)(f:K.lookup a=none)(m:Mt u):EnvOk K d O0 (upd H a u) (λb=>O b\/b=a) σ ρ:=by
 have s:=j3 h u;have ne:∀b Y,O5 K H b Y->b≠a:=λb Y q z=>by
  subst z;rcases q with(q|⟨o,q⟩)|⟨o,_,_,q,_⟩
  .rw[h]at q;cases q
  .rw[h]at q;cases q
  .rw[f]at q;cases q
 refine⟨E.len,E.same.trans s,λb z=>.inl (E.sub b z),λb z=>?_,E.trk0,E.tab.same s,λi g e=>?_,E.inj⟩
 .rcases z with z|z
  .obtain⟨o,q,m⟩:=E.trk b z;exact⟨o,s b o q,m⟩
  .subst z;exact⟨_,j2,m⟩
 .exact(E.slot i g e).move (λ_ _ q=>s.tup q) (λb Y n q=>⟨λz=>z.elim n (ne b Y q),s.seq q⟩) (λ_ _ _ q=>s _ _ q) (λb o c n=>⟨s b o c,λz=>z.elim n λe=>by subst e;rw[h]at c;cases c⟩) λ_ b o _ j k=>⟨.inl j,s _ _ k⟩
def gq (h:H a=none)(c:K.lookup a=none)(q:O5 K H b Y):b≠a:=λz=>by
 subst z;rcases q with(q|⟨o,q⟩)|⟨o,_,_,q,_⟩
 .rw[h]at q;cases q
 .rw[h]at q;cases q
 .rw[c]at q;cases q
def Reps.ab8 (h:H a=none)(c:K.lookup a=none)(r:Reps K H O v d):Reps K (upd H a u) (λb=>O b\/b=a) v d:=
 r.mono (λ_ _ q=>(j3 h u).tup q) (λb Y n q=>⟨λz=>z.elim n (gq h c q),(j3 h u).seq q⟩) λb φ n q=>⟨λz=>z.elim n (t5 q h),j3 h u _ _ q⟩
def EnvOk.ae5 (E:EnvOk K d O0 H O σ ρ)(i:Nat)(h:H a=none)(g:K.lookup a=none)(m:Mt u)(r:d a=none->gH K d (upd H a u) (λb=>O b\/b=a) (some (some (V.ref a))) sl):
  EnvOk K d O0 (upd H a u) (λb=>O b\/b=a) (σ.set i (some (.ref a))) (ρ.set i sl):=by
 have k:d a=none:=by
  cases e:d a with
  |none=>rfl
  |some o=>have:=E.same a o e;rw[h]at this;cases this
 refine(E.ab8 h g m).af7 i (λj y _ e o q=>?_) (r k);obtain⟨b,w,c,_,_,f,_⟩:=(E.slot j y e).at_ o;rw[q]at c;injection c with c;injection c with c;injection c with c;subst c;rw[h]at f;cases f
def vX (h:H a=some u)(m:Mt u)(q:X0 K H b Y):X0 K (upd H a u') b Y:=by
 have ne:∀w,H b=some w->¬Mt w->b≠a:=λw e n z=>by subst z;rw[h]at e;cases e;exact n m
 rcases q with(q|⟨o,q⟩)|q
 .exact .inl (.inl (by rw[k7 (ne _ q λz=>z)];exact q))
 .exact .inl (.inr ⟨o,by rw[k7 (ne _ q λz=>z)];exact q⟩)
 .exact .inr q
def uK (c:O a)(n:¬O b)(q:O5 K H b Y):O5 K (upd H a u') b Y:=by
 have ne:b≠a:=λz=>by subst z;exact n c
 rcases q with(q|⟨o,q⟩)|q
 .exact .inl (.inl (by rw[k7 ne];exact q))
 .exact .inl (.inr ⟨o,by rw[k7 ne];exact q⟩)
 .exact .inr q
def Rep.upd (h:H a=some u)(m:Mt u)(c:O a)(r:Rep K H O v d):Rep K (upd H a u') O v d:=r.mono (λ_ _ q=>vX h m q) (λ_ _ n q=>⟨n,uK c n q⟩) λb _ n q=>⟨n,by rw[k7 (λz=>n (by rw[z];exact c))];exact q⟩
def Reps.upd (h:H a=some u)(m:Mt u)(c:O a)(r:Reps K H O v d):Reps K (upd H a u') O v d:=r.mono (λ_ _ q=>vX h m q) (λ_ _ n q=>⟨n,uK c n q⟩) λb _ n q=>⟨n,by rw[k7 (λz=>n (by rw[z];exact c))];exact q⟩
def EnvOk.ad9 {i:Nat}{sl sl':Sl}{a:bc}{u u':HO}(E:EnvOk K g O0 H O σ ρ)(e:ρ[i]?=some sl)(t:HJ sl)(v:σ[i]?=some (some (V.ref a)))(A:H a=some u)(m':Mt u')(ow':HJ sl')
  (r:O a->g a=none->Mt u->gH K g (upd H a u') O (some (some (V.ref a))) sl'):EnvOk K g O0 (upd H a u') O σ (ρ.set i sl')/\Kp H O (upd H a u') O:=by
 obtain⟨b,w,c,B,T,U,m⟩:=(E.slot i sl e).at_ t;rw[v]at c;injection c with c;injection c with c;injection c with c;subst c;rw[A]at U;cases U;have Y:Kp H O (upd H a u') O:=λb o f n=>⟨by rw[k7 (λz=>by subst z;exact n B)];exact f,n⟩;have nf:∀b w,H b=some w->¬Mt w->upd H a u' b=some w:=λb w q n=>by rw[k7 (λz=>by subst z;rw[A]at q;cases q;exact n m)];exact q
 refine⟨⟨by simpa using E.len,λb o q=>?_,E.sub,λb z=>?_,E.trk0,λp hp=>nf _ _ (E.tab p hp) λz=>z,λj s h=>?_,λj k x y b C I o1 o2 J q4=>?_⟩,Y⟩
 .rw[k7 (λz=>by subst z;rw[T]at q;cases q)];exact E.same b o q
 .by_cases f:b=a
  .subst f;exact⟨_,j2,m'⟩
  .obtain⟨o,q,m⟩:=E.trk b z;exact⟨o,by rw[k7 f];exact q,m⟩
 .by_cases L:i=j
  .subst L;obtain⟨e',_⟩:=A9 h;subst e';rw[v];exact r B T m
  .rw[v6 L]at h;refine(E.slot j s h).move (λ_ _ q=>vX A m q) (λ_ _ n q=>⟨n,uK B n q⟩) (λb o w q=>nf _ _ q λz=>z) Y λo b w C I J=>⟨I,?_⟩;rw[k7 (λz=>by subst z;exact L (E.inj i j sl s b e h t o v C))];exact J
 .have d:∀l z,(ρ.set i sl')[l]?=some z->HJ z->∃z',ρ[l]?=some z'/\HJ z':=λl z q o=>by
   by_cases hl:i=l
   .subst hl;exact⟨sl,e,t⟩
   .rw[v6 hl]at q;exact⟨z,q,o⟩
  obtain⟨x',u1,N⟩:=d j x C o1;obtain⟨y',u2,Q⟩:=d k y I o2;exact E.inj j k x' y' b u1 u2 N Q J q4
def EnvOk.af0 {i:Nat}{sl sl':Sl}{a:bc}(E:EnvOk K u O0 H O σ ρ)(e:ρ[i]?=some sl)(v:HJ sl)(l:σ[i]?=some (some (V.ref a)))(no:¬HJ sl')(r:gH K u H (λb=>O b/\b≠a) (some (some (V.ref a))) sl'):
  EnvOk K u O0 H (λb=>O b/\b≠a) σ (ρ.set i sl'):=by
 obtain⟨b,w,c,Q,C,T,m⟩:=(E.slot i sl e).at_ v;rw[l]at c;injection c with c;injection c with c;injection c with c;subst c;have sub:∀b,(O b/\b≠a)->O b:=λb z=>z.1;refine⟨by simpa using E.len,E.same,λb z=>⟨E.sub b z,λq=>?_⟩,λb z=>E.trk b z.1,E.trk0,E.tab,λj s h=>?_,λj k x y b d f A B p I=>?_⟩
 .subst q;obtain⟨o,q⟩:=E.trk0 b z;rw[C]at q;cases q
 .by_cases t:i=j
  .subst t;obtain⟨g,_⟩:=A9 h;subst g;rw[l];exact r
  .rw[v6 t]at h;refine(E.slot j s h).move (λ_ _ q=>q) (λ_ _ n q=>⟨λz=>n z.1,q⟩) (λ_ _ _ q=>q) (λb o J n=>⟨J,λz=>n z.1⟩) λo b w d f p=>⟨⟨f,λz=>?_⟩,p⟩;subst z;exact t (E.inj i j sl s b e h v o l d)
 .have L:i≠j:=λz=>by subst z;obtain⟨g,_⟩:=A9 d;subst g;exact no A
  have N:i≠k:=λz=>by subst z;obtain⟨g,_⟩:=A9 f;subst g;exact no B
  rw[v6 L]at d;rw[v6 N]at f;exact E.inj j k x y b d f A B p I
end
def XW (X:Cx)(e:Str)(H:Hp):Prop:=False
def RC (X:Cx)(H:Hp)(O:bc->Prop)(r:R D)(Q:VK):Prop:=match r with
 |.ok d=>∀v a,Same H a->Rep X.K a O v d->Q v a
 |.ex e=>∀a,Same H a->XW X e a
 |.bad=>False
def A7 (K:ka)(H:Hp)(O:bc->Prop)(v:V)(d:D):Prop:=Rep K H O v d\/∃a b c,v=.ref a/\d=.lst c/\O5 K H a b/\Reps K H O b c
def LG (X:Cx)(H:Hp)(O:bc->Prop)(r:R D)(Q:VK):Prop:=match r with
 |.ok d=>∀v a,Same H a->A7 X.K a O v d->Q v a
 |.ex e=>∀a,Same H a->XW X e a
 |.bad=>False
def tN (X:Cx)(H:Hp)(r:R Bool)(Q:Bool->Hp->Prop):Prop:=match r with
 |.ok b=>∀a,Same H a->Q b a
 |.ex e=>∀a,Same H a->XW X e a
 |.bad=>False
def JZ (X:Cx)(H:Hp)(O:bc->Prop)(r:R (List D))(Q:List V->Hp->Prop):Prop:=match r with
 |.ok c=>∀b a,Same H a->Reps X.K a O b c->Q b a
 |.ex e=>∀a,Same H a->XW X e a
 |.bad=>False
def QL (X:Cx)(H:Hp)(O:bc->Prop)(r:R (List D))(Q:List V->Hp->Prop):Prop:=match r with
 |.ok c=>∀b a,Same H a->Paired (A7 X.K a O) b c->Q b a
 |.ex e=>∀a,Same H a->XW X e a
 |.bad=>False
def tD (X:Cx)(f:Ev->R D):TE:=λσ H Q=>∃a b O ρ,EnvOk X.K a b H O σ ρ/\RC X H O (f ρ) Q
def tDB (X:Cx)(f:Ev->R D):TE:=λσ H Q=>∃a b O ρ,EnvOk X.K a b H O σ ρ/\LG X H O (f ρ) Q
def tDT (X:Cx)(f:Ev->R Bool):TT:=λσ H Q=>∃a b O ρ,EnvOk X.K a b H O σ ρ/\tN X H (f ρ) Q
def tDs (X:Cx)(f:Ev->R (List D)):TA:=λσ H Q=>∃a b O ρ,EnvOk X.K a b H O σ ρ/\JZ X H O (f ρ) Q
def a2p (X:Cx)(f:Ev->R (List D)):TA:=λσ H Q=>∃a b O ρ,EnvOk X.K a b H O σ ρ/\QL X H O (f ρ) Q
def PD (X:Cx)(e:cu)(f:Ev->R D):Prop:=PE X e (tD X f)
def PB (X:Cx)(e:cu)(f:Ev->R D):Prop:=PE X e (tDB X f)
def CP (X:Cx)(e:cu)(f:Ev->R Bool):Prop:=PT X e (tDT X f)
def xF (X:Cx)(es:List cu)(f:Ev->R (List D)):Prop:=PA X es (tDs X f)
def ZE (X:Cx)(es:List cu)(f:Ev->R (List D)):Prop:=PA X es (a2p X f)
def KM {r:Hp->(bc->Prop)->Ev->VK->Prop}(h:PE X e t)(i:∀σ H Q a b O ρ,EnvOk X.K a b H O σ ρ->r H O ρ Q->t σ H Q):PE X e λσ H Q=>∃a b O ρ,EnvOk X.K a b H O σ ρ/\r H O ρ Q:=λc s σ H Q I q=>h c s σ H Q I (let⟨a,b,O,ρ,E,q⟩:=q;i σ H Q a b O ρ E q)
def ptI {r:Hp->(bc->Prop)->Ev->(Bool->Hp->Prop)->Prop}(h:PT X e t)(i:∀σ H Q a b O ρ,EnvOk X.K a b H O σ ρ->r H O ρ Q->t σ H Q):PT X e λσ H Q=>∃a b O ρ,EnvOk X.K a b H O σ ρ/\r H O ρ Q:=λc s σ H Q I q=>h c s σ H Q I (let⟨a,b,O,ρ,E,q⟩:=q;i σ H Q a b O ρ E q)
def paI {r:Hp->(bc->Prop)->Ev->(List V->Hp->Prop)->Prop}(h:PA X es t)(i:∀σ H Q a b O ρ,EnvOk X.K a b H O σ ρ->r H O ρ Q->t σ H Q):PA X es λσ H Q=>∃a b O ρ,EnvOk X.K a b H O σ ρ/\r H O ρ Q:=λd c s σ H Q I q=>h d c s σ H Q I (let⟨a,b,O,ρ,E,q⟩:=q;i σ H Q a b O ρ E q)
def rR {β:Type}{r:Hp->(bc->Prop)->Ev->β->Prop}{G:List (bc×Obj)->a9->St->Hp->β->Prop}(h:∀a s σ H Q,Inv X a σ H s->∀b c O ρ,EnvOk X.K b c H O σ ρ->r H O ρ Q->G a s σ H Q)(a s σ H Q)(I:Inv X a σ H s)(q:∃b c O ρ,EnvOk X.K b c H O σ ρ/\r H O ρ Q):G a s σ H Q:=let⟨b,c,O,ρ,E,q⟩:=q;h a s σ H Q I b c O ρ E q
def PD.pb (h:PD X e f):PB X e f:=KM h λσ H Q a b O ρ E q=>⟨a,b,O,ρ,E,by
 unfold RC LG at*
 cases e:f ρ with
 |ok d=>rw[e]at q;exactλv c s r=>q v c s (.inl r)
 |ex x=>rw[e]at q;exact q
 |bad=>rw[e]at q;exact q⟩
def RC.seq {O:bc->Prop}(h:RC X H O (r.bind g) Q):
  RC X H O r λv b=>∃d,r=.ok d/\Same H b/\Rep X.K b O v d/\RC X b O (g d) Q:=by
 cases r with
 |ok d=>
  intro v b c j;refine⟨d,rfl,c,j,?_⟩;have a:RC X H O (g d) Q:=h;cases e:g d with
  |ok l=>rw[e]at a;exactλw f i k=>a w f (c.trans i) k
  |ex x=>rw[e]at a;exactλf i=>a f (c.trans i)
  |bad=>rw[e]at a;exact a
 |ex x=>exact h
 |bad=>exact h
def LG.seq {O:bc->Prop}(h:RC X H O (r.bind g) Q):
  LG X H O r λv b=>∃d,r=.ok d/\Same H b/\A7 X.K b O v d/\RC X b O (g d) Q:=by
 cases r with
 |ok d=>
  intro v b c j;refine⟨d,rfl,c,j,?_⟩;have a:RC X H O (g d) Q:=h;cases e:g d with
  |ok l=>rw[e]at a;exactλw f i k=>a w f (c.trans i) k
  |ex x=>rw[e]at a;exactλf i=>a f (c.trans i)
  |bad=>rw[e]at a;exact a
 |ex x=>exact h
 |bad=>exact h
def RC.grow {O:bc->Prop}(h:RC X H O r Q)(c:Same H e):RC X e O r Q:=by
 cases r with
 |ok d=>exactλw a b f=>h w a (c.trans b) f
 |ex x=>exactλa b=>h a (c.trans b)
 |bad=>exact h
end
section
variable [Tabs]
section
variable{X:Cx}
def A7.same (e:Same H H')(r:A7 X.K H O v d):A7 X.K H' O v d:=by
 rcases r with r|⟨a,b,c,f,g,h,i⟩
 .exact .inl (r.same e)
 .exact .inr ⟨a,b,c,f,g,e.seq h,i.same e⟩
def A7.aa4 {K:ka}{ds:List D}(r:A7 K H O v (.lst ds)):∃a vs,v=.ref a/\O5 K H a vs/\Reps K H O vs ds:=by
 rcases r with r|⟨a,vs,f,c,b,d,e⟩
 .cases r with|lst h n r=>exact⟨_,_,rfl,h,r⟩
 .injection b with b;subst b;exact⟨a,vs,c,d,e⟩
def A7.af8 {K:ka}(r:A7 K H O v .dct):∃a o,v=.ref a/\H a=some (.ext λh=>h.get? a=some o)/\o.ExactDict:=by
 rcases r with r|⟨a,c,d,e,b,f,g⟩
 .cases r with|dct h x n=>exact⟨_,_,rfl,h,x⟩
 .cases b
def A7.tupI {K:ka}{ds:List D}(r:A7 K H O v (.tup ds)):∃a vs,v=.ref a/\X0 K H a vs/\Reps K H O vs ds:=by
 rcases r with r|⟨a,vs,c,d,b,e,f⟩
 .cases r with|tup h r=>exact⟨_,_,rfl,h,r⟩
 .cases b
def A7.aa7 {K:ka}{i:Int}(r:A7 K H O v (.int i)):v=.int i:=by
 rcases r with r|⟨a,c,d,e,b,f,g⟩
 .cases r;rfl
 .cases b
def A7.blI {K:ka}{i:Bool}(r:A7 K H O v (.bl i)):v=.bl i:=by
 rcases r with r|⟨a,c,d,e,b,f,g⟩
 .cases r;rfl
 .cases b
def A7.ac2 {K:ka}(r:A7 K H O v .non):v=.non:=by
 rcases r with r|⟨a,c,d,e,b,f,g⟩
 .cases r;rfl
 .cases b
def A7.ac4 {K:ka}{i:Str}(r:A7 K H O v (.str i)):v=.str i:=by
 rcases r with r|⟨a,c,d,e,b,f,g⟩
 .cases r;rfl
 .cases b
end
def dE (i:Nat)(ρ:Ev):R D:=match ρ[i]? with
 |some (.v d)=>.ok d
 |_=>.bad
def zG (i:Nat)(ρ:Ev):R D:=match ρ[i]? with
 |some (.v d)=>.ok d
 |some (.o Y)=>.ok (.lst Y)
 |_=>.bad
section
def c8 (i:Nat)(a:X.N[i]?=some x:=by rfl)(b:xH X.env.scope x:=by first|exact aCG rfl|exact aBL (aCG rfl)|exact aBL (aBL rfl))(f:(x==kb)=false:=by decide)(g:(x==kc)=false:=by decide):PD X (.Name x pos) (dE i):=KM (S1 a b f g) λσ H Q l n O ρ E q=>by
 unfold dE at q;cases e:ρ[i]? with
 |none=>rw[e]at q;exact q.elim
 |some h=>
  rw[e]at q;cases h with
  |no=>exact q.elim
  |x C=>exact q.elim
  |c m φ=>exact q.elim
  |d N=>exact q.elim
  |o Y=>exact q.elim
  |v d=>obtain⟨v,j,k⟩:=E.val i d e;exact⟨v,j,q v H (Same.refl H) k⟩
def b9 (i:Nat)(g:X.N[i]?=some x:=by rfl)(h:xH X.env.scope x:=by first|exact aCG rfl|exact aBL (aCG rfl)|exact aBL (aBL rfl))(j:(x==kb)=false:=by decide)(k:(x==kc)=false:=by decide):PB X (.Name x pos) (zG i):=KM (S1 g h j k) λσ H Q s t O ρ E q=>by
 unfold zG at q;cases e:ρ[i]? with
 |none=>rw[e]at q;exact q.elim
 |some l=>
  rw[e]at q;cases l with
  |no=>exact q.elim
  |x C=>exact q.elim
  |c m φ=>exact q.elim
  |d N=>exact q.elim
  |o Y=>obtain⟨a,n,b,f,u,p,r⟩:=E.own i Y e;exact⟨_,b,q _ H (Same.refl H) (.inr ⟨a,n,Y,rfl,rfl,O5.of p,r⟩)⟩
  |v d=>obtain⟨v,b,f⟩:=E.val i d e;exact⟨v,b,q v H (Same.refl H) (.inl f)⟩
def TM (d:D)(_:Ev):R D:=.ok d
def pN (h:PE X e (tC v))(r:∀H O,Rep X.K H O v d):PD X e (TM d):=KM h λσ H Q a b O ρ E q=>q v H (Same.refl H) (r H O)
def c9 {j pos}:PD X (.Constant (.int i) j pos) (TM (.int i)):=pN ZF λ_ _=>.int
def W4 {j pos}:PD X (.Constant (.bool i) j pos) (TM (.bl i)):=pN yy λ_ _=>.bl
def OK {j pos}:PD X (.Constant (.str i) j pos) (TM (.str i)):=pN YT λ_ _=>.str
def CN {j pos}:PD X (.Constant .none j pos) (TM .non):=pN lz λ_ _=>.non
def mD (X:Cx)(f:af->af->Sem af)(g:D->D->R D):Prop:=
 ∀(H:Hp) (O:bc->Prop) (x y:V) (a b:D) (Q:VK),(∀p,H p=none->¬O p)->A7 X.K H O x a->A7 X.K H O y b->RC X H O (g a b) Q->∃r,mK X f r/\r x y H Q
def a2w (X:Cx)(O:bc->Prop)(g:D->D->R D)(Q:VK):V->V->Hp->Prop:=λx y H=>∃a b,(∀p,H p=none->¬O p)/\A7 X.K H O x a/\A7 X.K H O y b/\RC X H O (g a b) Q
def nN {c O:bc->Prop}(E:EnvOk X.K j c H O σ ρ)(q:RC X H O ((k ρ).bind λx=>(l ρ).bind λy=>g x y) Q):
  tDB X k σ H λx f=>tDB X l σ f λy h=>a2w X O g Q x y h:=by
 refine⟨j,c,O,ρ,E,?_⟩;have a:=LG.seq q;revert a;cases B:k ρ with
 |ok o=>
  intro a x f m s;obtain⟨d,e,_,r,t⟩:=a x f m s;cases e;have n:=E.grow m;refine⟨j,c,O,ρ,n,?_⟩;have b:=LG.seq t;revert b;cases C:l ρ with
  |ok u=>intro b y h i v;obtain⟨I,e,_,w,z⟩:=b y h i v;cases e;exact⟨o,u,λp A=>(n.grow i).fresh A,r.same i,w,z⟩
  |ex x=>intro b;exact b
  |bad=>intro b;exact b
 |ex x=>intro a;exact a
 |bad=>intro a;exact a
def c7 (e:mD X (eY op) g)(f:PB X a i)(j:PB X b k):PD X (.BinOp a op b pos) (λρ=>(i ρ).bind λx=>(k ρ).bind λy=>g x y):=by refine rR λc s σ H Q I J L O ρ E q=>?_;refine wpAny_BinOp (RE f j I (nN E q) λv u l x y d m n o h=>?_);obtain⟨p,t,w,z,A,q⟩:=h;obtain⟨r,B,C⟩:=e d O x y p t Q w z A q;exact B c l σ d x y v u Q m n o C
def qB (e:mD X (eQ op) g)(f:PB X a i)(j:PB X b k)(l:hF op b=false:=by first|exact DV _|with_unfolding_all rfl):
  PD X (.Compare a [op] [b] pos) (λρ=>(i ρ).bind λx=>(k ρ).bind λy=>g x y):=by
 refine rR λc s σ H Q I L N O ρ E q=>?_;refine wpAny_Compare1 (RE f j I (nN E q) λv u m x y d n o p h=>?_) l;obtain⟨t,w,z,A,B,q⟩:=h;obtain⟨r,C,J⟩:=e d O x y t w Q z A B q;exact C c m σ d x y v u Q n o p J
def lC:D->R Bool
 |.bl b=>.ok b
 |_=>.bad
def nP {O:bc->Prop}{Q:Bool->Hp->Prop}(h:tN X H (r.bind lC) Q):RC X H O r λv a=>∃c,v=.bl c/\Q c a:=by
 cases r with
 |ok d=>
  cases d with
  |bl b=>intro v a e f;cases f;exact⟨b,rfl,h a e⟩
  |_=>exact(show False from h).elim
 |ex x=>exact h
 |bad=>exact h
def l6 (i:mD X (eQ op) g)(j:PB X a l)(m:PB X b n)(o:hF op b=false:=by first|exact DV _|with_unfolding_all rfl):
  CP X (.Compare a [op] [b] pos) (λρ=>((l ρ).bind λx=>(n ρ).bind λy=>g x y).bind lC):=by
 refine rR λd s σ H Q I Ha O0 O ρ E q=>?_;have p:=nP (O:=O) q;refine aEk (RE j m I (nN E p) λv u t x y f w A B h=>?_) o;obtain⟨C,J,L,N,T,q⟩:=h;obtain⟨r,U,Y⟩:=i f O x y C J _ L N T q;refine C4 (U d t σ f x y v u _ w A B Y) λc s3 z9=>?_;obtain⟨z,H3,I3,r3,k,e,q3⟩:=z9;subst e;cases r3;exact aBD ⟨H3,I3,q3⟩
def dW (h:PD X e f)(a:∀whole,isTrue e X.env whole=(do let v<-whole;standAt e.pos;i3 [v] (truthy v)):=by intro _;rfl):CP X e (λρ=>(f ρ).bind lC):=by refine ptI (nq h a) λσ H Q b c O ρ E q=>⟨b,c,O,ρ,E,nP q⟩
def tN.seq {Q:Bool->Hp->Prop}(h:tN X H (r.bind g) Q):tN X H r λb c=>r=.ok b/\Same H c/\tN X c (g b) Q:=by
 cases r with
 |ok d=>
  intro c f;refine⟨rfl,f,?_⟩;have a:tN X H (g d) Q:=h;cases e:g d with
  |ok k=>rw[e]at a;exactλi j=>a i (f.trans j)
  |ex x=>rw[e]at a;exactλi j=>a i (f.trans j)
  |bad=>rw[e]at a;exact a
 |ex x=>exact h
 |bad=>exact h
def tN.af9 {O:bc->Prop}(h:RC X H O (r.bind g) Q):tN X H r λb a=>r=.ok b/\Same H a/\RC X a O (g b) Q:=by
 cases r with
 |ok d=>intro a c;refine⟨rfl,c,?_⟩;have e:RC X H O (g d) Q:=h;exact e.grow c
 |ex x=>exact h
 |bad=>exact h
def tN.mono {Q c:Bool->Hp->Prop}(h:tN X H r Q)(i:∀b a,Q b a->c b a):tN X H r c:=by
 cases r with
 |ok d=>exactλa e=>i _ _ (h a e)
 |ex x=>exact h
 |bad=>exact h
def RC.mono {O:bc->Prop}(h:RC X H O r Q)(i:∀b a,Q b a->c b a):RC X H O r c:=by
 cases r with
 |ok d=>exactλv a e f=>i _ _ (h v a e f)
 |ex x=>exact h
 |bad=>exact h
def GJ (X:Cx)(e:cu)(f:Ev->R Bool):Prop:=PW X e (tDT X f)
def QS (f g:Ev->R Bool):Ev->R Bool:=λρ=>(f ρ).bind λb=>if b=true then g ρ else .ok false
def orB (f g:Ev->R Bool):Ev->R Bool:=λρ=>(f ρ).bind λb=>if b=true then .ok true else g ρ
def UA (f:Ev->R Bool):Ev->R Bool:=λρ=>(f ρ).bind λb=>.ok (!b)
variable{rest:List cu}
def zD (b:CP X a f):GJ X (.BoolOp .And [a] pos) f:=WI b
def nA (b:CP X a f):GJ X (.BoolOp .Or [a] pos) f:=jy b
def LA (h:PW X e t)(i:∀σ H Q,t' σ H Q->t σ H Q):PW X e t':=λb a s σ H Q I q=>h b a s σ H Q I (i σ H Q q)
def GL (h:CP X a f)(i:GJ X (.BoolOp .And (b::rest) pos) g):GJ X (.BoolOp .And (a::b::rest) pos) (QS f g):=
 LA (mz h i) λσ H Q ⟨c,d,O,ρ,E,q⟩=>⟨c,d,O,ρ,E,tN.mono (tN.seq q)<|by
  rintro b j ⟨_,k,e⟩;cases b with
  |true=>rw[ji rfl];exact⟨c,d,O,ρ,E.grow k,e⟩
  |false=>rw[jn aAV];exact e j (Same.refl _)⟩
def uU (h:CP X a f)(i:GJ X (.BoolOp .Or (b::rest) pos) g):GJ X (.BoolOp .Or (a::b::rest) pos) (orB f g):=
 LA (yq h i) λσ H Q ⟨c,d,O,ρ,E,q⟩=>⟨c,d,O,ρ,E,tN.mono (tN.seq q)<|by
  rintro b j ⟨_,k,e⟩;cases b with
  |false=>rw[jn aAV];exact⟨c,d,O,ρ,E.grow k,e⟩
  |true=>rw[ji rfl];exact e j (Same.refl _)⟩
def GJ.pt (h:GJ X e f):CP X e f:=PW.pt h
def nH (c:CP X a f):CP X (.UnaryOp .Not a pos) (UA f):=
 ptI (ax c) λσ H Q d e O ρ E q=>⟨d,e,O,ρ,E,tN.mono (tN.seq q)<|by rintro b g ⟨_,i,h⟩;exact h g (Same.refl _)⟩
def lw (f:Ev->R D)(g:Ev->R D):Ev->R D:=λρ=>((f ρ).bind lC).bind λb=>if b=true then g ρ else .ok (.bl false)
def a1w (f:Ev->R D):Ev->R D:=λρ=>((f ρ).bind lC).bind λb=>.ok (.bl (!b))
def CV {op}{f:Ev->R D}(h:PD X a f):PD X (.BoolOp op [a] pos) f:=ZC h
def pM {f g:Ev->R D}(j:PD X a f)(k:PD X (.BoolOp .And (b::rest) pos) g):PD X (.BoolOp .And (a::b::rest) pos) (lw f g):=
 KM (gz j k) λσ H Q d h O ρ E q=>⟨d,h,O,ρ,E,RC.mono (nP<|tN.af9 q) λv l ⟨c,e,_,m,i⟩=>⟨c,e,by
  cases c with
  |true=>rw[ji rfl];exact⟨d,h,O,ρ,E.grow m,i⟩
  |false=>rw[jn aAV];exact i _ l (Same.refl _) .bl⟩⟩
def iw {f:Ev->R D}(b:PD X a f):PD X (.UnaryOp .Not a pos) (a1w f):=
 KM (ZK b) λσ H Q d g O ρ E q=>⟨d,g,O,ρ,E,RC.mono (nP<|tN.af9 q)<|by rintro v h ⟨c,e,_,j,i⟩;exact⟨c,e,i _ h (Same.refl _) .bl⟩⟩
def TQ:D->R D
 |.int i=>.ok (.int (-i))
 |_=>.bad
def fS {f:Ev->R D}(c:PD X a f):PD X (.UnaryOp .USub a pos) (λρ=>(f ρ).bind TQ):=
 KM (qx bj c) λσ H Q e g O ρ E q=>⟨e,g,O,ρ,E,by
  refine RC.mono (RC.seq q) λv h j=>?_;obtain⟨d,_,l,k,b⟩:=j;cases d with
  |int i=>cases k;exact⟨i,rfl,b _ h (Same.refl _) .int⟩
  |_=>exact(show False from b).elim⟩
def JZ.seq {H:Hp}{O:bc->Prop}{r:R (List D)}{g:List D->R D}{Q:VK}(h:RC X H O (r.bind g) Q):
  JZ X H O r λv a=>∃d,r=.ok d/\Same H a/\Reps X.K a O v d/\RC X a O (g d) Q:=by
 cases r with
 |ok d=>exactλv a b c=>⟨d,rfl,b,c,(show RC X H O (g d) Q from h).grow b⟩
 |ex x=>exact h
 |bad=>exact h
def JZ.mono {O:bc->Prop}{Q c:List V->Hp->Prop}(h:JZ X H O r Q)(i:∀b a,Q b a->c b a):JZ X H O r c:=by
 cases r with
 |ok d=>exactλv a e f=>i _ _ (h v a e f)
 |ex x=>exact h
 |bad=>exact h
def QL.seq {H:Hp}{O:bc->Prop}{r:R (List D)}{g:List D->R D}{Q:VK}(h:RC X H O (r.bind g) Q):
  QL X H O r λv a=>∃d,r=.ok d/\Same H a/\Paired (A7 X.K a O) v d/\RC X a O (g d) Q:=by
 cases r with
 |ok d=>exactλv a b c=>⟨d,rfl,b,c,(show RC X H O (g d) Q from h).grow b⟩
 |ex x=>exact h
 |bad=>exact h
def LG.mono {O:bc->Prop}(h:LG X H O r Q)(i:∀b a,Q b a->c b a):LG X H O r c:=by
 cases r with
 |ok d=>exactλv a e f=>i _ _ (h v a e f)
 |ex x=>exact h
 |bad=>exact h
def t8 (f:Ev->R D)(g:Ev->R (List D)):Ev->R (List D):=λρ=>(f ρ).bind λd=>(g ρ).bind λa=>.ok (d::a)
def X1:Ev->R (List D):=λ_=>.ok []
def j4:xF X [] X1:=paI Z8 λσ H Q a b O ρ E q=>q [] H (Same.refl _) .nil
def d5 {f:Ev->R D}{g:Ev->R (List D)}(l:PD X e f)(m:xF X es g)(n:a5 (e::es) X.env=(false,dz e X.env)::a5 es X.env:=by rfl):xF X (e::es) (t8 f g):=
 paI (F9 l m n) λσ H Q j k O ρ E q=>⟨j,k,O,ρ,E,by
  unfold t8 at q;cases b:f ρ with
  |ok d=>
   rw[b]at q;intro v s c o;refine⟨j,k,O,ρ,E.grow c,?_⟩;cases h:g ρ with
   |ok t=>rw[h]at q;exactλp i a r=>q (v::p) i (c.trans a) (.cons (o.same a) r)
   |ex x=>rw[h]at q;exactλi a=>q i (c.trans a)
   |bad=>rw[h]at q;exact q
  |ex x=>rw[b]at q;exact q
  |bad=>rw[b]at q;exact q⟩
def Q7:ZE X [] X1:=paI Z8 λσ H Q a b O ρ E q=>q [] H (Same.refl _) .nil
def G6 {f:Ev->R D}{g:Ev->R (List D)}(l:PB X e f)(m:ZE X es g)(n:a5 (e::es) X.env=(false,dz e X.env)::a5 es X.env:=by rfl):ZE X (e::es) (t8 f g):=
 paI (F9 l m n) λσ H Q j k O ρ E q=>⟨j,k,O,ρ,E,by
  unfold t8 at q;cases b:f ρ with
  |ok d=>
   rw[b]at q;intro v s c o;refine⟨j,k,O,ρ,E.grow c,?_⟩;cases h:g ρ with
   |ok t=>rw[h]at q;exactλp i a r=>q (v::p) i (c.trans a) (.cons (o.same a) r)
   |ex x=>rw[h]at q;exactλi a=>q i (c.trans a)
   |bad=>rw[h]at q;exact q
  |ex x=>rw[b]at q;exact q
  |bad=>rw[b]at q;exact q⟩
def dH (ds:List D):R D:=if ds.length<=sizeLine then .ok (.tup ds)else .bad
def DM (ds:List D):R D:=if ds.length<=sizeLine then .ok (.lst ds)else .bad
def vU {f:Ev->R (List D)}{d}(h:xF X es f):PD X (.Tuple es d pos) (λρ=>(f ρ).bind dH):=
 KM (fj h) λσ H Q e g O ρ E q=>⟨e,g,O,ρ,E,JZ.mono (JZ.seq q)<|by
  rintro j k ⟨l,_,m,b,a⟩;unfold dH at a;split at a
  .rename_i i;exact⟨by rw[b.length];exact i,λp c=>a (.ref p) _ (j3 c _) (.tup (X0.of j2) (b.same<|j3 c _))⟩
  .exact a.elim⟩
def bA {f:Ev->R (List D)}(h:xF X es f):PD X (.List es pos) (λρ=>(f ρ).bind DM):=
 KM (RK h) λσ H Q d e O ρ E q=>⟨d,e,O,ρ,E,JZ.mono (JZ.seq q)<|by
  rintro j k ⟨l,_,g,c,a⟩;unfold DM at a;split at a
  .rename_i i;exact⟨by rw[c.length];exact i,λp b=>a (.ref p) _ (j3 b _) (.lst (O5.of j2) ((E.grow g).fresh b) (c.same<|j3 b _))⟩
  .exact a.elim⟩
def fJ (X:Cx)(f:af)(g:List D->R D):Prop:=
 ∀(H:Hp) (O:bc->Prop) (a:List V) (b:List D) (Q:VK),(∀p,H p=none->¬O p)->Paired (A7 X.K H O) a b->RC X H O (g b) Q->∃r,xU X f r/\r a H Q
def qK {x:Str}{id:String}{p:Pos}{f:Ev->R (List D)}{g:List D->R D}(i:fJ X (.builtin id) g)(j:ZE X (e::es) f)(k:Gl X x:=by rfl)(l:X.mg x=none:=by assumption)(m:dq x=some (.builtin id):=by decide+kernel)(n:x≠ "__name__":=by decide)
  (o:(x==kb)=false:=by decide) (t:a5 (e::es) X.env=(false,dz e X.env)::a5 es X.env:=by rfl) (A8:(cv pos (a5 es X.env)).any (·.1)=false:=by rfl):
  PD X (.Call (.Name x p) (e::es) [] pos) (λρ=>(f ρ).bind g):=by
 refine rR λa s σ H Q I u v O ρ E q=>?_;refine aAK (N0 I k l m ?_ n o);refine aBr (C4 (j pos a s σ H _ I ⟨u,v,O,ρ,E,QL.seq q⟩) λw y ⟨b,c,z,A,d,_,B,r,h⟩=>?_) t A8;obtain⟨N,C,J⟩:=i c O b d Q (λp L=>(E.grow B).fresh L) r h;exact C a y σ c b w Q z A J
def tW {x:Str}{T:String}{p:Pos}{f:Ev->R (List D)}{g:List D->R D}(i:fJ X (.type T) g)(j:ZE X (e::es) f)(k:Gl X x:=by rfl)(l:X.mg x=none:=by assumption)(m:dq x=some (.type T):=by decide+kernel)(n:x≠ "__name__":=by decide)
  (o:(x==kb)=false:=by decide) (t:a5 (e::es) X.env=(false,dz e X.env)::a5 es X.env:=by rfl) (A8:(cv pos (a5 es X.env)).any (·.1)=false:=by rfl):
  PD X (.Call (.Name x p) (e::es) [] pos) (λρ=>(f ρ).bind g):=by
 refine rR λa s σ H Q I u v O ρ E q=>?_;refine aAK (N0 I k l m ?_ n o);refine aBp (C4 (j pos a s σ H _ I ⟨u,v,O,ρ,E,QL.seq q⟩) λw y ⟨b,c,z,A,d,_,B,r,h⟩=>?_) t A8;obtain⟨N,C,J⟩:=i c O b d Q (λp L=>(E.grow B).fresh L) r h;exact C a y σ c b w Q z A J
end
mutual
def u7:D->D->Bool
 |.non,.non=>true
 |.bl a,.bl b=>a==b
 |.bl a,.int b=>(if a then 1 else 0)==b
 |.int a,.bl b=>a==(if b then 1 else 0)
 |.int a,.int b=>a==b
 |.str a,.str b=>a==b
 |.tup Y,.tup c=>Z9 Y c
 |.lst Y,.lst c=>Z9 Y c
 |.dct,.dct=>true
 |_,_=>false
def Z9:List D->List D->Bool
 |[],[]=>true
 |x::Y,y::a=>u7 x y&&Z9 Y a
 |_,_=>false
end
mutual
def E9:D->Nat
 |.tup Y=>A3 Y+1
 |.lst Y=>A3 Y+1
 |.dct=>dA
 |_=>0
def A3:List D->Nat
 |[]=>0
 |x::Y=>max (E9 x) (A3 Y)
end
mutual
theorem N7:∀d:D,u7 d d=true
 |.non=>by simp[u7]
 |.bl b=>by simp[u7]
 |.int i=>by simp[u7]
 |.str x=>by simp[u7]
 |.tup Y=>by rw[u7];exact jV Y
 |.lst Y=>by rw[u7];exact jV Y
 |.dct=>by simp[u7]
theorem jV:∀ds:List D,Z9 ds ds=true
 |[]=>by simp[Z9]
 |x::Y=>by rw[Z9,N7 x,jV Y];rfl
end
def mH (Y c:List D)(j:Nat):Bool:=match Y[j]?,c[j]? with
 |some a,some b=>u7 a b
 |_,_=>false
theorem gU:∀(Y a:List D),Z9 Y a=((aBK (min Y.length a.length)).all (mH Y a)&&(Y.length==a.length))
 |[],[]=>by simp[Z9]
 |[],_::_=>by simp[Z9]
 |_::_,[]=>by simp[Z9]
 |x::Y,y::a=>by
  rw[Z9,gU Y a,aAu,aAu,Nat.succ_min_succ,aFy,aGd,List.all_map];have b:mH (x::Y) (y::a) 0=u7 x y:=rfl;have c:(mH (x::Y) (y::a)∘Nat.succ)=mH Y a:=by
   funext j
   simp[mH]
  have d:(Y.length+1==a.length+1)=(Y.length==a.length):=by rw[aDR];simp
  rw[b,c,d,Bool.and_assoc]
theorem nI:∀{Y:List D} {d:D} {j:Nat},Y[j]?=some d->E9 d<=A3 Y
 |[],_,_,h=>by simp at h
 |x::Y,d,0,h=>by simp at h;subst h;rw[A3];exact Nat.le_max_left _ _
 |x::Y,d,j+1,h=>by rw[A3];exact aAw (nI (j:=j) (by simpa using h)) (Nat.le_max_right _ _)
section
def DB {K:ka}{H:Hp}{O:bc->Prop}{a:bc}{d:D}(h:Rep K H O (.ref a) d):(∃vs ds,d=.tup ds/\X0 K H a vs/\Reps K H O vs ds)\/(∃vs ds,d=.lst ds/\O5 K H a vs/\Reps K H O vs ds)\/(d=.dct/\∃o:Obj,H a=some (.ext λh=>h.get? a=some o)/\o.ExactDict):=by
 cases h with
 |tup h r=>exact .inl ⟨_,_,rfl,h,r⟩
 |lst h n r=>exact .inr (.inl ⟨_,_,rfl,h,r⟩)
 |dct h x n=>exact .inr (.inr ⟨rfl,_,h,x⟩)
def XN (I:Inv X b σ H s)(h:X0 X.K H a vs)(h':O5 X.K H a ws):False:=by obtain⟨d,_,p,_⟩:=I.tuple h;obtain⟨c,_,e,_⟩:=I.list h';exact absurd rfl (SeqAt.ne_of_list_tuple (s:=s) e.isList p)
def YD {o:Obj}(I:Inv X b σ H s)(h':X0 X.K H a vs)(h:H a=some (.ext λh=>h.get? a=some o))(x:o.ExactDict):False:=by obtain⟨d,_,⟨f,g,c,_⟩,_⟩:=I.tuple h';have e:s.heap.get? _=some _:=(I.hok _ _ h).1;rw[g]at e;cases e;exact absurd (c.symm.trans x.1) (by decide)
def YM {o:Obj}(I:Inv X b σ H s)(h':O5 X.K H a vs)(h:H a=some (.ext λh=>h.get? a=some o))(x:o.ExactDict):False:=by obtain⟨d,_,p,_⟩:=I.list h';obtain⟨f,g,c,_⟩:=p.isList;have e:s.heap.get? _=some _:=(I.hok _ _ h).1;rw[g]at e;cases e;exact absurd (c.symm.trans x.1) (by decide)
mutual
theorem Rep.inj (I:Inv X f σ H s):∀{v:V} {d:D},Rep X.K H O v d->∀{d':D},Rep X.K H g v d'->d=d'
 |_,_,.non=>λh=>by cases h;rfl
 |_,_,.bl=>λh=>by cases h;rfl
 |_,_,.int=>λh=>by cases h;rfl
 |_,_,.str=>λh=>by cases h;rfl
 |_,_,.tup h r=>λb=>by
  rcases DB b with⟨_,_,rfl,a,c⟩|⟨_,_,rfl,a,_⟩|⟨rfl,_,a,x⟩
  .have e:=I.ab6 h a;subst e;rw[Reps.inj I r c]
  .exact(XN I h a).elim
  .exact(YD I h a x).elim
 |_,_,.lst h _ r=>λb=>by
  rcases DB b with⟨_,_,rfl,a,_⟩|⟨_,_,rfl,a,c⟩|⟨rfl,_,a,x⟩
  .exact(XN I a h).elim
  .have e:=I.ac1 h a;subst e;rw[Reps.inj I r c]
  .exact(YM I h a x).elim
 |_,_,.dct h x _=>λb=>by
  rcases DB b with⟨_,_,rfl,a,_⟩|⟨_,_,rfl,a,_⟩|⟨rfl,_⟩
  .exact(YD I a h x).elim
  .exact(YM I a h x).elim
  .rfl
theorem Reps.inj (I:Inv X a σ H s):∀{v:List V} {d:List D},Reps X.K H O v d->∀{d':List D},Reps X.K H f v d'->d=d'
 |_,_,.nil=>λh=>by cases h;rfl
 |_,_,.cons h t=>λb=>by
  cases b with
  |cons c e=>rw[Rep.inj I h c,Reps.inj I t e]
end
def nQ (A:cf)(s:a9)(us ws:List af)(Y a:List D):Prop:=∀(j:Nat) (u w:af),us[j]?=some u->ws[j]?=some w->SeqAt.EqAt A.in1 s u w (mH Y a j)
def zR (e:s.heap.IsList l us.toArray)(f:s.heap.IsList b ws.toArray)(e1:us.length=Y.length)(e2:ws.length=a.length)(g:A.units<dA)(n:nQ A s us ws Y a):SeqAt.RcAt A s (.ref l) (.ref b) (Z9 Y a)/\SeqAt.RcNeAt A s (.ref l) (.ref b) (!Z9 Y a):=by
 rw[gU];by_cases c:Y.length=a.length
 .have d:us.toArray.size=ws.toArray.size:=by simp[e1,e2,c]
  have o:min Y.length a.length=us.toArray.size:=by simp[e1,c]
  have h:(Y.length==a.length)=true:=by simp[c]
  have i:∀j (k:j<us.toArray.size) (m:j<ws.toArray.size),SeqAt.EqAt A.in1 s us.toArray[j] ws.toArray[j] (mH Y a j):=λj k m=>n j _ _ (by simp[aAg (show j<us.length by simpa using k)]) (by simp[aAg (show j<ws.length by simpa using m)]);rw[h,Bool.and_true,o];exact⟨SeqAt.RcAt.lists e f d g i,SeqAt.RcNeAt.lists e f d g i⟩
 .have d:(us.toArray.size !=ws.toArray.size)=true:=by simp[e1,e2,c]
  have h:(Y.length==a.length)=false:=by simp[c]
  rw[h,aFU];exact⟨SeqAt.RcAt.lists_lengths e f d g,SeqAt.RcNeAt.lists_lengths e f d g⟩
def kL (c:IsTup s.heap l us.toArray)(d:IsTup s.heap b ws.toArray)(e1:us.length=Y.length)(e2:ws.length=a.length)(e:A.units<dA)(i:nQ A s us ws Y a):SeqAt.RcAt A s (.ref l) (.ref b) (Z9 Y a)/\SeqAt.RcNeAt A s (.ref l) (.ref b) (!Z9 Y a):=by
 rw[gU];have k:min Y.length a.length=min us.toArray.size ws.toArray.size:=by simp[e1,e2]
 have m:(Y.length==a.length)=(us.toArray.size==ws.toArray.size):=by simp[e1,e2]
 have f:∀j (g:j<us.toArray.size) (h:j<ws.toArray.size),SeqAt.EqAt A.in1 s us.toArray[j] ws.toArray[j] (mH Y a j):=λj g h=>i j _ _ (by simp[aAg (show j<us.length by simpa using g)]) (by simp[aAg (show j<ws.length by simpa using h)]);rw[m,k];exact⟨SeqAt.RcAt.tuples c d e f,SeqAt.RcNeAt.tuples c d e f⟩
def o8 (A:cf):A.in1.units=A.units+1:=rfl
mutual
theorem QV (I:Inv X J σ H s):∀{x y:V} {q w:D} {v u:af} {A:cf},Rep X.K H O x q->Rep X.K H U y w->RelV x v->RelV y u->A.units+E9 q<dA->A.units+E9 w<dA->SeqAt.EqAt A s v u (u7 q w)
 |_,_,_,_,v,u,A,.non,f,g,b,i,d=>by
  have c:A.units<dA:=by lia
  cases g;cases f with
  |dct=>exact absurd d (by rw[E9];lia)
  |non=>cases b;exact aDS _
  |bl=>cases b;simp only[u7];exact SeqAt.EqAt.none_bool _
  |int=>obtain⟨t,rfl⟩:=b;simp only[u7];exact SeqAt.EqAt.none_int _ _
  |str=>obtain⟨t,rfl⟩:=b;simp only[u7];exact SeqAt.EqAt.none_str _ _
  |tup h r=>cases b;obtain⟨_,_,p,_⟩:=I.tuple h;simp only[u7];exact SeqAt.EqAt.none_tuple p c
  |lst h _ r=>cases b;obtain⟨_,_,p,_⟩:=I.list h;simp only[u7];exact SeqAt.EqAt.none_list p.isList c
 |_,_,_,_,v,u,A,.bl,f,g,b,i,d=>by
  have c:A.units<dA:=by lia
  cases g;cases f with
  |dct=>exact absurd d (by rw[E9];lia)
  |non=>cases b;simp only[u7];exact SeqAt.EqAt.bool_none _
  |bl=>cases b;simp only[u7];exact SeqAt.EqAt.bool_bool _ _
  |int=>obtain⟨t,rfl⟩:=b;simp only[u7];exact SeqAt.EqAt.bool_int _ _ _
  |str=>obtain⟨t,rfl⟩:=b;simp only[u7];exact SeqAt.EqAt.bool_str _ _ _
  |tup h r=>cases b;obtain⟨_,_,p,_⟩:=I.tuple h;simp only[u7];exact SeqAt.EqAt.bool_tuple _ p c
  |lst h _ r=>cases b;obtain⟨_,_,p,_⟩:=I.list h;simp only[u7];exact SeqAt.EqAt.bool_list _ p.isList c
 |_,_,_,_,v,u,A,.int,f,g,b,i,d=>by
  have c:A.units<dA:=by lia
  obtain⟨L,rfl⟩:=g;cases f with
  |dct=>exact absurd d (by rw[E9];lia)
  |non=>cases b;simp only[u7];exact SeqAt.EqAt.int_none _ _
  |bl=>cases b;simp only[u7];exact SeqAt.EqAt.int_bool _ _ _
  |int=>obtain⟨t,rfl⟩:=b;simp only[u7];exact aET _ _ _ _
  |str=>obtain⟨t,rfl⟩:=b;simp only[u7];exact aGb _ _ _ _
  |tup h r=>cases b;obtain⟨_,_,p,_⟩:=I.tuple h;simp only[u7];exact aFO _ _ p c
  |lst h _ r=>cases b;obtain⟨_,_,p,_⟩:=I.list h;simp only[u7];exact SeqAt.EqAt.int_list _ _ p.isList c
 |_,_,_,_,v,u,A,.str,f,g,b,i,d=>by
  have c:A.units<dA:=by lia
  obtain⟨L,rfl⟩:=g;cases f with
  |dct=>exact absurd d (by rw[E9];lia)
  |non=>cases b;simp only[u7];exact SeqAt.EqAt.str_none _ _
  |bl=>cases b;simp only[u7];exact SeqAt.EqAt.str_bool _ _ _
  |int=>obtain⟨t,rfl⟩:=b;simp only[u7];exact aGc _ _ _ _
  |str=>obtain⟨t,rfl⟩:=b;simp only[u7];exact SeqAt.EqAt.str_str _ _ _ _
  |tup h r=>cases b;obtain⟨_,_,p,_⟩:=I.tuple h;simp only[u7];exact SeqAt.EqAt.str_tuple _ _ p c
  |lst h _ r=>cases b;obtain⟨_,_,p,_⟩:=I.list h;simp only[u7];exact SeqAt.EqAt.str_list _ _ p.isList c
 |_,_,_,_,v,u,A,.tup (a:=a) (vs:=vs) (ds:=ds) h r,f,g,b,i,d=>by
  have c:A.units<dA:=by lia
  cases g;obtain⟨z,m,p,_⟩:=I.tuple h;cases f with
  |dct=>exact absurd d (by rw[E9];lia)
  |non=>cases b;simp only[u7];exact SeqAt.EqAt.tuple_none p c
  |bl=>cases b;simp only[u7];exact SeqAt.EqAt.tuple_bool _ p c
  |int=>obtain⟨t,rfl⟩:=b;simp only[u7];exact aFP _ _ p c
  |str=>obtain⟨t,rfl⟩:=b;simp only[u7];exact SeqAt.EqAt.tuple_str _ _ p c
  |@tup B N Q j k=>
   cases b;obtain⟨n,o,l,_⟩:=I.tuple j;by_cases e:a=B
   .subst e;have C:=I.ab6 h j;subst C;have E:=Reps.inj I r k;subst E;rw[N7];exact aDS _
   .simp only[u7];refine aEU e (kL p l (by rw[<-m.length,r.length]) (by rw[<-o.length,k.length]) c<|jF I r k m o ?_ ?_).1
    .rw[E9]at i;rw[o8];lia
    .rw[E9]at d;rw[o8];lia
  |lst j _ k=>cases b;obtain⟨_,_,l,_⟩:=I.list j;simp only[u7];exact SeqAt.EqAt.tuple_list p l.isList c
 |_,_,_,_,v,u,A,.lst (a:=a) (vs:=vs) (ds:=ds) h Y r,f,g,b,i,d=>by
  have c:A.units<dA:=by lia
  cases g;obtain⟨z,m,p,_⟩:=I.list h;cases f with
  |dct=>exact absurd d (by rw[E9];lia)
  |non=>cases b;simp only[u7];exact SeqAt.EqAt.list_none p.isList c
  |bl=>cases b;simp only[u7];exact SeqAt.EqAt.list_bool _ p.isList c
  |int=>obtain⟨t,rfl⟩:=b;simp only[u7];exact SeqAt.EqAt.list_int _ _ p.isList c
  |str=>obtain⟨t,rfl⟩:=b;simp only[u7];exact SeqAt.EqAt.list_str _ _ p.isList c
  |tup j k=>cases b;obtain⟨_,_,l,_⟩:=I.tuple j;simp only[u7];exact SeqAt.EqAt.list_tuple p.isList l c
  |@lst B N Q j T k=>
   cases b;obtain⟨n,o,l,_⟩:=I.list j;by_cases e:a=B
   .subst e;have C:=I.ac1 h j;subst C;have E:=Reps.inj I r k;subst E;rw[N7];exact aDS _
   .simp only[u7];refine aEU e (zR p.isList l.isList (by rw[<-m.length,r.length]) (by rw[<-o.length,k.length]) c<|jF I r k m o ?_ ?_).1
    .rw[E9]at i;rw[o8];lia
    .rw[E9]at d;rw[o8];lia
 |_,_,_,_,v,u,A,.dct ..,f,g,b,i,d=>absurd i (by rw[E9];lia)
theorem jF (I:Inv X n σ H s):∀{vs ws:List V} {Y g:List D} {us c:List af} {A:cf},Reps X.K H O vs Y->Reps X.K H x ws g->n4 vs us->n4 ws c->A.in1.units+A3 Y<dA->A.in1.units+A3 g<dA->nQ A s us c Y g
 |_,_,_,_,us,c,A,.nil,y,e,f,i,k=>λj u w a b=>by cases e;simp at a
 |_,_,_,_,us,c,A,.cons h t,.nil,e,f,i,k=>λj u w a b=>by cases f;simp at b
 |_,_,_,_,us,c,A,.cons (d:=d) (ds:=ds) h t,.cons (d:=z) (ds:=B) o p,e,f,i,k=>λj u w a b=>by
  cases e with
  |cons r v=>
   cases f with
   |cons l m=>
    rw[A3]at i k;cases j with
    |zero=>simp only[aDc,aGi]at a b;subst a b;exact QV I h o r l (by lia) (by lia)
    |succ j=>simp only[aFo]at a b;have q:=jF I (A:=A) t p v m (by lia) (by lia) j u w a b;exact q
end
def a0e (I:Inv X L σ H s)(m:A7 X.K H O x z)(c:A7 X.K H Q y f)(n:RelV x v)(d:RelV y u)(B:A.units+E9 z<dA)(j:A.units+E9 f<dA):
  SeqAt.RcAt A s v u (u7 z f)/\SeqAt.RcNeAt A s v u (!u7 z f):=by
 have b:A.units<dA:=by lia
 cases z with
 |dct=>exact absurd B (by rw[E9];lia)
 |non=>
  cases m.ac2;cases n;cases f with
  |dct=>exact absurd j (by rw[E9];lia)
  |non=>cases c.ac2;cases d;simp only[u7];exact⟨SeqAt.RcAt.none_none,SeqAt.RcNeAt.none_none⟩
  |bl=>cases c.blI;cases d;simp only[u7];exact⟨SeqAt.RcAt.none_bool _,SeqAt.RcNeAt.none_bool _⟩
  |int=>cases c.aa7;obtain⟨t,rfl⟩:=d;simp only[u7];exact⟨SeqAt.RcAt.none_int _ _,SeqAt.RcNeAt.none_int _ _⟩
  |str=>cases c.ac4;obtain⟨t,rfl⟩:=d;simp only[u7];exact⟨SeqAt.RcAt.none_str _ _,SeqAt.RcNeAt.none_str _ _⟩
  |tup e=>obtain⟨a,g,rfl,h,r⟩:=c.tupI;cases d;obtain⟨_,_,p,_⟩:=I.tuple h;simp only[u7];exact⟨SeqAt.RcAt.none_tuple p b,SeqAt.RcNeAt.none_tuple p b⟩
  |lst e=>obtain⟨a,g,rfl,h,r⟩:=c.aa4;cases d;obtain⟨_,_,p,_⟩:=I.list h;simp only[u7];exact⟨SeqAt.RcAt.none_list p.isList b,SeqAt.RcNeAt.none_list p.isList b⟩
 |bl=>
  cases m.blI;cases n;cases f with
  |dct=>exact absurd j (by rw[E9];lia)
  |non=>cases c.ac2;cases d;simp only[u7];exact⟨SeqAt.RcAt.bool_none _,SeqAt.RcNeAt.bool_none _⟩
  |bl=>cases c.blI;cases d;simp only[u7];exact⟨SeqAt.RcAt.bool_bool _ _,SeqAt.RcNeAt.bool_bool _ _⟩
  |int=>cases c.aa7;obtain⟨t,rfl⟩:=d;simp only[u7];exact⟨SeqAt.RcAt.bool_int _ _ _,SeqAt.RcNeAt.bool_int _ _ _⟩
  |str=>cases c.ac4;obtain⟨t,rfl⟩:=d;simp only[u7];exact⟨SeqAt.RcAt.bool_str _ _ _,SeqAt.RcNeAt.bool_str _ _ _⟩
  |tup e=>obtain⟨a,g,rfl,h,r⟩:=c.tupI;cases d;obtain⟨_,_,p,_⟩:=I.tuple h;simp only[u7];exact⟨SeqAt.RcAt.bool_tuple _ p b,SeqAt.RcNeAt.bool_tuple _ p b⟩
  |lst e=>obtain⟨a,g,rfl,h,r⟩:=c.aa4;cases d;obtain⟨_,_,p,_⟩:=I.list h;simp only[u7];exact⟨SeqAt.RcAt.bool_list _ p.isList b,SeqAt.RcNeAt.bool_list _ p.isList b⟩
 |int=>
  cases m.aa7;obtain⟨N,rfl⟩:=n;cases f with
  |dct=>exact absurd j (by rw[E9];lia)
  |non=>cases c.ac2;cases d;simp only[u7];exact⟨SeqAt.RcAt.int_none _ _,SeqAt.RcNeAt.int_none _ _⟩
  |bl=>cases c.blI;cases d;simp only[u7];exact⟨SeqAt.RcAt.int_bool _ _ _,SeqAt.RcNeAt.int_bool _ _ _⟩
  |int=>cases c.aa7;obtain⟨t,rfl⟩:=d;simp only[u7];exact⟨SeqAt.RcAt.int_int _ _ _ _,SeqAt.RcNeAt.int_int _ _ _ _⟩
  |str=>cases c.ac4;obtain⟨t,rfl⟩:=d;simp only[u7];exact⟨SeqAt.RcAt.int_str _ _ _ _,SeqAt.RcNeAt.int_str _ _ _ _⟩
  |tup e=>obtain⟨a,g,rfl,h,r⟩:=c.tupI;cases d;obtain⟨_,_,p,_⟩:=I.tuple h;simp only[u7];exact⟨SeqAt.RcAt.int_tuple _ _ p b,SeqAt.RcNeAt.int_tuple _ _ p b⟩
  |lst e=>obtain⟨a,g,rfl,h,r⟩:=c.aa4;cases d;obtain⟨_,_,p,_⟩:=I.list h;simp only[u7];exact⟨SeqAt.RcAt.int_list _ _ p.isList b,SeqAt.RcNeAt.int_list _ _ p.isList b⟩
 |str=>
  cases m.ac4;obtain⟨N,rfl⟩:=n;cases f with
  |dct=>exact absurd j (by rw[E9];lia)
  |non=>cases c.ac2;cases d;simp only[u7];exact⟨SeqAt.RcAt.str_none _ _,SeqAt.RcNeAt.str_none _ _⟩
  |bl=>cases c.blI;cases d;simp only[u7];exact⟨SeqAt.RcAt.str_bool _ _ _,SeqAt.RcNeAt.str_bool _ _ _⟩
  |int=>cases c.aa7;obtain⟨t,rfl⟩:=d;simp only[u7];exact⟨SeqAt.RcAt.str_int _ _ _ _,SeqAt.RcNeAt.str_int _ _ _ _⟩
  |str=>cases c.ac4;obtain⟨t,rfl⟩:=d;simp only[u7];exact⟨SeqAt.RcAt.str_str _ _ _ _,SeqAt.RcNeAt.str_str _ _ _ _⟩
  |tup e=>obtain⟨a,g,rfl,h,r⟩:=c.tupI;cases d;obtain⟨_,_,p,_⟩:=I.tuple h;simp only[u7];exact⟨SeqAt.RcAt.str_tuple _ _ p b,SeqAt.RcNeAt.str_tuple _ _ p b⟩
  |lst e=>obtain⟨a,g,rfl,h,r⟩:=c.aa4;cases d;obtain⟨_,_,p,_⟩:=I.list h;simp only[u7];exact⟨SeqAt.RcAt.str_list _ _ p.isList b,SeqAt.RcNeAt.str_list _ _ p.isList b⟩
 |tup Y=>
  obtain⟨a,g,rfl,h,r⟩:=m.tupI;cases n;obtain⟨C,o,p,_⟩:=I.tuple h;cases f with
  |dct=>exact absurd j (by rw[E9];lia)
  |non=>cases c.ac2;cases d;simp only[u7];exact⟨SeqAt.RcAt.tuple_none p b,SeqAt.RcNeAt.tuple_none p b⟩
  |bl=>cases c.blI;cases d;simp only[u7];exact⟨SeqAt.RcAt.tuple_bool _ p b,SeqAt.RcNeAt.tuple_bool _ p b⟩
  |int=>cases c.aa7;obtain⟨t,rfl⟩:=d;simp only[u7];exact⟨SeqAt.RcAt.tuple_int _ _ p b,SeqAt.RcNeAt.tuple_int _ _ p b⟩
  |str=>cases c.ac4;obtain⟨t,rfl⟩:=d;simp only[u7];exact⟨SeqAt.RcAt.tuple_str _ _ p b,SeqAt.RcNeAt.tuple_str _ _ p b⟩
  |tup e=>
   obtain⟨E,J,rfl,k,l⟩:=c.tupI;cases d;obtain⟨q,w,i,_⟩:=I.tuple k;simp only[u7];refine kL p i (by rw[<-o.length,r.length]) (by rw[<-w.length,l.length]) b (jF I r l o w ?_ ?_)
   .rw[E9]at B;rw[o8];lia
   .rw[E9]at j;rw[o8];lia
  |lst e=>obtain⟨E,J,rfl,k,l⟩:=c.aa4;cases d;obtain⟨_,_,i,_⟩:=I.list k;simp only[u7];exact⟨SeqAt.RcAt.tuple_list p i.isList b,SeqAt.RcNeAt.tuple_list p i.isList b⟩
 |lst Y=>
  obtain⟨a,g,rfl,h,r⟩:=m.aa4;cases n;obtain⟨C,o,p,_⟩:=I.list h;cases f with
  |dct=>exact absurd j (by rw[E9];lia)
  |non=>cases c.ac2;cases d;simp only[u7];exact⟨SeqAt.RcAt.list_none p.isList b,SeqAt.RcNeAt.list_none p.isList b⟩
  |bl=>cases c.blI;cases d;simp only[u7];exact⟨SeqAt.RcAt.list_bool _ p.isList b,SeqAt.RcNeAt.list_bool _ p.isList b⟩
  |int=>cases c.aa7;obtain⟨t,rfl⟩:=d;simp only[u7];exact⟨SeqAt.RcAt.list_int _ _ p.isList b,SeqAt.RcNeAt.list_int _ _ p.isList b⟩
  |str=>cases c.ac4;obtain⟨t,rfl⟩:=d;simp only[u7];exact⟨SeqAt.RcAt.list_str _ _ p.isList b,SeqAt.RcNeAt.list_str _ _ p.isList b⟩
  |tup e=>obtain⟨E,J,rfl,k,l⟩:=c.tupI;cases d;obtain⟨_,_,i,_⟩:=I.tuple k;simp only[u7];exact⟨SeqAt.RcAt.list_tuple p.isList i b,SeqAt.RcNeAt.list_tuple p.isList i b⟩
  |lst e=>
   obtain⟨E,J,rfl,k,l⟩:=c.aa4;cases d;obtain⟨q,w,i,_⟩:=I.list k;simp only[u7];refine zR p.isList i.isList (by rw[<-o.length,r.length]) (by rw[<-w.length,l.length]) b (jF I r l o w ?_ ?_)
   .rw[E9]at B;rw[o8];lia
   .rw[E9]at j;rw[o8];lia
end
def GW (x y:D):R D:=if E9 x<=40/\E9 y<=40 then .ok (.bl (u7 x y))else .bad
def QE (x y:D):R D:=if E9 x<=40/\E9 y<=40 then .ok (.bl (!u7 x y))else .bad
section
def T5 (p:X.A.units+64<dA):mD X (eQ .Eq) GW:=by
 intro H O x y f g Q r h i q;unfold GW at q;split at q
 .rename_i t;refine⟨λa b c d=>a=x/\b=y/\c=H/\d (.bl (u7 f g)) H,?_,rfl,rfl,rfl,q _ H (Same.refl _) .bl⟩;intro e s σ c a b v u d I j k ⟨l,m,n,o⟩;subst l m n;exact(a0e I (A:=X.A) h i j k (by lia) (by lia)).1 _ _ _ _ ⟨.bl _,_,I,rfl,o⟩
 .exact q.elim
def mG (p:X.A.units+64<dA):mD X (eQ .NotEq) QE:=by
 intro H O x y f g Q r h i q;unfold QE at q;split at q
 .rename_i t;refine⟨λa b c d=>a=x/\b=y/\c=H/\d (.bl (!u7 f g)) H,?_,rfl,rfl,rfl,q _ H (Same.refl _) .bl⟩;intro e s σ c a b v u d I j k ⟨l,m,n,o⟩;subst l m n;exact(a0e I (A:=X.A) h i j k (by lia) (by lia)).2 _ _ _ _ ⟨.bl _,_,I,rfl,o⟩
 .exact q.elim
end
def kF:D->D->R D
 |.int a,.int b=>.ok (.int (a+b))
 |.lst a,.lst b=>if a.length+b.length<=sizeLine then .ok (.lst (a++b))else .bad
 |.tup [],.tup b=>.ok (.tup b)
 |.tup (x::a),.tup []=>if(x::a).length<=sizeLine then .ok (.tup (x::a))else .bad
 |.tup (x::a),.tup (y::b)=>if(x::a).length+(y::b).length<=sizeLine then .ok (.tup ((x::a)++(y::b)))else .bad
 |_,_=>.bad
def DR:D->D->R D
 |.int a,.int b=>.ok (.int (a-b))
 |_,_=>.bad
def l8 (a b:Int):Prop:=aAW a<=60000000/\aAW b<=60000000
instance(a b:Int):Decidable (l8 a b):=inferInstanceAs (Decidable<|_/\_)
def aM:D->D->R D
 |.int a,.int b=>if l8 a b then .ok (.int (a*b))else .bad
 |_,_=>.bad
def zV (b:Int):Prop:=b≠0/\aAW b<=9000
instance(b:Int):Decidable (zV b):=inferInstanceAs (Decidable<|_/\_)
def fF:D->D->R D
 |.int a,.int b=>if zV b then .ok (.int (a.fdiv b))else .bad
 |_,_=>.bad
def rA:D->D->R D
 |.int a,.int b=>if b≠0 then .ok (.int (a.fmod b))else .bad
 |_,_=>.bad
def yF:D->D->R D
 |.int a,.int b=>if 0<=b/\b<=1000000/\a.natAbs<2^64 then .ok (.int (a^b.toNat))else .bad
 |_,_=>.bad
def ltR:D->D->R D
 |.int a,.int b=>.ok (.bl (decide (a<b)))
 |_,_=>.bad
def zx:D->D->R D
 |.int a,.int b=>.ok (.bl (decide (a<=b)))
 |_,_=>.bad
def gx:D->D->R D
 |.int a,.int b=>.ok (.bl (decide (b<a)))
 |_,_=>.bad
def IZ (h0:b≠0)(h:aAW b<=n):b.natAbs.log2<n:=by
 unfold aAW at h;split at h
 .rename_i z;exact absurd (by simpa using z) h0
 .omega
def QW (h:l8 a b):IntMulOk a b:=mulOk_of_bits (m:=60000000) (n:=60000000) h.1 h.2 (by decide)
section
def mD.aa8 {f:af->af->Sem af}{g:D->D->R D}{C:Int->Int->Prop}{w:Int->Int->V}{dw:Int->Int->D}(c:mK X f (rI C w))(h:∀a b d,g a b=.ok d->∃i j,a=.int i/\b=.int j/\C i j/\d=dw i j)
  (k:∀a b e,g a b≠.ex e) (l:∀K H O i j,Rep K H O (w i j) (dw i j)):mD X f g:=by
 intro H O x y a b Q p m n q;cases e:g a b with
 |ok d=>rw[e]at q;obtain⟨i,j,rfl,rfl,o,rfl⟩:=h a b d e;cases m.aa7;cases n.aa7;exact⟨_,c,i,j,rfl,rfl,o,q _ H (Same.refl _) (l _ _ _ _ _)⟩
 |ex x=>exact absurd e (k _ _ _)
 |bad=>rw[e]at q;exact q.elim
def mK.c0 (h:mK X f (XB w)):mK X f (rI (λ_ _=>True) w):=by rintro a s σ H x y v u Q I b c ⟨i,j,d,e,_,q⟩;exact h a s σ H x y v u Q I b c ⟨i,j,d,e,q⟩
def q8:mD X (eY .Sub) DR:=mD.aa8 (dw:=λi j=>.int (i-j)) (mK.c0 gj) (λa b d h=>by cases a<;>cases b<;>simp only[DR,R.ok.injEq,reduceCtorEq]at h;exact⟨_,_,rfl,rfl,trivial,h.symm⟩) (λa b e h=>by cases a<;>cases b<;>simp only[DR,reduceCtorEq]at h) λ_ _ _ _ _=>.int
def FX:mD X (eQ .Lt) ltR:=mD.aa8 (dw:=λi j=>.bl (decide (i<j))) (mK.c0 sk) (λa b d h=>by cases a<;>cases b<;>simp only[ltR,R.ok.injEq,reduceCtorEq]at h;exact⟨_,_,rfl,rfl,trivial,h.symm⟩) (λa b e h=>by cases a<;>cases b<;>simp only[ltR,reduceCtorEq]at h) λ_ _ _ _ _=>.bl
def zw:mD X (eQ .LtE) zx:=mD.aa8 (dw:=λi j=>.bl (decide (i<=j))) (mK.c0 qy) (λa b d h=>by cases a<;>cases b<;>simp only[zx,R.ok.injEq,reduceCtorEq]at h;exact⟨_,_,rfl,rfl,trivial,h.symm⟩) (λa b e h=>by cases a<;>cases b<;>simp only[zx,reduceCtorEq]at h) λ_ _ _ _ _=>.bl
def xM:mD X (eQ .Gt) gx:=mD.aa8 (dw:=λi j=>.bl (decide (j<i))) (mK.c0 rq) (λa b d h=>by cases a<;>cases b<;>simp only[gx,R.ok.injEq,reduceCtorEq]at h;exact⟨_,_,rfl,rfl,trivial,h.symm⟩) (λa b e h=>by cases a<;>cases b<;>simp only[gx,reduceCtorEq]at h) λ_ _ _ _ _=>.bl
def RV:mK X (eY .FloorDiv) (rI (λ_ j=>zV j) λi j=>.int (i.fdiv j)):=opI λ_ _ _ _ _ _ _ a q=>floordiv_int a.1 q (.inl (PyProof.noPylong_of_log2<|IZ a.1 a.2))
def y3:mD X (eY .FloorDiv) fF:=mD.aa8 (dw:=λi j=>.int (i.fdiv j)) RV (λa b d h=>by
 cases a<;>cases b<;>simp only[fF,reduceCtorEq]at h;split at h
 .rename_i c;cases h;exact⟨_,_,rfl,rfl,c,rfl⟩
 .cases h) (λa b e h=>by
  cases a<;>cases b<;>simp only[fF,reduceCtorEq]at h;split at h<;>cases h) λ_ _ _ _ _=>.int
def B5:mD X (eY .Mod) rA:=mD.aa8 (dw:=λi j=>.int (i.fmod j)) UT (λa b d h=>by
 cases a<;>cases b<;>simp only[rA,reduceCtorEq]at h;split at h
 .rename_i c;cases h;exact⟨_,_,rfl,rfl,c,rfl⟩
 .cases h) (λa b e h=>by
  cases a<;>cases b<;>simp only[rA,reduceCtorEq]at h;split at h<;>cases h) λ_ _ _ _ _=>.int
def jS:mD X (eY .Pow) yF:=mD.aa8 (dw:=λi j=>.int (i^j.toNat)) bw (λa b d h=>by
 cases a<;>cases b<;>simp only[yF,reduceCtorEq]at h;split at h
 .rename_i c;cases h;exact⟨_,_,rfl,rfl,c,rfl⟩
 .cases h) (λa b e h=>by
  cases a<;>cases b<;>simp only[yF,reduceCtorEq]at h;split at h<;>cases h) λ_ _ _ _ _=>.int
def WV:mK X (eY .Mult) (rI l8 λi j=>.int (i*j)):=opI λ_ _ _ _ _ _ _ a q=>mul_int q (QW a)
def k9:mD X (eY .Mult) aM:=mD.aa8 (dw:=λi j=>.int (i*j)) WV (λa b d h=>by
 cases a<;>cases b<;>simp only[aM,reduceCtorEq]at h;split at h
 .rename_i c;cases h;exact⟨_,_,rfl,rfl,c,rfl⟩
 .cases h) (λa b e h=>by
  cases a<;>cases b<;>simp only[aM,reduceCtorEq]at h;split at h<;>cases h) λ_ _ _ _ _=>.int
def SW:mK X (eY .Add) (λx y H Q=>∃l b Y d,x=.ref l/\y=.ref b/\O5 X.K H l Y/\O5 X.K H b d/\Y.length+d.length<=sizeLine/\∀p,H p=none->Q (.ref p) (upd H p (.lst (Y++d)))):=by
 intro f s σ H x y v u Q I z A h;obtain⟨l,b,Y,d,rfl,rfl,B,C,E,q⟩:=h;cases z;cases A;obtain⟨a,r,p,_⟩:=I.list B;obtain⟨e,g,J,_⟩:=I.list C;obtain⟨⟨cls,L,i,N⟩,j,k,n,m⟩:=p.isList;obtain⟨⟨o,O,data2,T⟩,t,w,U,c⟩:=J.isList;simp only at k m w c;subst k m w c;have jf:a.toArray.size+e.toArray.size<=sizeLine:=by rw[aAp,aAp,<-r.length,<-g.length];exact E
 have ea:a.toArray++e.toArray=(a++e).toArray:=by simp
 refine aFF ⟨_,j,rfl⟩ ⟨_,t,rfl⟩ noFill_list_add seq_list_add PySem.F.slot_list_add PySem.F.entry_list_add (PySem.F.args_list_add_2 _ _) (list_addW l b a.toArray e.toArray n U L O N T jf) ⟨j,t,?_⟩;rw[ea];exact⟨.ref _,_,I.ag4 (t':=s.toks) (r.append g) (by rw[aAF];omega),rfl,q _ I.fresh⟩
def OD:mK X (eY .Add) (λx y H Q=>∃a b d,x=.ref a/\y=.ref b/\X0 X.K H a []/\X0 X.K H b d/\Q (.ref b) H):=by intro e s σ H x y v u Q I o p h;obtain⟨t,b,d,rfl,rfl,r,w,q⟩:=h;cases o;cases p;obtain⟨z,A,B,_⟩:=I.tuple r;obtain⟨T,U,C,_⟩:=I.tuple w;cases A;obtain⟨⟨cls,E,f,J⟩,g,i,n,j⟩:=B;obtain⟨⟨k,L,data2,N⟩,l,m,O,c⟩:=C;simp only at i j m c;subst i j m c;exact aFF ⟨_,g,rfl⟩ ⟨_,l,rfl⟩ aFs seq_tuple_add PySem.F.slot_tuple_add PySem.F.entry_tuple_add (PySem.F.args_tuple_add_2 _ _) (tuple_addW0 t b _ _ n O E L J N (by simp)) ⟨g,l,.ref b,H,I,rfl,q⟩
def x8:mD X (eY .Add) kF:=by
 intro H O x y u s Q v n o q;cases u with
 |int i=>
  cases s with
  |int j=>cases n.aa7;cases o.aa7;exact⟨_,ZX,i,j,rfl,rfl,q _ H (Same.refl _) .int⟩
  |_=>exact aAi q
 |lst a=>
  cases s with
  |lst b=>
   simp only[kF]at q;split at q
   .rename_i r;obtain⟨l,e,rfl,f,c⟩:=n.aa4;obtain⟨h,k,rfl,g,d⟩:=o.aa4;exact⟨_,SW,l,h,e,k,rfl,rfl,f,g,by rw[c.length,d.length];exact r,λp m=>q _ _ (j3 m _) (.lst (O5.of j2) (v p m) ((c.append d).same (j3 m _)))⟩
   .exact q.elim
  |_=>exact aAi q
 |tup a=>
  cases s with
  |tup b=>
   cases a with
   |nil=>obtain⟨l,e,rfl,f,c⟩:=n.tupI;obtain⟨h,k,rfl,g,d⟩:=o.tupI;cases c;exact⟨_,OD,l,h,k,rfl,rfl,f,g,q _ H (Same.refl _) (.tup g d)⟩
   |cons x a=>
    cases b with
    |nil=>
     obtain⟨l,e,rfl,f,c⟩:=n.tupI;obtain⟨h,k,rfl,g,d⟩:=o.tupI;cases d;have t:e≠[]:=λz=>by subst z;have:=c.length;simp at this
     simp only[kF]at q;split at q
     .rename_i r;exact⟨_,GG,l,h,e,[],rfl,rfl,f,g,t,by rw[c.length];exact r,λ_=>q _ H (Same.refl _) (.tup f c),λz=>absurd rfl z⟩
     .exact q.elim
    |cons y b=>
     simp only[kF]at q;split at q
     .rename_i r;obtain⟨l,e,rfl,f,c⟩:=n.tupI;obtain⟨h,k,rfl,g,d⟩:=o.tupI;have t:e≠[]:=λz=>by subst z;have:=c.length;simp at this
      have w:k≠[]:=λz=>by subst z;have:=d.length;simp at this
      exact⟨_,GG,l,h,e,k,rfl,rfl,f,g,t,by rw[c.length,d.length];exact r,λz=>absurd z w,λ_ p m=>q _ _ (j3 m _) (.tup (X0.of j2) ((c.append d).same (j3 m _)))⟩
     .exact q.elim
  |_=>cases a<;>exact aAi q
 |_=>exact aAi q
def W9 (x y:D):R D:=match x,y with
 |.lst Y,.int i=>match qP Y i with|some d=>.ok d|none=>.bad
 |.tup Y,.int i=>match qP Y i with|some d=>.ok d|none=>.bad
 |_,_=>.bad
def xO {K:ka}{H:Hp}{O:bc->Prop}{vs:List V}{ds:List D}{i:Int}{d:D}(r:Reps K H O vs ds)(h:qP ds i=some d):∃v,qP vs i=some v/\Rep K H O v d:=by
 unfold qP at h⊢;rw[r.length];cases e:XI ds.length i with
 |none=>rw[e]at h;cases h
 |some j=>rw[e]at h;exact r.get h
def i5 (L:PB X a f)(N:PD X b g)(r:UU b:=by exactλ_ _=>rfl):PD X (.Subscript a b pos) (λρ=>(f ρ).bind λx=>(g ρ).bind λy=>W9 x y):=by
 refine rR λc s σ H Q I Ha O0 O ρ E q=>?_;refine Subscript_ (RE L N.pb I (nN E q) λv u t x y j z A B h=>?_);obtain⟨C,T,fr,J,U,q⟩:=h;cases T with
 |int i=>
  cases U.aa7;cases C with
  |lst Y=>
   simp only[W9]at q;cases e:qP Y i with
   |none=>rw[e]at q;exact q.elim
   |some d=>rw[e]at q;obtain⟨p,k,rfl,l,m⟩:=J.aa4;obtain⟨w,n,o⟩:=xO m e;exact SR a b c t σ j _ _ v u Q z A B ⟨p,k,i,w,rfl,rfl,l,n,q w j (Same.refl _) o⟩ (r _ _)
  |tup Y=>
   simp only[W9]at q;cases e:qP Y i with
   |none=>rw[e]at q;exact q.elim
   |some d=>rw[e]at q;obtain⟨p,k,rfl,l,m⟩:=J.tupI;obtain⟨w,n,o⟩:=xO m e;exact oj a b c t σ j _ _ v u Q z A B ⟨p,k,i,w,rfl,rfl,l,n,q w j (Same.refl _) o⟩ (r _ _)
  |_=>exact aAi q
 |_=>cases C<;>exact aAi q
def cutD (Y:List D)(lo a:Option Int):List D:=(Y.drop<|HT.sIx Y.length 0 lo).take (HT.sIx Y.length Y.length a-HT.sIx Y.length 0 lo)
def sT {K:ka}{H:Hp}{O:bc->Prop}{vs:List V}{ds:List D}{lo a:Option Int}(r:Reps K H O vs ds):Reps K H O (yR vs lo a) (cutD ds lo a):=by unfold yR cutD;rw[r.length];exact(r.drop _).take _
def PTO (X:Cx)(e:Option cu)(f:Ev->R (Option Int)):Prop:=PO X e λσ H Q=>∃b c O ρ,EnvOk X.K b c H O σ ρ/\match f ρ with
 |.ok o=>∀a,Same H a->Q o a
 |.ex e=>∀a,Same H a->XW X e a
 |.bad=>False
def toI:D->R (Option Int)
 |.int i=>.ok (some i)
 |_=>.bad
def cO:PTO X none (λ_=>.ok none):=by rintro a s σ H Q I ⟨b,c,O,ρ,E,q⟩;exact WE a s σ H Q I (q H<|Same.refl _)
def cC (h:PD X e f):PTO X (some e) (λρ=>(f ρ).bind toI):=by rintro a s σ H Q I ⟨b,c,O,ρ,E,q⟩;exact VA h a s σ H Q I ⟨b,c,O,ρ,E,by
 dsimp only at q;cases e:f ρ with
 |ok d=>
  rw[e]at q;cases d with
  |int i=>exactλv g j k=>by cases k;exact⟨i,rfl,q g j⟩
  |_=>exact aAi q
 |ex x=>rw[e]at q;exact q
 |bad=>rw[e]at q;exact q⟩
def SB (x:D)(lo a:Option Int):R D:=match x with
 |.lst Y=>.ok (.lst (cutD Y lo a))
 |.tup Y=>if HT.sIx Y.length 0 lo=0/\HT.sIx Y.length Y.length a=Y.length then .bad else .ok (.tup (cutD Y lo a))
 |_=>.bad
def xJ {lo A:Option cu}{B:Pos}{k m:Ev->R (Option Int)}(C:PB X a f)(J:PTO X lo k)(L:PTO X A m):
  PD X (.Subscript a (.Slice lo A none B) pos) (λρ=>(f ρ).bind λx=>(k ρ).bind λl=>(m ρ).bind λh=>SB x l h):=by
 refine rR λg s σ H Q I n o O ρ E q=>?_;have t:∀x d l h e,A7 X.K e O x d->(∀p,e p=none->¬O p)->RC X e O (SB d l h) Q->yw X.K x l h e Q\/a0l X.K x l h e Q:=λx d l h e r N q=>by
  cases d with
  |lst Y=>obtain⟨p,u,rfl,v,j⟩:=r.aa4;exact .inl ⟨p,u,rfl,v,λp b=>q _ _ (j3 b _) (.lst (O5.of j2) (N p b) ((sT j).same (j3 b _)))⟩
  |tup Y=>
   obtain⟨p,u,rfl,v,j⟩:=r.tupI;simp only[SB]at q;split at q
   .exact q.elim
   .rename_i T;exact .inr ⟨p,u,rfl,v,by rw[j.length];exact T,λp b=>q _ _ (j3 b _) (.tup (X0.of j2) ((sT j).same (j3 b _)))⟩
  |_=>exact aAi q
 refine LN (UP.or ZN) C J L g s σ H Q I ⟨n,o,O,ρ,E,?_⟩;dsimp only at q;cases w:f ρ with
 |ok d=>
  rw[w]at q;intro x H1 s1 U;refine⟨n,o,O,ρ,E.grow s1,?_⟩;rw[R.aa0]at q;cases y:k ρ with
  |ok l=>
   rw[y]at q;intro H2 s2;refine⟨n,o,O,ρ,(E.grow s1).grow s2,?_⟩;cases z:m ρ with
   |ok h=>rw[z]at q;intro i c;have q':RC X H O (SB d l h) Q:=q;exact t x d l h i ((U.same s2).same c) (λp b=>(((E.grow s1).grow s2).grow c).fresh b) (q'.grow<|s1.trans<|s2.trans c)
   |ex x=>rw[z]at q;exactλi c=>q i (s1.trans<|s2.trans c)
   |bad=>rw[z]at q;exact q
  |ex x=>rw[y]at q;exactλi c=>q i (s1.trans c)
  |bad=>rw[y]at q;exact q
 |ex x=>rw[w]at q;exact q
 |bad=>rw[w]at q;exact q
def KJ {K:ka}{H:Hp}{O:bc->Prop}{vs:List V}{d:D}(r:Paired (A7 K H O) vs [d]):∃v,vs=[v]/\A7 K H O v d:=by
 cases r with
 |cons a b=>cases b;exact⟨_,rfl,a⟩
def pr2 {K:ka}{H:Hp}{O:bc->Prop}{vs:List V}{d d':D}(r:Paired (A7 K H O) vs [d,d']):∃v a,vs=[v,a]/\A7 K H O v d/\A7 K H O a d':=by
 cases r with
 |cons b c=>obtain⟨a,e,f⟩:=KJ c;subst e;exact⟨_,_,rfl,b,f⟩
def WO:List D->R D
 |[.lst Y]=>.ok (.int Y.length)
 |[.tup Y]=>.ok (.int Y.length)
 |_=>.bad
def cI:fJ X (.builtin "len") WO:=by
 intro H O e d Q f r q;match d,q with
 |[.lst Y],q=>obtain⟨v,rfl,z⟩:=KJ r;obtain⟨p,a,rfl,b,c⟩:=z.aa4;exact⟨_,iY,p,a,rfl,.inl b,q _ H (Same.refl _) (by rw[c.length];exact .int)⟩
 |[.tup Y],q=>obtain⟨v,rfl,z⟩:=KJ r;obtain⟨p,a,rfl,b,c⟩:=z.tupI;exact⟨_,iY,p,a,rfl,.inr b,q _ H (Same.refl _) (by rw[c.length];exact .int)⟩
def xx:List D->R D
 |[.int i]=>.ok (.int (if i<0 then-i else i))
 |_=>.bad
def LS:fJ X (.builtin "abs") xx:=by
 intro H O b a Q c r q;match a,q with
 |[.int i],q=>obtain⟨v,rfl,z⟩:=KJ r;cases z.aa7;exact⟨_,PV,i,rfl,q _ H (Same.refl _) .int⟩
def OJ:List D->R D
 |[.lst Y]=>.ok (.tup Y)
 |[.tup Y]=>.ok (.tup Y)
 |_=>.bad
def QP:fJ X (.type "tuple") OJ:=by
 intro H O f e Q g r q;match e,q with
 |[.lst Y],q=>obtain⟨v,rfl,z⟩:=KJ r;obtain⟨p,b,rfl,a,c⟩:=z.aa4;exact⟨_,fQ,p,b,rfl,.inl ⟨a,λl d=>q _ _ (j3 d _) (.tup (X0.of j2) (c.same<|j3 d _))⟩⟩
 |[.tup Y],q=>obtain⟨v,rfl,z⟩:=KJ r;obtain⟨p,b,rfl,a,c⟩:=z.tupI;exact⟨_,fQ,p,b,rfl,.inr ⟨a,q _ _ (Same.refl _) (.tup a c)⟩⟩
def XJ:List D->R D
 |[.lst Y]=>.ok (.lst Y)
 |[.tup Y]=>.ok (.lst Y)
 |_=>.bad
def TK:fJ X (.type "list") XJ:=by
 intro H O g f Q e r q;match f,q with
 |[.lst Y],q=>obtain⟨v,rfl,z⟩:=KJ r;obtain⟨p,b,rfl,c,d⟩:=z.aa4;exact⟨_,jH,p,b,rfl,.inl c,λl a=>q _ _ (j3 a _) (.lst (O5.of j2) (e l a) (d.same<|j3 a _))⟩
 |[.tup Y],q=>obtain⟨v,rfl,z⟩:=KJ r;obtain⟨p,b,rfl,c,d⟩:=z.tupI;exact⟨_,jH,p,b,rfl,.inr c,λl a=>q _ _ (j3 a _) (.lst (O5.of j2) (e l a) (d.same<|j3 a _))⟩
def tyD:D->String
 |.non=> "NoneType"|.bl _=> "bool"|.int _=> "int"|.str _=> "str"|.tup _=> "tuple"|.lst _=> "list"|.dct=> "dict"
def JA (T:String)(d:D):Bool:=tyD d==T||(T== "int"&&tyD d== "bool")
def tZ (T:String):Prop:=∀(K:ka) (d:D),PySem.W.kitOne K (.type (tyD d)) (.type T)=some (JA T d)
def VB:tZ "int":=λK d=>by cases d<;>with_unfolding_all rfl
def LL:tZ "bool":=λK d=>by cases d<;>with_unfolding_all rfl
def IW:tZ "tuple":=λK d=>by cases d<;>with_unfolding_all rfl
def KQ:tZ "list":=λK d=>by cases d<;>with_unfolding_all rfl
def TD {O:bc->Prop}(I:Inv X c σ H s)(l:tZ T)(r:A7 X.K H O v d)(f:RelV v u)(q:Q (.bl (JA T d)) H):
  bb (bo X.prog X.w) X.A (call (.builtin "isinstance") [u,.type T]) (EP X c σ Q) X.xe s:=by
 have e:=l X.K d;have b:∀k,EP X c σ Q (.bool (JA T d)) {s with toks:=k}:=λk=>⟨.bl _,H,I.tok _,rfl,q⟩;cases d with
 |non=>cases r.ac2;cases f;exact PySem.W.kia_one PySem.W.kitx_none I.kIn aGj e (λz=>nomatch z) b
 |bl=>cases r.blI;cases f;exact PySem.W.kia_one PySem.W.kitx_bool I.kIn aGj e (λz=>nomatch z) b
 |int=>cases r.aa7;obtain⟨t,rfl⟩:=f;exact PySem.W.kia_one PySem.W.kitx_int I.kIn aGj e (λz=>nomatch z) b
 |str=>cases r.ac4;obtain⟨t,rfl⟩:=f;exact PySem.W.kia_one PySem.W.kitx_str I.kIn aGj e (λz=>nomatch z) b
 |tup Y=>obtain⟨a,m,rfl,h,_⟩:=r.tupI;cases f;obtain⟨g,_,p,_⟩:=I.tuple h;obtain⟨o,i,j,_⟩:=p;exact PySem.W.kia_one PySem.W.kitx_tuple I.kIn ⟨o,i,j⟩ e (λz=>nomatch z) b
 |lst Y=>obtain⟨a,m,rfl,h,_⟩:=r.aa4;cases f;obtain⟨g,_,p,_⟩:=I.list h;obtain⟨o,n,i,j,_⟩:=p;exact PySem.W.kia_one PySem.W.kitx_list I.kIn ⟨o,i,j⟩ e (λz=>nomatch z) b
 |dct=>obtain⟨a,o,rfl,h,x⟩:=r.af8;cases f;exact PySem.W.kia_one PySem.W.kitx_dict I.kIn ⟨o,(I.hok _ _ h).1,x.1⟩ e (λz=>nomatch z) b
def vV (o:tZ T)(t:PB X a f)(y:dq x=some (.type T):=by decide+kernel)(z:X.mg "isinstance"=none:=by assumption)(g:X.mg x=none:=by assumption)(A:Gl X "isinstance":=by rfl)(i:Gl X x:=by rfl)(B:(x==kb)=false:=by decide)(C:x≠ "__name__":=by decide)(m:a5 [a,.Name x pt] X.env=(false,dz a X.env)::a5 [.Name x pt] X.env:=by rfl)(J:a5 [Expr.Name x pt] X.env=[(false,dz (.Name x pt) X.env)]:=by rfl)(A8:(cv pos (a5 [Expr.Name x pt] X.env)).any (·.1)=false:=by rfl):
  PD X (.Call (.Name "isinstance" p) [a,.Name x pt] [] pos) (λρ=>(f ρ).bind λd=>.ok (.bl (JA T d))):=by
 refine rR λb s σ H Q I L N O ρ E q=>?_;refine aAK (N0 (u:=.builtin "isinstance") I A z (by decide+kernel) ?_);have U:PE X (.Name x pt) (tC<|.ty T):=FC i g y rfl C B;have h:=F9 t (F9 U Z8 (by rw[J];rfl)) m pos b s σ H (λn c=>∃v d,n=[v,.ty T]/\A7 X.K c O v d/\Q (.bl (JA T d)) c) I ⟨L,N,O,ρ,E,by refine LG.mono (LG.seq q) λv c j=>?_;obtain⟨d,_,Y,k,h1⟩:=j;exact⟨v,d,rfl,k,h1 _ c (Same.refl _) .bl⟩⟩
 refine aBr (C4 h λus Y j=>?_) m A8;obtain⟨n,c,I1,k,v,d,e,r,h⟩:=j;subst e;obtain⟨u,w,rfl,ru,l⟩:=vals2 k;cases l;exact TD I1 o r ru h
end
section
variable{K:ka}
def Kp.lst (k:Kp H O H' c){a:bc}{Y:List V}(n:¬O a)(h:O5 K H a Y)(e:∀o,K.lookup a=some o->¬c a):¬c a/\O5 K H' a Y:=by
 rcases h with(h|⟨o,h⟩)|h
 .exact⟨(k _ _ h n).2,.inl (.inl (k _ _ h n).1)⟩
 .exact⟨(k _ _ h n).2,.inl (.inr ⟨o,(k _ _ h n).1⟩)⟩
 .obtain⟨o,b,m,d,f⟩:=h;exact⟨e o d,.inr ⟨o,b,m,d,f⟩⟩
def Kp.tup (k:Kp H O H' c)(b:∀a,O a->∃o,H a=some o/\Mt o){a:bc}{Y:List V}(h:X0 K H a Y):X0 K H' a Y:=by
 rcases h with(h|⟨o,h⟩)|h
 .exact .inl (.inl (k _ _ h λz=>by obtain⟨o,q,m⟩:=b a z;rw[h]at q;cases q;exact m).1)
 .exact .inl (.inr ⟨o,(k _ _ h λz=>by obtain⟨o,q,m⟩:=b a z;rw[h]at q;cases q;exact m).1⟩)
 .exact .inr h
end
def R5 (K:ka)(O:bc->Prop):Prop:=∀a o,K.lookup a=some o->¬O a
def Kp.rep {K:ka}{H H':Hp}{O b:bc->Prop}(k:Kp H O H' b)(c:∀a,O a->∃o,H a=some o/\Mt o)(e:R5 K b){v:V}{d:D}(r:Rep K H O v d):Rep K H' b v d:=
 r.mono (λ_ _ h=>k.tup c h) (λa _ n h=>k.lst n h λo q=>e a o q) λa _ n h=>⟨(k a _ h n).2,(k a _ h n).1⟩
def Kp.ac6 {K:ka}{H H':Hp}{O b:bc->Prop}(k:Kp H O H' b)(c:∀a,O a->∃o,H a=some o/\Mt o)(e:R5 K b){v:List V}{d:List D}(r:Reps K H O v d):Reps K H' b v d:=
 r.mono (λ_ _ h=>k.tup c h) (λa _ n h=>k.lst n h λo q=>e a o q) λa _ n h=>⟨(k a _ h n).2,(k a _ h n).1⟩
inductive Out where
 |nx (ρ:Ev)|rt (d:D)|bk (ρ:Ev)|ct (ρ:Ev)
def RS (X:Cx)(f:Hp)(g:bc->Prop)(H:Hp)(O:bc->Prop)(r:R Out)(D:Ends):Prop:=match r with
 |.ok (.nx ρ)=>∀c a b,EnvOk X.K f g a b c ρ->R5 X.K b->Kp H O a b->D.nx c a
 |.ok (.bk ρ)=>∀c a b,EnvOk X.K f g a b c ρ->R5 X.K b->Kp H O a b->D.bk c a
 |.ok (.ct ρ)=>∀c a b,EnvOk X.K f g a b c ρ->R5 X.K b->Kp H O a b->D.ct c a
 |.ok (.rt d)=>∀v a,Same f a->Rep X.K a g v d->D.rt v a
 |.ex e=>∀a,Same f a->XW X e a
 |.bad=>False
def tS (X:Cx)(a:Hp)(b:bc->Prop)(F:Ev->R Out):TS:=λD σ H=>∃O ρ,EnvOk X.K a b H O σ ρ/\R5 X.K O/\RS X a b H O (F ρ) D
def mU (X:Cx)(st:dm)(F:Ev->R Out):Prop:=∀a b,PS X st (tS X a b F)
def X4 (X:Cx)(st:List dm)(F:Ev->R Out):Prop:=∀a b,uA X st (tS X a b F)
def dj {X:Cx}{st:dm}{t t':TS}(h:PS X st t)(i:∀D σ H,t' D σ H->t D σ H):PS X st t':=λa s σ H D I q=>h a s σ H D I (i D σ H q)
def uL {X:Cx}{st:List dm}{t t':TS}(h:uA X st t)(i:∀D σ H,t' D σ H->t D σ H):uA X st t':=λa s σ H D I q=>h a s σ H D I (i D σ H q)
def CF {X:Cx}{st:dm}{t:TS}{F:Ev->R Out}{a:Hp}{b:bc->Prop}(h:PS X st t)(i:∀D σ H O ρ,EnvOk X.K a b H O σ ρ->R5 X.K O->RS X a b H O (F ρ) D->t D σ H):PS X st (tS X a b F):=dj h λD σ H ⟨O,ρ,E,f,q⟩=>i D σ H O ρ E f q
def a0k {X:Cx}{st:List dm}{t:TS}{F:Ev->R Out}{a:Hp}{b:bc->Prop}(h:uA X st t)(i:∀D σ H O ρ,EnvOk X.K a b H O σ ρ->R5 X.K O->RS X a b H O (F ρ) D->t D σ H):uA X st (tS X a b F):=uL h λD σ H ⟨O,ρ,E,f,q⟩=>i D σ H O ρ E f q
def RS.grow {X:Cx}{g:Hp}{i:bc->Prop}{H j:Hp}{O l:bc->Prop}{r:R Out}{D:Ends}(h:RS X g i H O r D)(k:Kp H O j l):RS X g i j l r D:=by
 cases r with
 |ok o=>
  cases o with
  |nx ρ=>exactλa b c E f q=>h a b c E f (k.trans q)
  |bk ρ=>exactλa b c E f q=>h a b c E f (k.trans q)
  |ct ρ=>exactλa b c E f q=>h a b c E f (k.trans q)
  |rt d=>exact h
 |ex e=>exact h
 |bad=>exact h
def C0 (r:R Out)(F:Ev->R Out):R Out:=match r with
 |.ok (.nx ρ)=>F ρ
 |r=>r
section
variable{st:dm} {rest:List dm}
def RS.seq {a:Hp}{b:bc->Prop}{H:Hp}{O:bc->Prop}{r:R Out}{D:Ends}(h:RS X a b H O (C0 r G) D):RS X a b H O r {D with nx:=tS X a b G D}:=by
 cases r with
 |ok o=>
  cases o with
  |nx ρ=>exactλg i c E f k=>⟨c,ρ,E,f,(show RS X a b H O (G ρ) D from h).grow k⟩
  |bk ρ=>exact h
  |ct ρ=>exact h
  |rt d=>exact h
 |ex e=>exact h
 |bad=>exact h
def p9:X4 X [] (λρ=>.ok (.nx ρ)):=λa b=>a0k TU λD σ H O ρ E f q=>q σ H O E f (Kp.refl _ _)
def c5 (c:mU X st F)(d:X4 X rest G):X4 X (st::rest) (λρ=>C0 (F ρ) G):=λa b=>a0k (yH (c a b)<|d a b) λD σ H O ρ E f q=>⟨O,ρ,E,f,RS.seq q⟩
def d8 (a:mU X st F):X4 X [st] F:=λb c=>vY (a b c)
def j1 {e:cu}{f:Ev->R D}(c:PD X e f):mU X (.Return (some e) pos) (λρ=>(f ρ).bind λd=>.ok (.rt d)):=λg h=>CF (CG c) λD σ H O ρ E i q=>⟨g,h,O,ρ,E,by
 cases a:f ρ with
 |ok d=>rw[a]at q;exactλv b s r=>q v b (E.same.trans s) (r.sub E.sub)
 |ex x=>rw[a]at q;exactλb s=>q b (E.same.trans s)
 |bad=>rw[a]at q;exact q⟩
def i9 (i:Nat){x:Str}{e:cu}{f:Ev->R D}{a:Pos}(g:PD X e f)(h:X.N.Nodup)(j:X.N[i]?=some x:=by rfl)(k:Loc X.env.scope x:=by first|exact aCG rfl|exact aBL rfl)
  (l:et e (some (.Name x a)) pos.line X.env=pure false:=by rfl) (m:X.fn x=true\/X.env.scope.names.lookup x=some .local:=by first|exact .inl rfl|exact .inr rfl|assumption):
  mU X (.Assign [.Name x a] e pos) (λρ=>(f ρ).bind λd=>.ok (.nx (ρ.set i (.v d)))):=λn o=>CF (OL h j k g l m) λD σ H O ρ E p q=>⟨n,o,O,ρ,E,by
 cases b:f ρ with
 |ok d=>rw[b]at q;exactλv c s r=>q _ c O ((E.grow s).set i r) p (Kp.of s)
 |ex x=>rw[b]at q;exactλc s=>q c (E.same.trans s)
 |bad=>rw[b]at q;exact q⟩
def A0 {c:cu}{a b:List dm}{d:Ev->R Bool}(j:CP X c d)(k:X4 X a F)(l:X4 X b G):mU X (.If c a b pos) (λρ=>(d ρ).bind λt=>if t=true then F ρ else G ρ):=λe f=>CF (a0p j (k e f)<|l e f) λD σ H O ρ E h q=>⟨e,f,O,ρ,E,by
 cases g:d ρ with
 |ok t=>
  rw[g]at q;intro i s;cases t with
  |true=>rw[ji rfl];exact⟨O,ρ,E.grow s,h,RS.grow q (Kp.of s)⟩
  |false=>rw[jn aAV];exact⟨O,ρ,E.grow s,h,RS.grow q (Kp.of s)⟩
 |ex x=>rw[g]at q;exactλi s=>q i (E.same.trans s)
 |bad=>rw[g]at q;exact q⟩
def lq (K:ka)(J:It)(H:Hp)(O:bc->Prop)(ds:List D):Prop:=∀b c,Kp H O b c->R5 K c->(∀a,O a->∃o,H a=some o/\Mt o)->(∀a,c a->∃o,b a=some o/\Mt o)->∀i:Nat,
 (∀d,ds[i]?=some d->J.go i b/\∀x e,J.yld i b x e->Same b e/\Rep K e c x d)/\(ds[i]?=none->J.stop i b)
def tI (X:Cx)(f:Ev->R (List D)):TI:=λσ H R=>∃b c O ρ,EnvOk X.K b c H O σ ρ/\R5 X.K O/\match f ρ with
 |.ok d=>∀J a,Same H a->lq X.K J a O d->R J a
 |.ex e=>∀a,Same H a->XW X e a
 |.bad=>False
def gk (X:Cx)(a B7:cu)(f:Ev->R (List D)):Prop:=PI X a B7 (tI X f)
def RI (h:PI X b B7 t)(i:∀σ H R,t' σ H R->t σ H R):PI X b B7 t':=λa s σ H R I q=>h a s σ H R I (i σ H R q)
def nF:D->R (List D)
 |.lst Y=>.ok Y
 |_=>.bad
def GR:D->R (List D)
 |.tup Y=>.ok Y
 |_=>.bad
def t7 (h:PD X B7 f):gk X B B7 (λρ=>(f ρ).bind nF):=RI (VI h) λσ H R ⟨l,m,O,ρ,E,C,q⟩=>⟨l,m,O,ρ,E,by
 dsimp only at q;cases e:f ρ with
 |ok d=>
  rw[e]at q;cases d with
  |lst Y=>
   intro v p s r;cases r with
   |lst h n r=>
    rename_i a b;refine⟨a,rfl,⟨b,h⟩,q (Itl X.K a) p s ?_⟩;intro I J k g t u i;obtain⟨L,c⟩:=k.lst n h λo q=>g a o q;have w:=k.ac6 t g r;refine⟨λd e=>?_,λe=>⟨b,c,by rw[r.length];exact aCq.mp e⟩⟩;obtain⟨v,j,y⟩:=w.get e;exact⟨⟨b,v,c,j⟩,by rintro x N ⟨z,A⟩;subst z;have:=A b c;rw[j]at this;cases this;exact⟨Same.refl _,y⟩⟩
  |_=>exact aAi q
 |ex x=>rw[e]at q;exact q
 |bad=>rw[e]at q;exact q⟩
def GA (h:PD X B7 f):gk X z B7 (λρ=>(f ρ).bind GR):=RI (YZ h) λσ H R ⟨l,m,O,ρ,E,A,q⟩=>⟨l,m,O,ρ,E,by
 dsimp only at q;cases e:f ρ with
 |ok d=>
  rw[e]at q;cases d with
  |tup Y=>
   intro v n s r;cases r with
   |tup h r=>
    rename_i a b;refine⟨a,rfl,⟨b,h⟩,q (Itt X.K a) n s ?_⟩;intro B C k o g p i;have c:=k.tup g h;have t:=k.ac6 g o r;refine⟨λd e=>?_,λe=>⟨b,c,by rw[r.length];exact aCq.mp e⟩⟩;obtain⟨v,j,u⟩:=t.get e;exact⟨⟨b,v,c,j⟩,by rintro x I ⟨w,y⟩;subst w;have:=y b c;rw[j]at this;cases this;exact⟨Same.refl _,u⟩⟩
  |_=>exact aAi q
 |ex x=>rw[e]at q;exact q
 |bad=>rw[e]at q;exact q⟩
def YS (lo c:Int)(n:Nat):It:=⟨λi _=>i<n,λi H x a=>a=H/\x=.int (lo+i*c),λi _=>n<=i⟩
def yD {P:bu}{w:cp}{K:ka}{J:cu}(it:bc)(lo c:Int)(n:Nat):Turn P w K J (YS lo c n) [it] it (λi h=>IsRangeIter h it (lo+(i:Nat)*c) ((n:Int)-(i:Nat)) c)where
 mem:=by simp
 obj:=λi h st b d=>by
  have e:b=it:=by simpa using d
  subst e;exact⟨_,st,λv z=>by have L:Data.fields _=Data.cell v:=z;cases L⟩
 keep:=λi h g st k=>k it (by simp) _ st
 item:=by intro X l m p q i a s σ H E I j st r;subst l m p;obtain⟨u,x,N,y,A,B⟩:=j it (by simp);have W:=Walks.range (prog:=X.prog) (w:=X.w) (I.ok.hd q) it lo c n;refine W.item i s _ _ r st λv g C O f kk=>?_;obtain⟨t,rfl⟩:=O;have Q:Inv X a σ H {s with heap:=g,toks:=C}:=I.turned (λb o d e=>kk b o (by simpa using d) e) u x y A B;exact⟨_,rfl,PM (s:={s with heap:=g,toks:=C}) (n:= "range_iterator") f rfl rfl (by decide) ⟨.int (lo+i*c),H,Q,⟨t,rfl⟩,⟨rfl,rfl⟩,f,λb d=>(j b d).1⟩⟩
 done:=by intro X l m p q i a s σ H E I j st r;subst l m p;obtain⟨u,x,N,y,A,B⟩:=j it (by simp);exact wpAny_pyNext_range_end (I.ok.hd q) st (by have:n<=i:=r;lia) λg T=>⟨rfl,I.turned (t':=s.toks) (λb o d e=>T b o d e) u x y A B⟩
 self:=λ_ _ _ _ _ st h=>wpAny_pyIter_rangeiter st h
def EH (lo c:Int)(n:Nat):List D:=(aBK n).map λ(k:Nat)=>D.int (lo+(k:Int)*c)
def kI (K:ka)(H:Hp)(O:bc->Prop)(lo c:Int)(n:Nat):lq K (YS lo c n) H O (EH lo c n):=by
 intro h j k l m b i;unfold EH;rw[aAM];by_cases a:i<n
 .rw[List.getElem?_range a];refine⟨λd e=>?_,λe=>(by cases e)⟩;cases e;exact⟨a,by rintro x o ⟨f,g⟩;subst f g;exact⟨Same.refl _,.int⟩⟩
 .rw[aCq.mpr (by simpa using a)];exact⟨λd e=>(by cases e),λ_=>aEm a⟩
def mV (a b c:Int):Nat:=if a<b then((b-a-1)/c+1).toNat else 0
def JC (d:0<c):aCB a b c=(mV a b c:Int):=by
 unfold aCB mV;rw[ji (by lia)];split
 .have:0<=(b-a-1)/c:=Int.ediv_nonneg (by lia) (by lia)
  lia
 .rfl
def JL (j:0<c)(k:c<2^30)(l:-(2^60)<=a)(i:a<2^60)(m:-(2^60)<=b)(n:b<2^60):aFY a b c=true:=by
 unfold aFY;have e:aCB a b c=if a<b then(b-a-1)/c+1 else 0:=by unfold aCB;rw[ji (by lia)]
 rw[e];have d:a<b->(b-a-1)/c<=b-a-1:=λh=>Int.ediv_le_self _ (by lia);have f:a<b->0<=(b-a-1)/c:=λh=>Int.ediv_nonneg (by lia) (by lia);have g:a<b->(b-a-1)/c*c<=b-a-1:=λh=>Int.ediv_mul_le _ (by lia);simp only[Builtin.Range.rangeFitsLong,aAJ,Bool.or_eq_true,decide_eq_true_eq,beq_iff_eq,show c>0 by lia,if_true];split
 .rename_i h;have d:=d h;have f:=f h;have g:=g h;generalize(b-a-1)/c=q at*
  lia
 .lia
def tH (a b c:Int):Prop:=0<c/\c<2^30/\-(2^60)<=a/\a<2^60/\-(2^60)<=b/\b<2^60
instance(a b c:Int):Decidable (tH a b c):=inferInstanceAs (Decidable<|_/\_)
def mO:List D->R (List D)
 |[.int b]=>if tH 0 b 1 then .ok (EH 0 1 (mV 0 b 1))else .bad
 |[.int a,.int b]=>if tH a b 1 then .ok (EH a 1 (mV a b 1))else .bad
 |[.int a,.int b,.int c]=>if tH a b c then .ok (EH a c (mV a b c))else .bad
 |_=>.bad
def kX {R:It->Hp->Prop}{E:C7}(I:Inv X d σ H s)(h:tH a b c)(q:R (YS a c (mV a b c)) H):bb (bo X.prog X.w) X.A (pyIter (.ref s.heap.objs.size)) (PIE X d σ y R) E {s with heap:=s.heap.push {cls:=.type "range",data:=.fields #[.int a t,.int b u,.int c v]},toks:=tk}:=by
 obtain⟨g,i,j,k,l,m⟩:=h;refine wpAny_pyIter_range (IsRange.new ..) (JL g i j k l m) ?_;have f:Inv X d σ H {s with heap:=s.heap.push {cls:=.type "range",data:=.fields #[.int a t,.int b u,.int c v]},toks:=tk}:=I.kept λb o e=>aAc _ e;refine⟨(s.heap.push {cls:=.type "range",data:=.fields #[.int a t,.int b u,.int c v]}).objs.size,[(s.heap.push {cls:=.type "range",data:=.fields #[.int a t,.int b u,.int c v]}).objs.size],_,_,H,rfl,
  f.kept (t':=tk) λb o e=>aAc _ e,yD _ a c (mV a b c),?_,λn p=>?_,q⟩
 .have r:a+((0:Nat):Int)*c=a:=by simp
  have x:((mV a b c:Nat):Int)-((0:Nat):Int)=aCB a b c:=by rw[JC g];simp
  show IsRangeIter _ _ (a+((0:Nat):Int)*c) (((mV a b c:Nat):Int)-((0:Nat):Int)) c;rw[r,x];exact aAr _ rfl
 .have e:n=(s.heap.push {cls:=.type "range",data:=.fields #[.int a t,.int b u,.int c v]}).objs.size:=by simpa using p
  subst e;exact f.af6 (aAh _) (f.hok.fresh<|aAh _)
def QA {R:It->Hp->Prop}{O:bc->Prop}(I:Inv X e σ H s)(r:Paired (A7 X.K H O) vs ds)(f:n4 vs us)(h:mO ds=.ok i)(q:∀J,lq X.K J H O i->R J H):bb (bo X.prog X.w) X.A (call (.type "range") us) (λv j=>bb (bo X.prog X.w) X.A (pyIter v) (PIE X e σ x R) X.xe j) X.xe s:=by
 match ds,h with
 |[.int b],h=>
  obtain⟨v,rfl,z⟩:=KJ r;cases z.aa7;obtain⟨u,rfl,t,rfl⟩:=vals1 f;simp only[mO]at h;split at h
  .rename_i d;cases h;exact call_range_1 (kX I d<|q _<|kI _ _ _ _ _ _)
  .cases h
 |[.int a,.int b],h=>
  obtain⟨v,k,rfl,z,g⟩:=pr2 r;cases z.aa7;cases g.aa7;obtain⟨u,l,rfl,⟨t,rfl⟩,⟨m,rfl⟩⟩:=vals2 f;simp only[mO]at h;split at h
  .rename_i d;cases h;exact call_range_2 (kX I d<|q _<|kI _ _ _ _ _ _)
  .cases h
 |[.int a,.int b,.int c],h=>
  cases r with
  |cons n r=>
   obtain⟨v,k,rfl,z,g⟩:=pr2 r;cases n.aa7;cases z.aa7;cases g.aa7;cases f with
   |cons o f=>
    obtain⟨u,l,rfl,⟨t,rfl⟩,⟨m,rfl⟩⟩:=vals2 f;obtain⟨y,rfl⟩:=o;simp only[mO]at h;split at h
    .rename_i d;cases h;have p:=d;obtain⟨B,C,_⟩:=p;exact call_range_3 (by lia) (kX (tk:=s.toks) I d<|q _<|kI _ _ _ _ _ _) (.inl (PyProof.noPylong_small (by lia)))
    .cases h
def eU {o e:cu}{es:List cu}{p:Pos}{f:Ev->R (List D)}(t:ZE X (e::es) f)(u:Gl X "range":=by rfl)(v:X.mg "range"=none:=by assumption)
  (w:a5 (e::es) X.env=(false,dz e X.env)::a5 es X.env:=by rfl) (A8:(cv pos (a5 es X.env)).any (·.1)=false:=by rfl):
  gk X o (.Call (.Name "range" p) (e::es) [] pos) (λρ=>(f ρ).bind mO):=by
 rintro i s σ H Q I ⟨y,z,O,ρ,E,T,q⟩;dsimp only at q;refine Call_ (N0 I u v boot_range<|aBp (C4 (t pos i s σ H (λk g=>∃h j,Same H g/\Paired (A7 X.K g O) k h/\mO h=.ok j/\∀J,lq X.K J g O j->Q J g) I ⟨y,z,O,ρ,E,?_⟩) λU l A=>?_) w A8)
 .cases m:f ρ with
  |ok h=>
   rw[m]at q;intro k g l n;rw[R.aa0]at q;cases d:mO h with
   |ok j=>rw[d]at q;exact⟨h,j,l,n,d,λJ B=>q J g l B⟩
   |ex x=>
    rw[d]at q;match h,d with
    |[.int b],d=>simp only[mO]at d;split at d<;>cases d
    |[.int a,.int b],d=>simp only[mO]at d;split at d<;>cases d
    |[.int a,.int b,.int c],d=>simp only[mO]at d;split at d<;>cases d
   |bad=>rw[d]at q;exact q.elim
  |ex x=>rw[m]at q;exact q
  |bad=>rw[m]at q;exact q
 .obtain⟨k,g,C,n,h,j,Y,r,L,N⟩:=A;exact QA C r n L N
def tG (X:Cx)(G:D->Ev->R Ev):TG:=λv σ H Q=>∃b c O ρ d e,EnvOk X.K b c H O σ ρ/\Rep X.K H O v d/\G d ρ=.ok e/\∀f a,Same H a->EnvOk X.K b c a O f e->Q f a
def MD (X:Cx)(a:cu)(G:D->Ev->R Ev):Prop:=PG X a (tG X G)
def YV (h:PG X b t)(i:∀v σ H Q,t' v σ H Q->t v σ H Q):PG X b t':=λa s σ H v u Q I r q=>h a s σ H v u Q I r (i v σ H Q q)
def u6 (i:Nat)(a:X.N.Nodup)(b:X.N[i]?=some x:=by rfl)(c:Loc X.env.scope x:=by first|exact aCG rfl|exact aBL rfl)(f:X.fn x=true\/X.env.scope.names.lookup x=some .local:=by first|exact .inl rfl|exact .inr rfl|assumption):
  MD X (.Name x pos) (λd ρ=>.ok (ρ.set i (.v d))):=YV (SL a b c f)<|by
 rintro v σ H Q ⟨g,h,O,ρ,d,j,E,r,e,q⟩;cases e;exact q _ H (Same.refl _) (E.set i r)
def tGs (X:Cx)(G:List D->Ev->R Ev):fx:=λg σ H Q=>∃b c O ρ d e,EnvOk X.K b c H O σ ρ/\Reps X.K H O g d/\G d ρ=.ok e/\∀f a,Same H a->EnvOk X.K b c a O f e->Q f a
def UM (X:Cx)(a:List cu)(G:List D->Ev->R Ev):Prop:=pk X a (tGs X G)
def FH {b:List cu}{t t':fx}(h:pk X b t)(i:∀v σ H Q,t' v σ H Q->t v σ H Q):pk X b t':=λa s σ H v u Q I r q=>h a s σ H v u Q I r (i v σ H Q q)
def NT:List D->Ev->R Ev
 |[],ρ=>.ok ρ
 |_,_=>.bad
def qD (G:D->Ev->R Ev)(a:List D->Ev->R Ev):List D->Ev->R Ev
 |d::b,ρ=>(G d ρ).bind λc=>a b c
 |_,_=>.bad
def xY:UM X [] NT:=FH VY<|by
 rintro a σ H Q ⟨b,c,O,ρ,d,f,E,r,e,q⟩;cases r with
 |nil=>cases e;exact⟨rfl,q σ H (Same.refl _) E⟩
 |cons _ _=>cases e
def aQ {e:cu}{es:List cu}{G:D->Ev->R Ev}{c:List D->Ev->R Ev}(k:MD X e G)(l:UM X es c)
  (m:(eR (e::es) X.env).map (·.2)=il e X.env::(eR es X.env).map (·.2):=by rfl):UM X (e::es) (qD G c):=FH (NA k l m)<|by
 rintro f σ H Q ⟨g,h,O,ρ,i,n,E,r,e,q⟩;cases r with
 |nil=>cases e
 |@cons v d f i r o=>
  simp only[qD]at e;cases b:G d ρ with
  |ok a=>rw[b]at e;exact⟨v,f,rfl,g,h,O,ρ,d,a,E,r,b,λp z j s=>⟨g,h,O,a,i,n,s,o.same j,e,λt u w y=>q t u (j.trans w) y⟩⟩
  |ex x=>rw[b]at e;cases e
  |bad=>rw[b]at e;cases e
def yI (n:Nat)(b:List D->Ev->R Ev):D->Ev->R Ev
 |.tup a,ρ=>if a.length=n then b a ρ else .bad
 |.lst a,ρ=>if a.length=n then b a ρ else .bad
 |_,_=>.bad
end
section
theorem sI (e:t≠it):∀(n i:Nat) (s:a9) (Q:List af->a9->Prop),s.heap.IsListIter it t i->s.heap.IsList t items->i+n<=items.size->
  (∀h',h'.IsListIter it t (i+n)->Heap.SameBut it s.heap h'->Q ((items.toList.drop i).take n) {s with heap:=h'})->bb (bo prog w) A (draw (.ref it) n) Q E s
 |0,i,s,Q,a,_,_,d=>by show bb _ _ (pure []) Q E s;exact aAb (by simpa using d s.heap a (aGk ..))
 |n+1,i,s,Q,a,f,k,d=>by
  have g:i<items.size:=by omega
  show bb _ _ (gv (.ref it)>>=_) Q E s;refine aAa (wpAny_pyNext_list_item a f (x:=items[i]) (by simp[g]) λh b j=>?_);refine aAa (aAP (sI e n (i+1) _ _ b (f.extBut j.extBut e) (by omega) λl c m=>aAb ?_));have o:items.toList.drop i=items[i]::items.toList.drop (i+1):=by simp[aDC,g]
  have:=d l (by rw[show i+(n+1)=i+1+n by omega];exact c) (j.trans m);rw[o,List.take_succ_cons]at this;exact this
def kE {Q:List af->a9->Prop}(m:A.handled=none)(f:s.heap.IsList t items)(n:∀h',Heap.ExtBut s.heap.objs.size s.heap h'->Q items.toList {s with heap:=h'}):bb (bo prog w) A (unpackItems (.ref t) items.size none) Q E s:=by
 have j:t≠s.heap.objs.size:=by obtain⟨o,g,_⟩:=f;exact aAk (aAf g)
 unfold unpackItems;refine aAa ?_
 .unfold notIterableAtAll;refine aAa (aBz f.typeIs slot_list_iter.lookup ?_);refine aAb ?_;simp only[aAn,if_false];refine aAa (aAP<|aDx f ?_);have a:(s.heap.push {cls:=.type "list_iterator",data:=.fields #[.ref t,.int 0 0]}).IsList t items:=by obtain⟨o,g,r⟩:=f;exact⟨o,aAc _ g,r⟩
  refine aAa (aAP (sI j items.size 0 _ _ ⟨_,aAr _ rfl,rfl,rfl⟩ a (by omega) λc d k=>?_));have p:List.take items.size (List.drop 0 items.toList)=items.toList:=by rw[aFV];exact List.take_of_length_le (by simp)
  rw[p];rw[jn (by simp)];have h:c.IsList t items:=a.extBut k.extBut j;refine aAa (aAP (wpAny_pyNext_list_end m d h (by simp) λq i=>?_));simp only[Option.isSome_none,aAn,if_false];refine aAb (n q λb o l e=>i b o l (k.extBut b o l<|aAc _ e))
def iR {c}{Q:Unit->a9->Prop}(d:A.handled=none)(e:s.heap.IsList t items)(f:(eR a env).length=items.size)(b:(eR a env).findIdx? (·.1)=none)(h:∀h',Heap.ExtBut s.heap.objs.size s.heap h'->bb (bo prog w) A (gB ((eR a env).map (·.2)) items.toList) Q E {s with heap:=h'}):
  bb (bo prog w) A (il (.Tuple a c pos) env (.ref t)) Q E s:=by
 rw[assign_Tuple];refine aAa (aDP ?_);unfold unpack;rw[f,b];exact aAa (aAP<|kE d e h)
end
section
def GN (z:X.calm=true)(h:UM X es N)(A:(eR es X.env).length=n:=by rfl)(B:(eR es X.env).findIdx? (·.1)=none:=by rfl):MD X (.Tuple es k pos) (yI n N):=by
 rintro c s σ H v u Q I r ⟨C,J,O,ρ,d,L,E,T,e,q⟩;cases T with
 |@tup a i j l f=>
  cases r;simp only[yI]at e;split at e
  .rename_i m;obtain⟨p,g,t,U⟩:=I.tuple l;refine assign_Tuple_tuple (I.ok.hd z) t (by simp[A,<-m,<-f.length,g.length]) B λw x=>?_;have y:Inv X c σ H {s with heap:=w}:=I.kept (t':=s.toks) λb o e=>x b o (aAk<|aAf e) e;exact h c _ σ H i _ Q y (by simpa using g) ⟨C,J,O,ρ,j,L,E,f,e,q⟩
  .cases e
 |@lst a i j l _ f=>
  cases r;simp only[yI]at e;split at e
  .rename_i m;obtain⟨p,g,t,U⟩:=I.list l;refine iR (I.ok.hd z) t.isList (by simp[A,<-m,<-f.length,g.length]) B λw x=>?_;have y:Inv X c σ H {s with heap:=w}:=I.kept (t':=s.toks) λb o e=>x b o (aAk<|aAf e) e;exact h c _ σ H i _ Q y (by simpa using g) ⟨C,J,O,ρ,j,L,E,f,e,q⟩
  .cases e
 |_=>cases e
def aj (f:Ev->R D)(G:D->Ev->R Ev):Ev->R Out:=λρ=>(f ρ).bind λd=>match G d ρ with
 |.ok a=>.ok (.nx a)
 |_=>.bad
def TZ (j:PD X e f)(k:MD X a G)(l:gC [a] e pos.line X.env=pure false:=by rfl)(m:gW [a] e X.env=pure none:=by rfl)(n:(eR [a] X.env).map (·.2)=[il a X.env]:=by rfl):mU X (.Assign [a] e pos) (aj f G):=λg h=>CF (LI j k l m n) λD σ H O ρ E o q=>⟨g,h,O,ρ,E,by
 unfold aj at q;cases c:f ρ with
 |ok d=>
  rw[c,R.aa0]at q;intro v i s r;cases b:G d ρ with
  |ok p=>rw[b]at q;exact⟨g,h,O,ρ,d,p,E.grow s,r,b,λt u w y=>q t u O y o (Kp.of<|s.trans w)⟩
  |ex x=>rw[b]at q;exact aAi q
  |bad=>rw[b]at q;exact aAi q
 |ex x=>rw[c]at q;exactλi s=>q i (E.same.trans s)
 |bad=>rw[c]at q;exact q⟩
def NG (i j:Nat){c k2 AS}(l:X.calm=true)(m:X.N.Nodup)(n:xF X [a,b] f)(o:X.N[i]?=some x:=by rfl)(p:X.N[j]?=some y:=by rfl)(t:i≠j:=by decide)(u:X.env.scope.names.lookup x=some .local:=by rfl)(w:X.env.scope.names.lookup y=some .local:=by rfl)(z:gW [.Tuple [.Name x h,.Name y k] c pt] (.Tuple [a,b] k2 AS) X.env=pure (some [x,y]):=by rfl)(A:gC [.Tuple [.Name x h,.Name y k] c pt] (.Tuple [a,b] k2 AS) pos.line X.env=pure false:=by rfl):
  mU X (.Assign [.Tuple [.Name x h,.Name y k] c pt] (.Tuple [a,b] k2 AS) pos) (λρ=>(f ρ).bind λds=>match ds with
   |[d,d']=>.ok (.nx ((ρ.set i (.v d)).set j (.v d')))
   |_=>.bad):=λB C=>CF (ZG l m o p t u w n z A) λD σ H O ρ E I q=>⟨B,C,O,ρ,E,by
 cases e:f ρ with
 |ok ds=>
  rw[e,R.aa0]at q;intro Q g s r;cases r with
  |nil=>exact aAi q
  |cons J r=>
   cases r with
   |nil=>exact aAi q
   |cons L r=>
    cases r with
    |nil=>exact⟨_,_,rfl,q _ g O (((E.grow s).set i J).set j L) I (Kp.of s)⟩
    |cons _ _=>exact aAi q
 |ex x=>rw[e]at q;exactλg s=>q g (E.same.trans s)
 |bad=>rw[e]at q;exact q⟩
def AN (i j l:Nat){L k2 AS}(hc:X.calm=true)(Q:X.N.Nodup)(ha:xF X [a,b,c] f)(hi:X.N[i]?=some x:=by rfl)(hj:X.N[j]?=some y:=by rfl)(hl:X.N[l]?=some z:=by rfl)(hx:X.env.scope.names.lookup x=some .local:=by rfl)(hy:X.env.scope.names.lookup y=some .local:=by rfl)(hz:X.env.scope.names.lookup z=some .local:=by rfl)(hw:gW [.Tuple [.Name x px,.Name y py,.Name z pz] L pt] (.Tuple [a,b,c] k2 AS) X.env=pure (some [x,y,z]):=by rfl)(hs:gC [.Tuple [.Name x px,.Name y py,.Name z pz] L pt] (.Tuple [a,b,c] k2 AS) pos.line X.env=pure false:=by rfl):
  mU X (.Assign [.Tuple [.Name x px,.Name y py,.Name z pz] L pt] (.Tuple [a,b,c] k2 AS) pos) (λρ=>(f ρ).bind λds=>match ds with
   |[d,d',T]=>.ok (.nx (((ρ.set l (.v T)).set j (.v d')).set i (.v d)))
   |_=>.bad):=by
 rintro Ha O0 g s σ H D I ⟨O,ρ,E,fk,q⟩;dsimp only at q;rw[exec_Assign_arm];refine aAa (aDP ?_);rw[hs];refine aAa (aAb ?_);rw[jn (by decide)];refine aAa (Tuple_<|C4 (ha _ g s σ H (λU h=>∃v1 J v3 Y d2 d3,U=[v1,J,v3]/\Same H h/\Rep X.K h O v1 Y/\Rep X.K h O J d2/\Rep X.K h O v3 d3/\RS X Ha O0 H O (.ok (.nx (((ρ.set l<|.v d3).set j (.v d2)).set i (.v Y)))) D) I ⟨Ha,O0,O,ρ,E,?_⟩) λus k z9=>?_)
 .cases B:f ρ with
  |ok ds=>
   rw[B,R.aa0]at q;intro U H' s r;cases r with
   |nil=>exact aAi q
   |cons C r=>
    cases r with
    |nil=>exact aAi q
    |cons r2 r=>
     cases r with
     |nil=>exact aAi q
     |cons r3 r=>
      cases r with
      |nil=>exact⟨_,_,_,_,_,_,rfl,s,C,r2,r3,q⟩
      |cons _ _=>exact aAi q
  |ex x=>rw[B]at q;exactλH' s=>q H' (E.same.trans s)
  |bad=>rw[B]at q;exact q
 .obtain⟨U,h,I1,C,q1⟩:=z9;obtain⟨v1,J,v3,Y,d2,d3,B,sm,p1,p2,p3,q⟩:=q1;subst B;obtain⟨m,n,t,rfl,rv1,rv2,rv3⟩:∃m n t,us=[m,n,t]/\RelV v1 m/\RelV J n/\RelV v3 t:=by
   cases C with
   |cons p C=>obtain⟨u,w',e,p',p''⟩:=vals2 C;subst e;exact⟨_,_,_,rfl,p,p',p''⟩
  refine aBo ?_ (by show 3<=sizeLine;decide);have I2:Inv X g σ h {k with heap:=k.heap.push {cls:=.type "tuple",data:=.seq [m,n,t].toArray}}:=I1.kept (t':=k.toks) λb o e=>aAc _ e;rw[hw];refine aAa (aAb ?_);show bb (bo X.prog X.w) X.A (do rule "assign.swapped-stores";let items<-unpackItems (.ref k.heap.objs.size) 3 none;gB [λv=>hE X.env z v,λv=>hE X.env y v,λv=>hE X.env x v] items.reverse;pure Flow.next) _ _ _;refine aAa (aDi<|aAa<|unpackItems_tuple (items:=#[m,n,t]) (I.ok.hd hc) (IsTup.new k.heap _) λh' hx'=>?_);have I3:=I2.kept (h':=h') (t':=k.toks) λb o e=>hx' b o (aAk<|aAf e) e;show bb _ _ (gB [λv=>hE X.env z v,λv=>hE X.env y v,λv=>hE X.env x v] [t,n,m]>>=λ_=>pure Flow.next) _ _ _;refine aAa (aCP<|aEa<|F1 I3 Q hl (.inl hz) rv3 (λs2 I4=>?_)<|.inr hz);refine aCP (aEa<|F1 I4 Q hj (.inl hy) rv2 (λs3 I5=>?_)<|.inr hy);refine aCP (aEa<|F1 I5 Q hi (.inl hx) rv1 (λs4 I6=>aFg (aAb ?_))<|.inr hx);exact⟨_,h,I6,q _ h O ((((E.grow sm).set l p3).set j p2).set i p1) fk (Kp.of sm)⟩
def P1 (G:D->Ev->R Ev)(F:Ev->R Out):List D->Ev->R Out
 |[],ρ=>.ok (.nx ρ)
 |d::c,ρ=>match G d ρ with
  |.ok b=>match F b with
   |.ok (.nx a)=>P1 G F c a
   |.ok (.ct a)=>P1 G F c a
   |.ok (.bk a)=>.ok (.nx a)
   |r=>r
  |_=>.bad
def J3 (hp:PassesOwn (bo X.prog X.w) X.A X.env X.xe)(hc:X.calm=true)(hi:gk X tg B7 f)(hg:MD X tg G)(hb:X4 X body F)(hs:∀x,f6 B7 X.env x=pure x:=by intro _;rfl):mU X (.For tg B7 body [] pos) (λρ=>(f ρ).bind λds=>P1 G F ds ρ):=λh j=>CF (YR hp hc hi hg (hb h j) hs) λD σ H O ρ E fk q=>⟨h,j,O,ρ,E,fk,by
 cases N:f ρ with
 |ex x=>rw[N]at q;exactλg s=>q g (E.same.trans s)
 |bad=>rw[N]at q;exact q
 |ok ds=>
  rw[N,R.aa0]at q;intro J H1 Q hJ;refine⟨λi m T g=>m=ds.length-i/\i<=ds.length/\∃c u,EnvOk X.K h j g c T u/\R5 X.K c/\Kp H1 O g c/\RS X h j g c (P1 G F (ds.drop i) u) D,⟨ds.length,by simp,aBe _,O,ρ,E.grow Q,fk,Kp.refl _ _,?_⟩,?_⟩
  .rw[aFV];exact q.grow (Kp.of Q)
  .rintro i m T g ⟨rfl,hi,c,u,U,k,Y,a⟩;have v:=hJ g c Y k (E.grow Q).trk U.trk i;by_cases bg:i<ds.length
   .obtain⟨go,yl⟩:=v.1 ds[i] (aAg bg);refine .inr ⟨go,λxm t=>∃I b,EnvOk X.K h j t I xm b/\R5 X.K I/\Kp H1 O t I/\RS X h j t I (P1 G F (ds.drop<|i+1) b) D,λxm t p=>⟨ds.length-(i+1),by omega,rfl,bg,p⟩,λx t y=>?_⟩;obtain⟨s2,r2⟩:=yl x t y;rw[aDC bg,P1]at a;cases L:G ds[i] u with
    |ex x=>rw[L]at a;exact(show False from a).elim
    |bad=>rw[L]at a;exact(show False from a).elim
    |ok l=>
     rw[L]at a;dsimp only at a;refine⟨h,j,c,u,ds[i],l,U.grow s2,r2,L,λug H3 s3 E3=>⟨c,l,E3,k,?_⟩⟩;have kk:Kp g c H3 c:=Kp.of (s2.trans s3);cases e3:F l with
     |ex x=>rw[e3]at a;exact a
     |bad=>rw[e3]at a;exact a
     |ok o=>
      rw[e3]at a;cases o with
      |nx b=>exactλn H4 z B C r=>⟨z,b,B,C,Y.trans (kk.trans r),RS.grow a (kk.trans r)⟩
      |ct b=>exactλn H4 z B C r=>⟨z,b,B,C,Y.trans (kk.trans r),RS.grow a (kk.trans r)⟩
      |bk b=>exactλn H4 z B C r=>a n H4 z B C (kk.trans r)
      |rt d=>exact a
   .have e:i=ds.length:=by omega
    subst e;rw[List.drop_length,P1]at a;exact .inl ⟨v.2 (by simp),a T g c U k (Kp.refl _ _)⟩⟩
def T0 (c:Ev->R Bool)(F:Ev->R Out):Nat->Ev->R Out
 |0,_=>.bad
 |n+1,ρ=>(c ρ).bind λb=>if b=true then(match F ρ with
  |.ok (.nx a)=>T0 c F n a
  |.ok (.ct a)=>T0 c F n a
  |.ok (.bk a)=>.ok (.nx a)
  |r=>r)else .ok (.nx ρ)
def eZ (n:Ev->Nat)(Y:PassesOwn (bo X.prog X.w) X.A X.env X.xe)(hc:CP X c y)(hb:X4 X body F):mU X (.While c body [] pos) (λρ=>T0 y F (n ρ) ρ):=λi j=>CF (OX Y hc<|hb i j) λD σ H O ρ E fk q=>by
 refine⟨λm I z=>∃e g,EnvOk X.K i j z e I g/\R5 X.K e/\RS X i j z e (T0 y F m g) D,⟨n ρ,O,ρ,E,fk,q⟩,?_⟩;rintro m I z ⟨e,g,B,l,a⟩;cases m with
 |zero=>exact(show False from a).elim
 |succ m=>
  rw[T0]at a;refine⟨i,j,e,g,B,?_⟩;cases J:y g with
  |ex x=>rw[J]at a;exactλC k=>a C (B.same.trans k)
  |bad=>rw[J]at a;exact a
  |ok b=>
   rw[J,R.aa0]at a;intro C k;cases b with
   |false=>rw[jn aAV]at a⊢;exact a I C e (B.grow k) l (Kp.of k)
   |true=>
    rw[ji rfl]at a⊢;refine⟨λU L=>∃N r,EnvOk X.K i j L N U r/\R5 X.K N/\RS X i j L N (T0 y F m r) D,λU L p=>⟨m,aDg m,p⟩,e,g,B.grow k,l,?_⟩;have kk:Kp z e C e:=Kp.of k;cases Q:F g with
    |ex x=>rw[Q]at a;exact a
    |bad=>rw[Q]at a;exact a
    |ok o=>
     rw[Q]at a;cases o with
     |nx f=>exactλh T s t u v=>⟨s,f,t,u,RS.grow a (kk.trans v)⟩
     |ct f=>exactλh T s t u v=>⟨s,f,t,u,RS.grow a (kk.trans v)⟩
     |bk f=>exactλh T s t u v=>a h T s t u (kk.trans v)
     |rt d=>exact a
end
def qj (K:ka)(n:Nat)(m:List D->R D):Sp:=λe H Q _=>∃O b d,Reps K H O e b/\b.length=n/\(∀a,O a->∃o,H a=some o/\Mt o)/\Tb H/\R5 K O/\m b=.ok d/\∀v c,Same H c->Rep K c O v d->Q v c
def j0 (N:List Str)(ds:List D):Ev:=ds.map Sl.v++aCR (N.length-ds.length) Sl.no
def M5:R Out->R D
 |.ok (.rt d)=>.ok d
 |.ok (.nx _)=>.ok .non
 |.ex e=>.ex e
 |_=>.bad
def eT {K:ka}{H:Hp}{O:bc->Prop}{N:List Str}{vs:List V}{ds:List D}(r:Reps K H O vs ds)(t:∀a,O a->∃o,H a=some o/\Mt o)(tb:Tb H):EnvOk K H O H O (start N vs) (j0 N ds)where
 len:=by simp[L2.start,j0,r.length]
 same:=Same.refl H
 sub:=λ_ h=>h
 trk:=t
 trk0:=λa h=>let⟨o,q,_⟩:=t a h;⟨o,q⟩
 tab:=tb
 slot:=λi f h=>by
  unfold j0 at h;unfold L2.start;by_cases b:i<ds.length
  .rw[aAS (by simpa using b),aAM]at h;cases e:ds[i]? with
   |none=>rw[e]at h;cases h
   |some c=>rw[e]at h;have d:Sl.v c=f:=aAl h;subst d;obtain⟨v,g,k⟩:=r.get e;exact⟨v,by rw[aAS (by rw[aAj,r.length];exact b),aAM,g];rfl,k⟩
  .rw[aAz (by simpa using b),aBu]at h;split at h
   .cases h;trivial
   .cases h
 inj:=λi j x y a h _ o=>by
  unfold j0 at h;by_cases b:i<ds.length
  .rw[aAS (by simpa using b),aAM]at h;cases e:ds[i]? with
   |none=>rw[e]at h;cases h
   |some c=>rw[e]at h;have d:Sl.v c=x:=aAl h;subst d;exact o.elim
  .rw[aAz (by simpa using b),aBu]at h;split at h
   .cases h;exact o.elim
   .cases h
section
variable{K:ka}
abbrev SF (P:bu)(w:cp)(K:ka)(mg:Y1)(base:cq)(N:List Str)(qual:Str)(sc:ik)(f:bc)(T:af)(A:cf)(a:List Env)(s:a9)(H:Hp)(E:XK):Cx:=(vG rV P w K mg base N qual sc f T A a s H E).nox
def fnD {x qual:Str}{st:dm}{f:bc}{fd:dC}{N ps:List Str}{k:Nat}{m:List D->R D}{F:Ev->R Out}(i:Fun K x qual st f fd)(S:FnScope N ps (c6 st))
  (j:∀(T:af) (A:cf) (a:List Env) (s:a9) (H:Hp) (E:XK),Room k (A.deeper (envOfC qual (c6 st) s.heap.objs.size f T))->X4 (SF P w K mg base N qual (c6 st) f T A a s H E) (o6 st) F)
  (l:∀ds d,ds.length=ps.length->m ds=.ok d->M5 (F (j0 N ds))=.ok d):FnOk P w K mg base rV (k+1) f fd ps (qj K ps.length m):=by
 refine i.ok S (by rintro n H Q E ⟨O,ds,d,r,c,_⟩;rw[r.length];exact c) (λT A a s H n Q E p t=>?_);obtain⟨O,ds,d,r,c,u,v,y,e,q⟩:=t;refine⟨_,j T A a s H E p H O,O,_,eT r u v,y,?_⟩;have h:=l ds d c e;cases g:F (j0 N ds)with
 |ok o=>
  rw[g]at h;cases o with
  |rt z=>have b:R.ok z=R.ok d:=h;injection b with b;subst b;exact q
  |nx ρ=>have b:R.ok D.non=R.ok d:=h;injection b with b;subst b;exactλI B J C _ _=>q .non B C.same .non
  |bk ρ=>cases h
  |ct ρ=>cases h
 |ex x=>rw[g]at h;cases h
 |bad=>rw[g]at h;cases h
end
section
def qZ (I:Inv X b σ H s)(O:bc->Prop)(t:∀a,O a->∃o,H a=some o/\Mt o):R5 X.K O:=λa o c z=>by obtain⟨u,h,_⟩:=t a z;have:=(I.bs a o<|I.ok.mod.kin a o c).2;rw[h]at this;cases this
def WQ (F:FnOk X.prog X.w X.K X.mg X.base rV k g j ps (qj X.K n m))(l:Room k X.A)(o:X.mg x=some (.ref g))(r:PySem.W.keepIn X.K (.ref g)=true)(t:Binds X.K j ps [])(u:xF X (e::es) f)(y:∀ρ ds,f ρ=.ok ds->ds.length=n)(B:Gl X x:=by rfl)(C:(x==kb)=false:=by decide)(J:a5 (e::es) X.env=(false,dz e X.env)::a5 es X.env:=by rfl)(A8:(cv pos (a5 es X.env)).any (·.1)=false:=by rfl):
  PD X (.Call (.Name x p) (e::es) [] pos) (λρ=>(f ρ).bind m):=by
 refine rR λa s σ H Q I L N O ρ E q=>?_;refine uW F l B o r t .nil YB u C J A8 a s σ H Q I ⟨L,N,O,ρ,E,?_⟩;dsimp only at q;cases b:f ρ with
 |ex z=>rw[b]at q;exact q
 |bad=>rw[b]at q;exact q
 |ok ds=>
  rw[b,R.aa0]at q;intro vs H1 h T;rw[aBG];have i:=E.grow h;cases c:m ds with
  |ex z=>rw[c]at q;exact(q H<|Same.refl _).elim
  |bad=>rw[c]at q;exact q.elim
  |ok d=>rw[c]at q;refine⟨O,ds,d,T,y ρ ds b,i.trk,i.tab,?_,c,λv U Y r2=>q v U (h.trans Y) r2⟩;exact qZ I O E.trk
end
def KI (env:Env):List (Str×e9)->List (Str×bc)->List (Str×bc)
 |[],B=>B
 |(n,k)::r,B=>KI env r (if k=.free then(n,(env.cells.lookup n).getD 0)::B else B)
def fK (h:∀y∈d.names,y.2=.free->∃c,env.cells.lookup y.1=some c):closureFor d env=pure (KI env d.names []):=by
 have p:∀(b:List (Str×e9)) (B:List (Str×bc)),(∀y∈b,y.2=.free->∃c,env.cells.lookup y.1=some c)->
   (forIn b B λ(x:Str×e9) (r:List (Str×bc))=>(match x with
    |(f,g)=>if(g==NameKind.free)=true then(do let a<-cellOf env f;pure (aCs ((f,a)::r)))else pure (aCs r):Sem (ForInStep<|List<|Str×bc)))=pure (KI env b B):=by
  intro b;induction b with
  |nil=>intro B _;rfl
  |cons y r m=>
   intro B i;obtain⟨n,k⟩:=y;rw[aCZ];by_cases j:k=.free
   .subst j;obtain⟨c,o⟩:=i (n,.free) aBg rfl;have e:cellOf env n=pure c:=by unfold cellOf;rw[o]
    simp only[beq_self_eq_true,if_true,e,pure_bind];rw[m _ λz l=>i z (aAe _ l)];simp[KI,o]
   .have q:(k==NameKind.free)=false:=by simpa using j
    simp only[q,aAn,if_false,pure_bind];rw[m _ λz l=>i z (aAe _ l)];simp[KI,j]
 have e:=p d.names [] h;show((forIn d.names ([]:List (Str×bc)) λ(x:Str×e9) (r:List (Str×bc))=>(match x with
    |(f,g)=>if(g==NameKind.free)=true then(do let a<-cellOf env f;pure (aCs ((f,a)::r)))else pure (aCs r):Sem (ForInStep<|List<|Str×bc)))>>=λs=>pure s)=_
 rw[e];rfl
theorem yG:∀(names:List (Str×e9)) (B:List (Str×bc)) {x:Str} {c:bc},(∀y∈names,y.2=.free->∃c,env.cells.lookup y.1=some c)->(∀x c,B.lookup x=some c->env.cells.lookup x=some c)->
  (KI env names B).lookup x=some c->env.cells.lookup x=some c
 |[],B,x,c,_,b,h=>b x c h
 |(n,k)::r,B,x,c,f,b,h=>by
  refine yG r _ (λy l=>f y (aAe _ l)) (λd g a=>?_) h;by_cases e:k=.free
  .rw[ji e]at a;obtain⟨c0,i⟩:=f (n,k) aBg e;by_cases j:d=n
   .subst j;rw[aBH]at a;rw[i]at a;rw[i];exact a
   .rw[aBc,beq_eq_false_iff_ne.mpr j]at a;exact b d g a
  .rw[jn e]at a;exact b d g a
theorem wF:∀(names:List (Str×e9)) (B:List (Str×bc)) {x:Str},((x,NameKind.free)∈names\/∃c,B.lookup x=some c)->∃c,(KI env names B).lookup x=some c
 |[],B,x,h=>by
  rcases h with h|h
  .cases h
  .exact h
 |(n,k)::r,B,x,h=>by
  refine wF r _ ?_;rcases h with h|⟨c,h⟩
  .rcases aAd.mp h with e|h
   .cases e;right;rw[ji rfl,aBH];exact⟨_,rfl⟩
   .exact .inl h
  .right;by_cases a:k=.free
   .rw[ji a,aBc];cases(x==n)with
    |true=>exact⟨_,rfl⟩
    |false=>exact⟨c,h⟩
   .rw[jn a];exact⟨c,h⟩
theorem jB {env:Env}:∀{names:List (Str×e9)} {x:Str},
  ((names.map λ(n,k)=>if(k==NameKind.free&&env.scope.kind==.function&&env.kindOf n==some .cell)then(n,aBZ)else(n,k)).lookup x=some .cell\/
   (names.map λ(n,k)=>if(k==NameKind.free&&env.scope.kind==.function&&env.kindOf n==some .cell)then(n,aBZ)else(n,k)).lookup x=some .free)->(x,NameKind.free)∈names\/names.lookup x=some .cell
 |[],_,h=>by rcases h with h|h<;>cases h
 |(n,k)::r,x,h=>by
  have c:=@jB env r x;rw[aAt]at h;dsimp only at h;by_cases b:x=n
  .subst b;by_cases a:(k==NameKind.free&&env.scope.kind==.function&&env.kindOf x==some .cell)=true
   .have d:k=.free:=by rw[aAJ,aAJ]at a;simpa using a.1.1
    subst d;exact .inl aBg
   .rw[jn a,aBH]at h;rcases h with h|h
    .right;rw[aBH];exact h
    .have:k=.free:=aAl h;subst this;exact .inl aBg
  .have e:(r.map λ(n,k)=>if(k==NameKind.free&&env.scope.kind==.function&&env.kindOf n==some .cell)then(n,aBZ)else(n,k)).lookup x=some .cell\/
     (r.map λ(n,k)=>if(k==NameKind.free&&env.scope.kind==.function&&env.kindOf n==some .cell)then(n,aBZ)else(n,k)).lookup x=some .free:=by
    by_cases a:(k==NameKind.free&&env.scope.kind==.function&&env.kindOf n==some .cell)=true
    .rw[ji a,aBc,beq_eq_false_iff_ne.mpr b]at h;exact h
    .rw[jn a,aBc,beq_eq_false_iff_ne.mpr b]at h;exact h
   rcases c e with h|h
   .exact .inl (aAe _ h)
   .right;rw[aBc,beq_eq_false_iff_ne.mpr b];exact h
theorem qE:∀(names:List (Str×e9)) (h:cq) (B:List (Str×bc)) {x:Str} {c:bc},(dV h.objs.size names B).lookup x=some c->B.lookup x=some c\/((pushCells h names).IsCell c none/\h.objs.size<=c)
 |[],h,B,x,c,e=>.inl e
 |(n,k)::r,h,B,x,c,e=>by
  unfold dV at e;unfold pushCells;split at e
  .rename_i b;rw[ji b];rcases qE r (h.push {cls:=.type "cell",data:=.cell none}) ((n,h.objs.size)::B) (x:=x) (c:=c) (by rw[aBE];exact e)with a|⟨a,d⟩
   .rw[aBc]at a;cases f:(x==n)with
    |true=>rw[f]at a;have g:h.objs.size=c:=aAl a;subst g;exact .inr ⟨⟨_,aEz _ _ _ _ (aAr _ rfl),rfl⟩,aAh _⟩
    |false=>rw[f]at a;exact .inl a
   .exact .inr ⟨a,by rw[aBE]at d;exact aCI d⟩
  .rename_i b;rw[jn b];exact qE r h B e
theorem lP:∀(names:List (Str×e9)) (n:Nat) (B:List (Str×bc)) {x:Str} {c:bc},(dV n names B).lookup x=some c->B.lookup x=some c\/n<=c
 |[],n,B,x,c,e=>.inl e
 |(m,k)::r,n,B,x,c,e=>by
  unfold dV at e;split at e
  .rcases lP r (n+1) _ e with a|a
   .rw[aBc]at a;cases b:(x==m)with
    |true=>rw[b]at a;exact .inr (aEi (aAl a))
    |false=>rw[b]at a;exact .inl a
   .exact .inr (aCI a)
  .exact lP r n B e
theorem qL:∀(names:List (Str×e9)) (n:Nat) (B:List (Str×bc)) {x:Str} {c:bc},(x,aBZ)∈names->(dV n names B).lookup x=some c->n<=c
 |[],n,B,x,c,a,e=>nomatch a
 |(m,k)::r,n,B,x,c,a,e=>by
  unfold dV at e;rcases aAd.mp a with a|a
  .cases a;rw[ji (show(aBZ==aBZ)=true from rfl)]at e;rcases lP r (n+1) _ e with b|b
   .rw[aBH]at b;exact aEi (aAl b)
   .exact aCI b
  .split at e
   .exact aCI (qL r (n+1) _ a e)
   .exact qL r n B a e
theorem nW:∀(names:List (Str×e9)) (n:Nat) (B:List (Str×bc)) {x:Str},(x,aBZ)∉names->(dV n names B).lookup x=B.lookup x
 |[],n,B,x,_=>rfl
 |(m,k)::r,n,B,x,a=>by
  unfold dV;split
  .rename_i b;rw[nW r (n+1) _ λz=>a (aAe _ z),aBc];cases c:(x==m)with
   |true=>
    have d:x=m:=by simpa using c
    have e:k=.cell:=by simpa using b
    exact absurd (by rw[d,e];exact aBg) a
   |false=>rfl
  .exact nW r n B λz=>a (aAe _ z)
theorem lJ:∀(names:List (Str×e9)) (n:Nat) (B:List (Str×bc)),(∀x c,B.lookup x=some c->c<n)->(∀x y c,B.lookup x=some c->B.lookup y=some c->x=y)->
  ∀x y c,(dV n names B).lookup x=some c->(dV n names B).lookup y=some c->x=y
 |[],n,B,_,h=>h
 |(m,k)::r,n,B,g,h=>by
  unfold dV;split
  .refine lJ r (n+1) _ (λx c e=>?_) λx y c b a=>?_
   .rw[aBc]at e;cases d:(x==m)with
    |true=>rw[d]at e;rw[<-aAl e];exact aDg _
    |false=>rw[d]at e;exact aBq (g x c e)
   .rw[aBc]at b a;cases d:(x==m)with
    |true=>
     rw[d]at b;cases f:(y==m)with
     |true=>rw[show x=m by simpa using d,show y=m by simpa using f]
     |false=>rw[f]at a;rw[<-aAl b]at a;exact absurd (g y _ a) (aBl _)
    |false=>
     rw[d]at b;cases f:(y==m)with
     |true=>rw[f]at a;rw[<-aAl a]at b;exact absurd (g x _ b) (aBl _)
     |false=>rw[f]at a;exact h x y c b a
  .exact lJ r n B g h
abbrev cS (X:Cx)(a:ik)(C:bc):List (Str×bc):=dV (C+1) a.names (KI X.env a.names [])
def IK {E:C7}{Q:Env->a9->Prop}(f:Q (newEnv a s.heap.objs.size g (dV (s.heap.objs.size+1) a.names h) q none .none (some env) builtinsNs) {s with heap:=pushCells (s.heap.push {cls:=.type "dict",data:=.dict #[]}) a.names}):
  bb M A (newFunctionEnv a g h [] q none .none (some env)) Q E s:=by
 simp only[newFunctionEnv,Option.isSome_some,if_true];refine aAa (wpAny_alloc ?_);refine aAa (wpAny_layCells _ (λe b c=>by cases d:b==aBZ<;>simp[d]) _ _ _ _ ?_);rw[show({s with heap:=s.heap.push {cls:=.type "dict",data:=.dict #[]}}:a9).heap.objs.size=s.heap.objs.size+1 from aBE ..];exact aAa (aAb<|aAb f)
def HS {R:Result->a9->Prop}(I:Nat->a9->Prop)(turn:∀n s,I n s->bb (bo prog w) A (gv it) (λr j=>match r with
   |none=>R (.ok .next) j
   |some v=>bb (bo prog w) A (letOwnedTupleGo a it v) (λ_ f=>bb (bo prog w) A (il a env v) (λ_ o=>
    bb (bo prog w) A (forIn g true λc r=>if r=true then do let ok<-isTrue c env (dz c env);pure (aCs ok)else pure (aCs r)) (λok k=>
     if ok=true then bb (bo prog w) A (dz i env) (λx p=>bb (bo prog w) A (call (.builtin "list.append") [B,x]) (λ_ q=>∃m,m<n/\I m q) (λ_ _=>False) p) (λ_ _=>False) k
     else∃m,m<n/\I m k) (λ_ _=>False) o) (λ_ _=>False) f) (λ_ _=>False) j) (λ_ _=>False) s) (n:Nat) (h:I n s):f7 (bo prog w) A (.compLoop (.ListComp i [⟨a,B7,g,0⟩] e pos) 0 it B env) R s:=by
 refine codeAny_loop rfl I (λn s u=>?_) n h;show bb _ A ((compTurn (.ListComp i [⟨a,B7,g,0⟩] e pos) 0 it B env).onRaise (λx=>do noteFrame x env;theTreesLotGoes x)) _ _ s;refine wpAny_noted ?_;rw[compTurn_list];refine aAa (aDP<|aAa<|aBP (turn n s u) (λr j d=>?_) λ_ _ b=>b.elim);cases r with
 |none=>exact aAb d
 |some v=>
  refine aAa (aBP d (λ_ f l=>?_) λ_ _ b=>b.elim);refine aAa (aBP l (λ_ o y=>aAa (aBP y (λok k t=>?_) λ_ _ b=>b.elim)) λ_ _ b=>b.elim);cases ok with
  |false=>exact aAb ⟨rfl,t⟩
  |true=>exact aAa (aAa<|aBP t (λx p z=>aAa (aBP z (λ_ q C=>aAb (aAb ⟨rfl,C⟩)) λ_ _ b=>b.elim)) λ_ _ b=>b.elim)
def JJ (X:Cx)(pins:N9)(sa:a9)(Ha:Hp)(b:List Str)(a:ik)(c:List (Str×bc))(C:bc)(d:List bc):Cx where
 prog:=X.prog
 w:=X.w
 K:=X.K
 mg:=X.mg
 base:=X.base
 A:=X.A
 N:=b
 sa:=sa
 Ha:=Ha
 env:=compEnvC a c C X.env
 outer:=X.stack
 stack:=X.stack
 ex:=d
 fn:=λx=>a.names.lookup x==some .cell
 calm:=X.calm
 pn:=X.pn++pins
 xe:=λ_ _=>False
structure CompSc (X:Cx)(scope:Scope)(own fr:List Str)(js:List Nat):Prop where
 kind:scope.kind=.function
 apart:∀y∈scope.names,y.2=.free->(y.1,aBZ)∉scope.names
 names:∀y∈scope.names,y.2=.local->scope.names.lookup y.1=some .local
 free:∀y∈scope.names,y.2=.free->X.env.kindOf y.1=some .cell\/X.env.kindOf y.1=some .free
 len:js.length=fr.length
 at_:∀(i j:Nat) (x:Str),js[i]?=some j->fr[i]?=some x->X.N[j]?=some x/\(x,NameKind.free)∈scope.names
 nd:js.Nodup
 dis:∀y∈scope.names,y.2=.free->scope.names.lookup y.1=some .free
def seen:Sl->Sl
 |.v d=>.v d
 |_=>.no
def j6 (own:List Str)(a:List Nat)(ρ:Ev):Ev:=aCR own.length Sl.no++a.map λj=>seen (ρ.getD j Sl.no)
def Y4 (own:List Str)(a:List Nat)(σ:St):St:=aCR own.length none++a.map λj=>σ.getD j none
def Inv.ab7 (I:L2.Inv X b σ H s)(S:CompSc X a own f g):∀y∈a.names,y.2=.free->∃c,X.env.cells.lookup y.1=some c:=
 λy d e=>I.ok.has y.1 (S.free y d e)
def fT (h:(j6 own f ρ)[i]?=some sl):sl=.no\/∃d j,sl=.v d/\own.length<=i/\f[i-own.length]?=some j/\ρ[j]?=some (.v d):=by
 unfold j6 at h;by_cases b:i<own.length
 .rw[aAS (by simpa using b),aBu,ji b]at h;cases h;exact .inl rfl
 .have g:own.length<=i:=aEm b;rw[aAz (by simpa using g),aCt,aAM]at h;cases e:f[i-own.length]? with
  |none=>rw[e]at h;cases h
  |some j=>
   rw[e]at h;have a:seen (ρ.getD j Sl.no)=sl:=aAl h;rw[aAq]at a;cases c:ρ[j]? with
   |none=>rw[c]at a;subst a;exact .inl rfl
   |some z=>
    rw[c]at a;cases z with
    |v d=>subst a;exact .inr ⟨d,j,rfl,g,rfl,c⟩
    |_=>subst a;exact .inl rfl
def JB {K:ka}{c H:Hp}{f O:bc->Prop}{σ:St}{ρ:Ev}{own:List Str}{g:List Nat}(E:EnvOk K c f H O σ ρ):EnvOk K c f H O (Y4 own g σ) (j6 own g ρ):=by
 refine⟨by simp[Y4,j6],E.same,E.sub,E.trk,E.trk0,E.tab,λi n h=>?_,λi j x y a b p o=>?_⟩
 .rcases fT h with rfl|⟨d,j,rfl,k,e,b⟩
  .trivial
  .obtain⟨v,l,m⟩:=E.val j d b;refine⟨v,?_,m⟩;unfold Y4;rw[aAz (by simpa using k),aCt,aAM,e];show some (σ.getD j none)=some (some v);rw[aAq,l];rfl
 .rcases fT b with rfl|⟨d,j,rfl,_⟩
  .exact o.elim
  .exact o.elim
def JX (I:L2.Inv X pins σ H s)(S:CompSc X a own fr js)(xu:∀b∈fp,rK X pins H b)(bg:∀b∈fp,b<s.heap.objs.size)(e8:h₁=pushCells (s.heap.push {cls:=.type "dict",data:=.dict #[]}) a.names):
  L2.Inv (JJ X pins s H (own++fr) a (cS X a s.heap.objs.size) s.heap.objs.size fp) [] (Y4 own js σ) H {s with heap:=h₁,toks:=tk}:=by
 have w:=Inv.ab7 I S;have g:∀b o,s.heap.get? b=some o->h₁.get? b=some o:=λb o e=>by rw[e8];exact aEz _ _ _ _ (aAc _ e)
 have hns:h₁.Ns s.heap.objs.size (λ_=>none):=by rw[e8];exact(Heap.Ns.new s.heap<|.type "dict").keeps (aEz _ _)
 have cc:∀x c,(cS X a s.heap.objs.size).lookup x=some c->(KI X.env a.names []).lookup x=some c\/(h₁.IsCell c none/\s.heap.objs.size+1<=c):=λx c h=>by have:=qE a.names (s.heap.push {cls:=.type "dict",data:=.dict #[]}) (KI X.env a.names []) (x:=x) (c:=c) (by rw[aBE];exact h);rw[aBE,<-e8]at this;exact this
 have J:∀x c,(KI X.env a.names []).lookup x=some c->X.env.cells.lookup x=some c:=λx c h=>yG a.names [] w (λ_ _ z=>(by cases z)) h;have l:∀b o,X.base.get? b=some o->b∉fp:=λb o e B=>by
  rcases(xu b B).2.2.2.1 with z|z
  .exact I.ok.noex b o e z
  .exact absurd (aAs (aAf e)<|aAw I.ok.bsz z) (aBl _)
 have nfs:∀b∈fp,b∉W5 X.stack:=λb B z=>by
  rcases aAd.mp (I.aa9 b z)with e|z
  .exact(xu b B).2.1 e
  .exact(xu b B).2.2.1 z
 have A:∀x c,X.env.cells.lookup x=some c->c<s.heap.objs.size+1:=λx c h=>by obtain⟨v,o,Q,_⟩:=I.cell x c h;exact aBq (aAf Q)
 have has:∀x,((relabel a X.env).names.lookup x=some .cell\/(relabel a X.env).names.lookup x=some .free)->∃c,(cS X a s.heap.objs.size).lookup x=some c:=λx N=>by
  have:((cS X a s.heap.objs.size).lookup x).isSome=true:=PySem.W.cellsFrom_some _ _ _ (by
   rcases jB N with h|h
   .obtain⟨c,hc⟩:=wF (env:=X.env) a.names [] (x:=x) (.inl h);exact .inr (by rw[hc];rfl)
   .exact .inl h)
  exact aFj.mp this
 refine⟨⟨I.ok.mod,S.kind,I.ok.glob,I.ok.blt,aAh _,lJ a.names _ _ (λx c h=>A x c (J x c h)) (λx y c h1 C=>I.ok.inj x y c (J x c h1) (J y c C)),has,λx c hf h=>aCI (qL a.names _ _ (PySem.mem_of_lookup<|eq_of_beq hf) h),I.ok.hd,I.ok.frames,.inl rfl,
  λb B=>⟨aAk (bg b B),λx c h=>(cc x c h).elim (λh=>(xu b B).2.2.2.2.1 x c (J x c h)) λ⟨_,C⟩ z=>absurd (aAs (bg b B)<|aCI C) (by rw[z];exact aBl _)⟩,I.bs,aAw I.ok.bsz I.sz,λb o e=>l b o e,nfs,I.stack,I.ab9⟩,rfl,I.bare,Un.kept g,⟨_,hns,λi x v e1 E L=>?_⟩,λx c h=>?_,I.hok.fresh (aAh _),λx c h=>(cc x c h).elim (λh=>I.freeC x c (J x c h)) λ⟨_,C⟩=>I.hok.fresh (aCI C),λp hp=>?_,I.hok.kept g,?_⟩
 .
  have hlen:(own++fr).length=(Y4 own js σ).length:=by simp[Y4,S.len]
  unfold Y4 at E;by_cases hi:i<own.length
  .rw[aAS (by simpa using hi),aBu,ji hi]at E;cases E
  .have ip:own.length<=i:=aEm hi;rw[aAz (by simpa using ip),aCt,aAM]at E;have T:(own++fr)[i]?=some x:=e1;rw[aAz ip]at T;cases e:js[i-own.length]? with
   |none=>rw[e]at E;cases E
   |some j=>
    rw[e]at E;have q:σ.getD j none=some v:=aAl E;obtain⟨hN,la⟩:=S.at_ (i-own.length) j x e T;have hσ:σ[j]?=some (some v):=by
     rw[aAq]at q;cases e4:σ[j]? with
     |none=>rw[e4]at q;cases q
     |some z=>rw[e4]at q;exact jr some q
    have O:=S.free (x,.free) la rfl;have U:xH X.env.scope x:=.inr O;obtain⟨m,hn,hl⟩:=I.loc;obtain⟨u,r,lk⟩:=hl j x v hN hσ U;refine⟨u,r,?_⟩;rcases lk with⟨nv,_⟩|⟨_,c,hc,jm⟩
    .rcases O with O|O<;>(rw[nv]at O;cases O)
    .right;obtain⟨c',Y⟩:=wF (env:=X.env) a.names [] (x:=x) (.inl la);have:=J x c' Y;rw[hc]at this;cases this;refine⟨?_,c,(nW a.names _ _<|S.apart (x,.free) la rfl).trans Y,?_⟩
     .rcases L with L|L|L
      .
       have hq:(relabel a X.env).names.lookup x=some .local:=L;exfalso;have:∀f:List (Str×e9),(f.map λ(n,k)=>if(k==NameKind.free&&X.env.scope.kind==.function&&X.env.kindOf n==some .cell)then(n,aBZ)else(n,k)).lookup x=some .local->f.lookup x=some .local:=by
        intro f;induction f with
        |nil=>intro h;cases h
        |cons y r ih=>
         obtain⟨n,k⟩:=y;intro h;rw[aAt]at h;dsimp only at h;by_cases N:x=n
         .subst N;by_cases t:(k==NameKind.free&&X.env.scope.kind==.function&&X.env.kindOf x==some .cell)=true
          .rw[ji t,aBH]at h;cases h
          .rw[jn t,aBH]at h;rw[aBH];exact h
         .rw[aBc,beq_eq_false_iff_ne.mpr N];by_cases t:(k==NameKind.free&&X.env.scope.kind==.function&&X.env.kindOf n==some .cell)=true
          .rw[ji t,aBc,beq_eq_false_iff_ne.mpr N]at h;exact ih h
          .rw[jn t,aBc,beq_eq_false_iff_ne.mpr N]at h;exact ih h
       have C:=this a.names hq;rw[S.dis (x,.free) la rfl]at C;cases C
      .exact .inl L
      .exact .inr L
     .obtain⟨o,Q,hd⟩:=jm;exact⟨o,g c o Q,hd⟩
 .rcases cc x c h with h|⟨h,_⟩
  .obtain⟨v,o,Q,hd⟩:=I.cell x c (J x c h);exact⟨v,o,g c o Q,hd⟩
  .exact⟨_,h⟩
 .have hp':p∈X.pn++pins:=by simpa[JJ]using hp
  obtain⟨e,n,ne,nf,d⟩:=I.pin p hp';refine⟨g _ _ e,n,aAk (aAf e),λz=>?_,d⟩;rcases aAd.mp (I.aa9 p.1 z)with e'|z'
  .exact ne e'
  .exact nf z'
 .simp[Y4,JJ,S.len]
def B0 (G:D->Ev->R Ev)(ft:Ev->R Bool)(fe:Ev->R D)(ρ:Ev):List D->R (List D)
 |[]=>.ok []
 |d::c=>match G d ρ with
  |.ok a=>(ft a).bind λb=>if b=true then(fe a).bind λr=>(B0 G ft fe ρ c).bind λe=>.ok (r::e)else B0 G ft fe ρ c
  |_=>.bad
def EA (ρ1 ρ:Ev):Prop:=ρ1.length=ρ.length/\∀(i:Nat) (a:Sl),ρ[i]?=some a->a≠.no->ρ1[i]?=some a
def EnvOk.weak {K:ka}{b H:Hp}{c O:bc->Prop}{σ:St}{ρ1 ρ:Ev}(E:EnvOk K b c H O σ ρ1)(h:EA ρ1 ρ):EnvOk K b c H O σ ρ where
 len:=E.len.trans h.1
 same:=E.same
 sub:=E.sub
 trk:=E.trk
 trk0:=E.trk0
 tab:=E.tab
 slot:=λi d e=>by
  by_cases n:d=.no
  .subst n;trivial
  .exact E.slot i d (h.2 i _ e n)
 inj:=λi j x y a k l f g=>E.inj i j x y a (h.2 i _ k (by rintro rfl;exact f)) (h.2 j _ l (by rintro rfl;exact g)) f g
def T2 (H:Hp)(a:bc):Hp:=λb=>if b=a then none else H b
def BM (H:Hp)(a:bc):T2 H a a=none:=ji rfl
def V3 (h:b≠a):T2 H a b=H b:=jn h
def HX (h:H a=some o):upd (T2 H a) a o=H:=by
 funext b
 unfold upd T2;by_cases c:b=a
 .subst c;rw[ji rfl,h]
 .rw[jn c,jn c]
def EnvOk.ae1 {K:ka}{c H:Hp}{d O:bc->Prop}{σ:St}{ρ:Ev}{a:bc}{vs:List V}(E:EnvOk K c d H O σ ρ)(h:H a=none)(e:K.lookup a=none):EnvOk K c d (upd H a (.lst vs)) (λb=>O b\/b=a) σ ρ:=E.ab8 h e trivial
def Rep.hidden {K:ka}{H:Hp}{O:bc->Prop}{a:bc}{vs:List V}{v:V}{d:D}(h:H a=some (.lst vs))(r:Rep K H (λb=>O b\/b=a) v d):Rep K (T2 H a) O v d:=by
 refine r.mono (λb Y q=>?_) (λb Y n q=>⟨λz=>n (.inl z),?_⟩) λb φ n q=>⟨λz=>n (.inl z),by rw[V3 λz=>n (.inr z)];exact q⟩
 .rcases q with(q|⟨o,q⟩)|q
  .exact .inl (.inl (by rw[V3 (by rintro rfl;rw[h]at q;cases q)];exact q))
  .exact .inl (.inr ⟨o,by rw[V3 (by rintro rfl;rw[h]at q;cases q)];exact q⟩)
  .exact .inr q
 .have c:b≠a:=λz=>n (.inr z);rcases q with(q|⟨o,q⟩)|q
  .exact .inl (.inl (by rw[V3 c];exact q))
  .exact .inl (.inr ⟨o,by rw[V3 c];exact q⟩)
  .exact .inr q
def V7 (h:H a=none)(s:Same (upd H a (.lst vs)) H'):Same H (T2 H' a):=λb o q=>by
 have c:b≠a:=by rintro rfl;rw[h]at q;cases q
 rw[V3 c];exact s b o (by rw[k7 c];exact q)
section
def YA (X:Cx)(b:List cu)(ft:Ev->R Bool):Prop:=
 ∀(a:N9) (s:a9) (σ:St) (H:Hp) (Q:Bool->Hp->Prop),Inv X a σ H s->tDT X ft σ H Q->
  bb (bo X.prog X.w) X.A (forIn b true λc r=>if r=true then do let ok<-isTrue c X.env (dz c X.env);pure (aCs ok)else pure (aCs r)) (TP X a σ Q) X.xe s
def UR:YA X [] (λ_=>.ok true):=by rintro a s σ H Q I ⟨b,c,O,ρ,E,q⟩;exact wpAny_tests_nil ⟨H,I,q H (Same.refl _)⟩
def VF (h:CP X c ft):YA X [c] ft:=λa s σ H Q I q=>wpAny_tests_one (h a s σ H Q I q)
def yB {tg elt B7:cu}{ifs:List cu}{scope:ik}{own fr:List Str}{Y:List Nat}{G:D->Ev->R Ev}{ft:Ev->R Bool}{fe:Ev->R D}{pins:N9}{σ:St}{H:Hp}{s:a9}{Ha:Hp}{O0 O:bc->Prop}{ρ:Ev}
  {it:bc} {N:List bc} {tn:Nat->cq->Prop} {J:It} {ds rs:List D} {RR:af->bc->Result->a9->Prop} {EE:C7} (hc:X.calm=true) (S:CompSc X scope own fr Y)
  (hX:∀l:Cx,(∃sa Hb C,l=JJ X pins sa Hb (own++fr) scope (cS X scope C) C N)->MD l tg G/\YA l ifs ft/\PD l elt fe)
  (hG:∀d ρ1,G d (j6 own Y ρ)=.ok ρ1->EA ρ1 (j6 own Y ρ))
  (I:Inv X pins σ H s) (T:Turn X.prog X.w X.K tg J N it tn) (st:tn 0 s.heap) (xu:∀b∈N,rK X pins H b) (E:EnvOk X.K Ha O0 H O σ ρ) (hJ:lq X.K J H O ds) (hrs:B0 G ft fe (j6 own Y ρ) ds=.ok rs) (hlen:ds.length<=sizeLine)
  (fin:∀B C s' H' m,s'.heap.Ns C m->C≠B->s.heap.objs.size<=C->s.heap.objs.size<=B->Same H H'->Rep X.K H' O (.ref B) (.lst rs)->(∃H1 vs,Same H H1/\H1 B=none/\H'=upd H1 B (.lst vs)/\Reps X.K H1 O vs rs)->H' C=none->(∀h',Heap.SameBut C s'.heap h'->Inv X pins σ H' {s' with heap:=h'})->RR (.ref B) C (.ok .next) s'):
  bb (bo X.prog X.w) X.A (newList []) (λB se=>bb (bo X.prog X.w) X.A (newFunctionEnv scope X.env.globals (KI X.env scope.names []) [] X.env.qual none .none (some X.env)) (λcenv si=>f7 (bo X.prog X.w) X.A (.compStart (.ListComp elt [⟨tg,B7,ifs,0⟩] scope pos) 0 (.ref it) B {cenv with scope:=relabel scope X.env}) (RR B cenv.locals) si) EE se) EE s:=by
 have hO:=qZ I O E.trk;refine aBo ?_;have hfr:H s.heap.objs.size=none:=I.hok.fresh (aAh _);have hkl:X.K.lookup s.heap.objs.size=none:=by
  cases e:X.K.lookup s.heap.objs.size with
  |none=>rfl
  |some o=>exact absurd (aAf<|I.kIn _ o e) (aBl _)
 have I1:Inv X pins σ (upd H s.heap.objs.size<|.lst []) {s with heap:=s.heap.push {cls:=.type "list",dict:=none,data:=.seq ([]:List af).toArray}}:=
  I.laid (t':=s.toks) (λb u e=>aAc _ e) (aAh _) ⟨aBe _,[],0,.nil,aAr _ rfl⟩
 generalize ia:s.heap.objs.size=B at*
 generalize hs1:({s with heap:=s.heap.push {cls:=.type "list",dict:=none,data:=.seq ([]:List af).toArray}}:a9)=U at I1⊢;have sz1:U.heap.objs.size=B+1:=by rw[<-hs1,<-ia];exact aBE _ _
 have keep1:∀b o,s.heap.get? b=some o->U.heap.get? b=some o:=λb o e=>by rw[<-hs1];exact aAc _ e
 have xv:∀b∈N,b<B:=λb g=>by obtain⟨o,e,_⟩:=T.obj 0 _ st b g;rw[<-ia];exact aAf e
 have hfp1:∀b∈N,rK X pins (upd H B<|.lst []) b:=λb g=>by obtain⟨f0,f⟩:=xu b g;exact⟨by rw[k7 (aAk<|xv b g)];exact f0,f⟩
 refine IK ?_;obtain⟨y,e8⟩:∃y,pushCells (U.heap.push {cls:=.type "dict",data:=.dict #[]}) scope.names=y:=⟨_,rfl⟩;rw[e8];have keep2:∀b o,U.heap.get? b=some o->y.get? b=some o:=λb o e=>by rw[<-e8];exact aEz _ _ _ _ (aAc _ e)
 have IB:=JX (tk:=U.toks) I1 S hfp1 (λb g=>by rw[sz1];exact aBq (xv b g)) e8.symm;generalize hC:U.heap.objs.size=C at*
 obtain⟨hG',hT',hE'⟩:=hX _ ⟨U,upd H B (.lst []),C,rfl⟩;generalize ph:JJ X pins U (upd H B<|.lst []) (own++fr) scope (cS X scope C) C N=l at IB hG' hT' hE';have eP:l.prog=X.prog:=by rw[<-ph];rfl
 have eW:l.w=X.w:=by rw[<-ph];rfl
 have eK:l.K=X.K:=by rw[<-ph];rfl
 have eA:l.A=X.A:=by rw[<-ph];rfl
 have eC:l.calm=true:=by rw[<-ph];exact hc
 have eX:l.xe=λ_ _=>False:=by rw[<-ph];rfl
 have eE:l.env=compEnvC scope (cS X scope C) C X.env:=by rw[<-ph];rfl
 have eX0:l.ex=N:=by rw[<-ph];rfl
 have ePn:l.pn=X.pn++pins:=by rw[<-ph];rfl
 have eFs:l.fs=W5 X.stack:=by rw[<-ph];rfl
 have eS0:l.sa=U:=by rw[<-ph];rfl
 have eH0:l.Ha=upd H B (.lst []):=by rw[<-ph];rfl
 have eL:l.env.locals=C:=by rw[eE];rfl
 have eCe:l.env.cells=cS X scope C:=by rw[eE];rfl
 have I2of:=IB;have cell_ne:∀b∈N,∀x c,l.env.cells.lookup x=some c->c≠b:=λb g x c h=>(I2of.ok.exf b (by rw[eX0];exact g)).2 x c h;have accC:B≠C:=by rw[sz1];exact aAk (aDg _)
 have fpC:∀b∈N,b≠C:=λb g=>by have h1:=xv b g;rw[sz1];exact aAk (aBq h1)
 have fpB:∀{H':Hp},(∀b∈N,H' b=none)->∀b∈N,rK l [] H' b:=λ{H'} hn b g=>by
  obtain⟨f0,f1,f2,f3,f4,f5⟩:=xu b g;refine⟨hn b g,by rw[eL];exact fpC b g,?_,.inl (by rw[eX0];exact g),λx c h=>cell_ne b g x c h,λp hp=>f5 p (by rw[ePn,aBG]at hp;exact hp)⟩;rw[eFs];intro z;rcases aAd.mp (I.aa9 b z)with e|z
  .exact f1 e
  .exact f2 z
 have XS:tn 0 y:=T.keep 0 s.heap y st λb g o e=>keep2 b o (keep1 b o e)
 let Iv:Nat->a9->Prop:=λn s'=>∃i ar L vs rd,n=ds.length-i/\i<=ds.length/\Inv l [] ar (upd L B<|.lst vs) s'/\L B=none/\tn i s'.heap/\(∀b∈N,L b=none)/\EnvOk X.K Ha O0 L O ar (j6 own Y ρ)/\Same H L/\
  Reps X.K L O vs rd/\(∃rest,B0 G ft fe (j6 own Y ρ) (ds.drop i)=.ok rest/\rs=rd++rest)/\vs.length<=i
 have loop:f7 (bo X.prog X.w) X.A (.compLoop (.ListComp elt [⟨tg,B7,ifs,0⟩] scope pos) 0 (.ref it) (.ref B) (compEnvC scope (cS X scope C) C X.env)) (RR (.ref B) C) {U with heap:=y}:=by
  refine HS Iv ?_ ds.length ⟨0,_,H,[],[],by simp,aBe _,IB,hfr,XS,λb g=>(xu b g).1,JB E,Same.refl H,.nil,⟨rs,by rw[aFV];exact hrs,rfl⟩,aBe _⟩;rintro n s2 ⟨i,xm,L,vs,rd,rfl,hi,I2,zl,og,fx2,E2,sm2,r2,⟨rest,k,ya⟩,hvl⟩;have fr2:∀b∈N,(upd L B<|.lst vs) b=none:=λb g=>by rw[k7 (aAk<|xv b g)];exact fx2 b g
  have sU:=j3 zl (.lst vs);have hit:=hJ (upd L B<|.lst vs) (λb=>O b\/b=B) (λb o q n=>⟨sU b o (sm2 b o q),λz=>z.elim n λz=>by subst z;rw[hfr]at q;cases q⟩) (λa o q z=>z.elim (hO a o q) λz=>by subst z;rw[hkl]at q;cases q) E.trk
   (λa z=>(E2.ae1 (vs:=vs) zl hkl).trk a z) i
  by_cases bg:i<ds.length
  .obtain⟨go,yl⟩:=hit.1 ds[i] (aAg bg);rw[aDC bg,B0]at k;have qt:=T.item l eP eW eK eC i [] s2 xm _ (λ_ _=>False) I2 (fpB fr2) og go;rw[eA]at qt;refine C4 qt λr s3 z9=>?_;obtain⟨u,hr,h3⟩:=z9;subst hr;refine C4 h3 λ_ s4 z9=>?_;obtain⟨x,H4,I4,ru,y4,st4,fr4⟩:=z9;obtain⟨sm4,rep4⟩:=yl x H4 y4;cases e1:G ds[i] (j6 own Y ρ)with
   |ex z=>rw[e1]at k;cases k
   |bad=>rw[e1]at k;cases k
   |ok ρ1=>
    rw[e1]at k;dsimp only at k;have EB:EnvOk X.K Ha O0 H4 (λb=>O b\/b=B) xm (j6 own Y ρ):=(E2.ae1 zl hkl).grow sm4;have I4':=I4.pinned (fpB fr4) (T.obj _ _ st4);have again:∀{s7:a9} {td:St} {t:Hp} {vs7:List V} {rd7:List D} {rest7:List D},Inv l ([]++pG N s4.heap) td t s7->t B=some (.lst vs7)->EnvOk X.K Ha O0 (T2 t B) O td (j6 own Y ρ)->Same H (T2 t B)->Reps X.K (T2 t B) O vs7 rd7->
      B0 G ft fe (j6 own Y ρ) (ds.drop<|i+1)=.ok rest7->rs=rd7++rest7->vs7.length<=i+1->∃m,m<ds.length-i/\Iv m s7:=λ{s7 td t vs7 rd7 rest7} I7 h7 E7 sm7 r7 hr7 hrs7 hv7=>by
     refine⟨ds.length-(i+1),by omega,i+1,td,T2 t B,vs7,rd7,rfl,bg,?_,BM _ _,T.keep _ _ _ st4 λb g o e=>(I7.pin (b,o)<|aAE _<|aAE _<|bM g e).1,λb g=>?_,E7,sm7,r7,⟨rest7,hr7,hrs7⟩,hv7⟩
     .rw[HX h7];exact I7.ab3
     .rw[V3 (aAk<|xv b g)];obtain⟨o,e,d⟩:=T.obj _ _ st4 b g;exact(I7.pin (b,o)<|aAE _<|aAE _<|bM g e).2.1
    have hasg:=hG' _ s4 xm H4 x u (λQ H5=>Same H4 H5/\EnvOk X.K Ha O0 H5 (λb=>O b\/b=B) Q ρ1) I4' ru ⟨Ha,O0,_,_,ds[i],ρ1,by rw[eK];exact EB,by rw[eK];exact rep4,e1,λQ H5 s5 E5=>⟨s5,by rw[eK]at E5;exact E5⟩⟩;rw[eP,eW,eA,eE,eX]at hasg;refine C4 hasg λ_ s5 z9=>?_;obtain⟨Q,H5,I5,sm5,E5⟩:=z9;have hacc5:H5 B=some (.lst vs):=sm5 B _ (sm4 B _ j2);cases e2:ft ρ1 with
    |ex z=>rw[e2]at k;cases k
    |bad=>rw[e2]at k;cases k
    |ok b=>
     rw[e2,R.aa0]at k;have htst:=hT' _ s5 Q H5 (λc H6=>c=b/\Same H5 H6) I5 ⟨Ha,O0,_,ρ1,by rw[eK];exact E5,by rw[e2];exactλH6 s6=>⟨rfl,s6⟩⟩;rw[eP,eW,eA,eE,eX]at htst;refine C4 htst λok s6 z9=>?_;obtain⟨H6,I6,g,sm6⟩:=z9;subst g;have sm46:Same (upd L B<|.lst vs) H6:=sm4.trans (sm5.trans sm6);have hacc6:H6 B=some (.lst vs):=sm6 B _ hacc5;have smx6:Same L (T2 H6 B):=V7 zl sm46;have W1:EA ρ1 (j6 own Y ρ):=hG _ _ e1;have Eb:∀{t:Hp},Same H5 t->EnvOk X.K Ha O0 (T2 t B) O Q (j6 own Y ρ):=λ{t} s7=>by
      have E7:=(E5.grow s7).weak W1;have h7:t B=some (.lst vs):=s7 B _ hacc5;refine⟨E7.len,E2.same.trans (V7 zl<|sm4.trans<|sm5.trans s7),E2.sub,λa z=>?_,E2.trk0,E2.tab.same (V7 zl<|sm4.trans<|sm5.trans s7),λj sl e=>?_,E7.inj⟩
      .obtain⟨o,q,mt⟩:=E2.trk a z;exact⟨o,V7 zl (sm4.trans<|sm5.trans s7) a o q,mt⟩
      .rcases fT e with rfl|⟨d,_,rfl,_⟩
       .trivial
       .obtain⟨v,h1,h2⟩:=E7.val j d e;exact⟨v,h1,Rep.hidden h7 h2⟩
     cases ok with
     |false=>rw[jn aAV]at k⊢;exact again I6 hacc6 (Eb sm6) (sm2.trans smx6) (r2.same smx6) k ya (Nat.le_succ_of_le hvl)
     |true=>
      rw[ji rfl]at k⊢;cases e3:fe ρ1 with
      |ex z=>rw[e3]at k;cases k
      |bad=>rw[e3]at k;cases k
      |ok dv=>
       rw[e3,R.aa0]at k;cases e4:B0 G ft fe (j6 own Y ρ) (ds.drop<|i+1)with
       |ex z=>rw[e4]at k;cases k
       |bad=>rw[e4]at k;cases k
       |ok rest'=>
        rw[e4,R.aa0]at k;have uh:dv::rest'=rest:=R.ok.inj k;have helt:=hE' _ s6 Q H6 (λv t=>Same H6 t/\Rep X.K t (λb=>O b\/b=B) v dv) I6 ⟨Ha,O0,_,ρ1,by rw[eK];exact E5.grow sm6,by rw[e3,RC];exactλv t s7 r7=>⟨s7,by rw[eK]at r7;exact r7⟩⟩;rw[eP,eW,eA,eE,eX]at helt;refine C4 helt λuv s7 z9=>?_;obtain⟨v,t,I7,ruv,sm7,r7⟩:=z9;have hacc7:t B=some (.lst vs):=sm7 B _ hacc6;have happ:=tE (X:=l) _ s7 Q t (.ref B) [v] (.ref B) [uv] (λ_ H8=>H8=upd t B (.lst (vs++[v]))) I7 rfl (.cons ruv .nil) ⟨B,vs,v,rfl,rfl,hacc7,by omega,rfl⟩;rw[eP,eW,eA,eX]at happ;refine C4 happ λ_ s8 z9=>?_;obtain⟨_,H8,I8,_,h8⟩:=z9;subst h8;have hh:T2 (upd t B<|.lst (vs++[v])) B=T2 t B:=by
         funext b
         unfold T2 upd;by_cases g:b=B
         .rw[ji g,ji g]
         .rw[jn g,jn g,jn g]
        have smx7:Same L (T2 t B):=V7 zl (sm46.trans sm7);refine again (vs7:=vs++[v]) (rd7:=rd++[dv]) (rest7:=rest') I8 j2 (by rw[hh];exact Eb (sm6.trans sm7)) (by rw[hh];exact sm2.trans smx7) ?_ e4 (by rw[ya,<-uh,aDY];rfl) (by rw[aAF];exact Nat.succ_le_succ hvl);rw[hh];exact(r2.same smx7).snoc (Rep.hidden hacc7 r7)
  .have ip:i=ds.length:=by omega
   subst ip;have hstop:=hit.2 (by simp);have qt:=T.done l eP eW eK eC ds.length [] s2 xm _ (λ_ _=>False) I2 (fpB fr2) og hstop;rw[eA]at qt;refine C4 qt λr s3 z9=>?_;obtain⟨hr,I3⟩:=z9;subst hr;rw[List.drop_length,B0]at k;have uh:([]:List D)=rest:=R.ok.inj k;rw[<-uh,aBG]at ya;obtain⟨m,hm,_⟩:=id I3.loc;rw[eL]at hm;have hfin:Same H (upd L B<|.lst vs):=sm2.trans sU;refine fin B C s3 (upd L B<|.lst vs) m hm (aCi accC) (by omega) (aAh _) hfin ?_ ⟨L,vs,sm2,zl,rfl,by rw[ya];exact r2⟩ (by rw[<-eL];exact I3.free) (λh' kn=>?_)
   .rw[ya];exact .lst (O5.of j2) (E2.fresh zl) (r2.same sU)
   .have hU:Un (W5 X.stack) N (upd H B<|.lst []) (upd L B<|.lst vs) U.heap s3.heap:=by have:=I3.base;rw[eFs,eX0,eH0,eS0]at this;exact this
    have hCn:∀b o,U.heap.get? b=some o->b≠C:=λb o e=>by have:=aAf e;rw[hC]at this;exact aAk this
    have hU':Un (W5 X.stack) N (upd H B<|.lst []) (upd L B<|.lst vs) U.heap h':=⟨λb o e n g hx=>(kn.2 b (hCn b o e)).trans (hU.keep b o e n g hx),λb o e n g hx=>by
      obtain⟨sl,q⟩:=hU.slot b o e n g hx;exact⟨sl,(kn.2 b (hCn b o e)).trans q⟩,hU.free,λb o e hx=>by
      obtain⟨o',q⟩:=hU.there b o e hx;exact⟨o',(kn.2 b (hCn b o e)).trans q⟩,hU.tups,hU.frzs,hU.tbls⟩
    have hCf:upd L B (.lst vs) C=none:=by rw[<-eL];exact I3.free
    have hok':aD X.prog X.w (upd L B<|.lst vs) h':=λb u e=>by
     have g:b≠C:=by rintro rfl;rw[hCf]at e;cases e
     have:=I3.hok b u e;rw[eP,eW]at this;refine this.ab4 (λc v hc q=>(kn.2 c ?_).trans q) (λ_ q=>q) λ_ _ _ q=>q;rcases hc with z|z
     .rw[z];exact g
     .rintro rfl;rw[hCf]at z;cases z
    have hos:s3.os=U.os:=by have:=I3.os;rw[eS0]at this;exact this
    exact I1.af2 (s':={s3 with heap:=h'}) (ch:=N) hos hU' hok' I3.bare λb g=>by obtain⟨f0,f1,f2,f3,f4,f5⟩:=xu b g;exact⟨f3,f1,f4,f5⟩
 exact codeAny_compStart_list loop (T.self _ 0 _ _ _ XS loop)
def K7 (own z:List Str)(f:List Nat)(hc:X.calm=true)(S:CompSc X b own z f)(hi:gk X L B7 N)(hX:∀(a:N9) (j:List bc) (h:Cx),(∃sa Hb C,h=JJ X a sa Hb (own++z) b (cS X b C) C j)->MD h L G/\YA h k ft/\PD h l fe)(hG:∀ρ d ρ1,G d (j6 own f ρ)=.ok ρ1->EA ρ1 (j6 own f ρ))(hs:∀x,f6 B7 X.env x=pure x:=by intro _;rfl):
  PD X (.ListComp l [⟨L,B7,k,0⟩] b pos) (λρ=>(N ρ).bind λds=>if ds.length<=sizeLine then(B0 G ft fe (j6 own f ρ) ds).bind λc=>.ok (.lst c)else .bad):=by
 refine rR λa s σ H Q I Ha O0 O ρ E q=>?_;dsimp only at q;rw[eval_ListComp];refine wpAny_comprehension_free (use:=none) rfl hs (fK<|Inv.ab7 I S) S.kind S.names ?_;refine C4 (hi a s σ H (λJ n=>∃ds c,Same H n/\lq X.K J n O ds/\ds.length<=sizeLine/\B0 G ft fe (j6 own f ρ) ds=.ok c/\∀v g,Same H g->Rep X.K g O v (.lst c)->Q v g) I ⟨Ha,O0,O,ρ,E,qZ I O E.trk,?_⟩) λv U h1=>C4 h1 λitv s2 h2=>?_
 .cases o:N ρ with
  |ex x=>rw[o]at q;exact q
  |bad=>rw[o]at q;exact q
  |ok ds=>
   rw[o,R.aa0]at q;intro J n U p;split at q
   .rename_i t;cases i:B0 G ft fe (j6 own f ρ) ds with
    |ex x=>rw[i]at q;exact(q H<|Same.refl _).elim
    |bad=>rw[i]at q;exact q.elim
    |ok c=>rw[i]at q;exact⟨ds,c,U,p,t,i,q⟩
   .exact q.elim
 .obtain⟨it,j,tn,J,H2,e,I2,T,og,f2,ds,c,Y,p,t,u,q⟩:=h2;subst e;refine yB (RR:=λB C=>compPost (bo X.prog X.w) X.A X.xe none (EP X a σ Q) B C) hc S (hX a j) (hG ρ) I2 T og f2 (E.grow Y) p u t ?_;intro B C s' g m hn _ _ _ y r _ _ hI;exact⟨m,hn,λh' kn=>⟨.ref B,g,hI h' kn,rfl,q _ g (Y.trans y) r⟩⟩
end
def QK (P:bu)(w:cp):OI:=λc H s E e d=>∃(a:bc) (cls g:af) (B:cq) (f:Hp),e=.ref a/\d.os=s.os/\AllBare d.gens/\Heap.FlyingW B c a cls g d.heap/\
 Un (W5 c) [] H f s.heap d.heap/\aD P w f d.heap/\(∀b o,s.heap.get? b=some o->H b=none->b∉W5 c->B.get? b=some o)/\
 (∀b o,s.heap.get? b=some o->b∉W5 c->∃u,B.get? b=some u)/\(∀b u,f b=some u->∃o,B.get? b=some o)/\E cls none f
structure LeavesBy (X:Cx)(E:XK):Prop where
 xe:∀e s',wpAny (model X.prog X.w) X.A (leaving X.env e) (λ_ s''=>QK X.prog X.w X.outer X.Ha X.sa E e s'') (λe' s''=>QK X.prog X.w X.outer X.Ha X.sa E e' s'') s'->X.xe e s'
 stk:X.stack=X.env::X.outer
 fr:X.env.frame=some X.env.locals
 ex:X.ex=[]
def _root_.L2.ObjOk.live (x:ObjOk P w H h a o):h.get? a≠none:=by
 intro z;have b:∀{u:Obj},h.get? a=some u->False:=λq=>by rw[z]at q;cases q
 cases o with
 |lst Y=>obtain⟨_,_,_,_,e⟩:=x;exact b e
 |tup Y=>obtain⟨_,_,_,o,e,_⟩:=x;exact b e
 |dK N=>obtain⟨_,_,_,_,o,_,_,e,_⟩:=x;exact b e
 |dT N=>obtain⟨_,_,_,_,o,_,_,e,_⟩:=x;exact b e
 |set S n=>obtain⟨o,_,_,_,e,_⟩:=x;exact b e
 |ins C c fs=>obtain⟨_,_,_,e,_⟩:=x;exact b e
 |own y=>obtain⟨_,e⟩:=x;exact b e
 |xd fs=>obtain⟨_,⟨_,_,_,e,_⟩,_⟩:=x;exact b e
 |rng lo d=>obtain⟨_,_,_,e⟩:=x;exact b e
 |frz g u=>obtain⟨e,_⟩:=x;exact b e
 |tbl i=>obtain⟨_,e,_⟩:=x;exact b e
 |met f y=>exact b (show h.get? a=some _ from x)
 |ext φ=>obtain⟨_,⟨_,e⟩,_⟩:=x;exact b e
def aD.over {P:bu}{w:cp}{H:Hp}{h h' B:cq}(x:aD P w H h)(b1:B.StaysIn h)(b2:B.StaysIn h')(t:∀b u,H b=some u->∃o,B.get? b=some o):aD P w H h':=λa o e=>
 (x a o e).ab4 (λb u c q=>by
  have:∃o,B.get? b=some o:=by
   rcases c with rfl|c
   .exact t _ _ e
   .exact t _ _ c
  obtain⟨d,z⟩:=this;have:=b1 b d z;rw[q]at this;cases this;exact b2 b _ z) (λ_ q=>q) λ_ _ _ q=>q
section
def GX (L:LeavesBy X E):W5 X.stack=X.env.locals::W5 X.outer:=by rw[L.stk];unfold W5;rw[aCj,L.fr]
def HD (L:LeavesBy X E)(I:Inv X l σ H s){e d B:cq}(U:Un (W5 X.stack) [] H H' s.heap e)(k:aD X.prog X.w H' e)(b2:B.StaysIn e)(h:B.StaysIn d)(us:e.UpToSlots d)
  (y:∀b o,s.heap.get? b=some o->H b=none->b∉W5 X.stack->B.get? b=some o) (A:∀b o,s.heap.get? b=some o->b∉W5 X.stack->∃u,B.get? b=some u) (C:∀b u,H' b=some u->∃o,B.get? b=some o):
  Un (W5 X.outer) [] X.Ha H' X.sa.heap d/\aD X.prog X.w H' d/\(∀b o,X.sa.heap.get? b=some o->X.Ha b=none->b∉W5 X.outer->B.get? b=some o)/\
   (∀b o,X.sa.heap.get? b=some o->b∉W5 X.outer->∃u,B.get? b=some u):=by
 have c:Un (W5 X.outer) [] X.Ha H X.sa.heap s.heap:=by have:=I.base;rw[L.ex]at this;exact this
 have nx:∀b:bc,b∉([]:List bc):=λb=>aAG;have m:∀b o,X.sa.heap.get? b=some o->b∉W5 X.outer->b∉W5 X.stack:=λb o q n=>by
  rw[GX L];intro z;rcases aAd.mp z with z|z
  .exact absurd (aAf q) (Nat.not_lt_of_le (by rw[z];exact I.ok.above))
  .exact n z
 have p:∀b o,X.sa.heap.get? b=some o->X.Ha b=none->b∉W5 X.outer->B.get? b=some o:=λb o q n a=>y b o (c.keep b o q n a<|nx b) (c.free b o q n<|nx b) (m b o q a);have r:∀b o,X.sa.heap.get? b=some o->b∉W5 X.outer->∃u,B.get? b=some u:=λb o q a=>by obtain⟨f,i⟩:=c.there b o q (nx b);exact A b f i (m b o q a)
 have g:∀b o,X.sa.heap.get? b=some o->b∈W5 X.outer->∃g,d.get? b=some {o with slots:=g}:=λb o q a=>by have n:=I.ok.frf b a;obtain⟨_,f,t,J⟩:=I.ok.funs.mem a;rw[q]at t;cases t;obtain⟨Q,N⟩:=c.slot b o q n a (nx b);obtain⟨T,O⟩:=U.slot b _ N (c.free b o q n<|nx b) (by rw[GX L];exact aAe _ a) (nx b);obtain⟨v,j⟩:=us b _ O J;exact⟨v,j⟩
 refine⟨⟨λb o q n a _=>h b o (p b o q n a),λb o q n a _=>g b o q a,λb o q n _=>?_,λb o q _=>?_,λb Y q=>U.tups b Y (c.tups b Y q),λb o u q=>U.frzs b o u (c.frzs b o u q),λb x q=>?_⟩,aD.over k b2 h C,p,r⟩
 .obtain⟨f,i⟩:=c.there b o q (nx b);exact U.free b f i (c.free b o q n<|nx b) (nx b)
 .by_cases a:b∈W5 X.outer
  .obtain⟨v,j⟩:=g b o q a;exact⟨_,j⟩
  .obtain⟨u,z⟩:=r b o q a;exact⟨u,h b u z⟩
 .exact U.tbls b x (c.tbls b x q)
def KS (L:LeavesBy X E):qN (QK X.prog X.w) X E:=by rintro d σ H s e t I ⟨a,cls,h,B,i,j,os,b,f,U,k,l,m,g,w⟩;subst j;refine L.xe _ _ (wpAny_leaves_onW (by rw[I.ok.frames,L.stk]) L.fr (by rw[<-L.stk];exact f) λu c n=>?_);obtain⟨o,p,q,r⟩:=HD L I U k f.1 c.1 n l m g;exact⟨a,cls,h,B,i,rfl,os.trans I.os,b,c,o,p,q,r,g,w⟩
def IV (L:LeavesBy X E)(I:Inv X c σ H s){h':cq}{e:bc}{cls:af}{args:List af}(d:Heap.MadeExcOf s.heap h' e cls args)(w:E cls none H):X.xe (.ref e) {s with heap:=h'}:=by
 have i:s.heap.FunFrames (PySem.W.hideAll s.heap<|W5 X.stack) X.stack:=PySem.W.funFrames_hide I.stack λa j b k=>aBM.mpr ⟨a,j,k⟩;have st:(PySem.W.hideAll s.heap<|W5 X.stack).StaysIn s.heap:=λb o q=>PySem.W.of_hideAll _ q;refine L.xe _ _ (wpAny_leaves_madeW (base:=PySem.W.hideAll s.heap (W5 X.stack)) (h:=s.heap) (by rw[I.ok.frames,L.stk]) L.fr st (by rw[<-L.stk];exact i) d λl t f _ _ m=>?_);have g:∀b u,H b=some u->∃o,(PySem.W.hideAll s.heap<|W5 X.stack).get? b=some o:=λb u q=>by
  have p:b∉W5 X.stack:=λz=>by rw[I.ab9 b z]at q;cases q
  have:∃o,s.heap.get? b=some o:=by
   cases z:s.heap.get? b with
   |some o=>exact⟨o,rfl⟩
   |none=>exact absurd z (I.hok b u q).live
  obtain⟨o,z⟩:=this;exact⟨o,PySem.W.hideAll_get _ z p⟩
 obtain⟨r,v,x,y⟩:=HD (H':=H) L I Un.refl I.hok st f.1 ((Heap.UpToSlots.of_keeps d.keeps).trans m) (λb o q _ n=>PySem.W.hideAll_get _ q n) (λb o q n=>⟨o,PySem.W.hideAll_get _ q n⟩) g;exact⟨e,cls,.ref t,_,H,rfl,I.os,I.bare,f,r,v,x,y,g,w⟩
end
def jq (X:Cx)(E:XK)(e:cu)(G:Ev->Option af):Prop:=∀(b:Hp) (d:bc->Prop) (a:N9) (s:a9) (σ:St) (H:Hp) (O:bc->Prop) (ρ:Ev) (C:af),
 Inv X a σ H s->EnvOk X.K b d H O σ ρ->R5 X.K O->G ρ=some C->(∀c,Same b c->E C none c)->bb (bo X.prog X.w) X.A (dz e X.env) (λ_ _=>False) X.xe s
def PX (X:Cx)(E:XK)(st:dm)(G:Ev->Option af):Prop:=∀(b:Hp) (d:bc->Prop) (a:N9) (s:a9) (σ:St) (H:Hp) (O:bc->Prop) (ρ:Ev) (C:af),
 Inv X a σ H s->EnvOk X.K b d H O σ ρ->R5 X.K O->G ρ=some C->(∀c,Same b c->E C none c)->bb (bo X.prog X.w) X.A (exec st X.env) (λ_ _=>False) X.xe s
def SQ (X:Cx)(E:XK)(st:List dm)(G:Ev->Option af):Prop:=∀(b:Hp) (d:bc->Prop) (a:N9) (s:a9) (σ:St) (H:Hp) (O:bc->Prop) (ρ:Ev) (C:af),
 Inv X a σ H s->EnvOk X.K b d H O σ ρ->R5 X.K O->G ρ=some C->(∀c,Same b c->E C none c)->bb (bo X.prog X.w) X.A (execs st X.env) (λ_ _=>False) X.xe s
def spX (K:ka)(n:Nat)(m:List D->Option af):Sp:=λd H _ E=>∃O b C,Reps K H O d b/\b.length=n/\(∀a,O a->∃o,H a=some o/\Mt o)/\Tb H/\R5 K O/\m b=some C/\∀c,Same H c->E C none c
def U5 {P:bu}{w:cp}{K:ka}{mg:Y1}{base:cq}{N:List Str}{qual:Str}{sc:ik}{f:bc}{cd:af}{A:cf}{a:List Env}{s:a9}{H:Hp}{E:XK}:
 LeavesBy (vG (QK P w) P w K mg base N qual sc f cd A a s H E) E:=⟨λ_ _ h=>h,rfl,rfl,rfl⟩
section
variable{P:bu} {w:cp} {K:ka} {mg:Y1} {base:cq}
abbrev cxX (P:bu)(w:cp)(K:ka)(mg:Y1)(base:cq)(N:List Str)(qual:Str)(sc:ik)(f:bc)(T:af)(A:cf)(a:List Env)(s:a9)(H:Hp)(E:XK):Cx:=vG (QK P w) P w K mg base N qual sc f T A a s H E
def fnX {x qual:Str}{st:dm}{f:bc}{fd:dC}{N ps:List Str}{k:Nat}{m:List D->Option af}{G:Ev->Option af}(h:Fun K x qual st f fd)(S:FnScope N ps (c6 st))
  (i:∀(T:af) (A:cf) (a:List Env) (s:a9) (H:Hp) (E:XK),Room k (A.deeper (envOfC qual (c6 st) s.heap.objs.size f T))->SQ (cxX P w K mg base N qual (c6 st) f T A a s H E) E (o6 st) G)
  (j:∀ds C,ds.length=ps.length->m ds=some C->G (j0 N ds)=some C):FnOk P w K mg base (QK P w) (k+1) f fd ps (spX K ps.length m):=by
 obtain⟨Y,od,kV,l,pm,an,T,ct,n,rfl,lk,o⟩:=h.ex;refine PN lk o S (by rintro p H Q E ⟨O,ds,C,r,c,_⟩;rw[r.length];exact c) λA a s H p Q E t d=>?_;obtain⟨O,ds,C,r,c,u,v,y,e,q⟩:=d;refine⟨λD σ B=>B=H/\EnvOk K H O H O σ (j0 N ds),λb J σ g D I d=>?_,rfl,eT r u v⟩;obtain⟨L,U⟩:=d;subst L;exact aBP (i T A a s g E t g O b J σ g O _ C I U y (j ds C c e) q) (λ_ _ z=>z.elim) λ_ _ z=>z
end
section
variable{X:Cx} {E:XK} {st:dm} {rest:List dm} {F:Ev->R Out} {G Ga Gb:Ev->Option af} {pos:Pos}
def Q8 (b:PX X E st G):SQ X E (st::rest) G:=λc d a s σ H O ρ C I Ev f e q=>aDf (C4 (b c d a s σ H O ρ C I Ev f e q) λ_ _ z=>z.elim)
def tT {a:List dm}:SQ X E a (λ_=>none):=λ_ _ _ _ _ _ _ _ _ _ _ _ e=>by cases e
def ifX (r:R Bool)(a b:Option af):Option af:=match r with
 |.ok true=>a
 |.ok false=>b
 |_=>none
def YO {c:cu}{a b:List dm}{i:Ev->R Bool}(p:CP X c i)(r:SQ X E a Ga)(u:SQ X E b Gb):PX X E (.If c a b pos) (λρ=>ifX (i ρ) (Ga ρ) (Gb ρ)):=by
 intro j k f s σ H O ρ C I Ev l e q;cases g:i ρ with
 |ok t=>
  refine wpAny_If (C4 (p f s σ H (λd h=>d=t/\Same H h) I ⟨j,k,O,ρ,Ev,?_⟩) λd m v=>?_)
  .rw[g];exactλy w=>⟨rfl,w⟩
  .obtain⟨h,n,x,o⟩:=v;subst x;dsimp only at e;rw[g]at e;cases d with
   |true=>exact r j k f m σ h O ρ C n (Ev.grow o) l e q
   |false=>exact u j k f m σ h O ρ C n (Ev.grow o) l e q
 |ex z=>dsimp only at e;rw[g]at e;cases e
 |bad=>dsimp only at e;rw[g]at e;cases e
def VP {e:cu}(h:jq X E e G)(b:et e none pos.line X.env=pure false:=by rfl):PX X E (.Expr e pos) G:=λc d a s σ H O ρ C I Ev f g q=>aFT (C4 (h c d a s σ H O ρ C I Ev f g q) λ_ _ z=>z.elim) I.quiet b
def MW {e:cu}(h:jq X E e G):PX X E (.Return (some e) pos) G:=λb c a s σ H O ρ C I Ev d f q=>wpAny_Return_some (C4 (h b c a s σ H O ρ C I Ev d f q) λ_ _ z=>z.elim)
def MV {k:Nat}{g:bc}{d:dC}{ps:List Str}{n:Nat}{m:List D->Option af}{x:Str}{p:Pos}{e:cu}{es:List cu}{f:Ev->R (List D)}(h:qN (QK X.prog X.w) X E)(F:FnOk X.prog X.w X.K X.mg X.base (QK X.prog X.w) k g d ps (spX X.K n m))(i:Room k X.A)(j:X.mg x=some (.ref g))
  (l:PySem.W.keepIn X.K (.ref g)=true) (o:Binds X.K d ps []) (r:xF X (e::es) f) (t:∀ρ ds,f ρ=.ok ds->ds.length=n) (v:Gl X x:=by rfl)
  (y:(x==kb)=false:=by decide) (B:a5 (e::es) X.env=(false,dz e X.env)::a5 es X.env:=by rfl) (A8:(cv pos (a5 es X.env)).any (·.1)=false:=by rfl):
  jq X E (.Call (.Name x p) (e::es) [] pos) (λρ=>match f ρ with|.ok ds=>m ds|_=>none):=by
 intro J L b s σ H O ρ C I Ev N a q;dsimp only at a;cases c:f ρ with
 |ex z=>rw[c]at a;cases a
 |bad=>rw[c]at a;cases a
 |ok ds=>rw[c]at a;refine aBP (uW F i v j l o .nil h r y B A8 b s σ H (λ_ _=>False) I ⟨J,L,O,ρ,Ev,?_⟩) (by rintro u Y ⟨_,_,_,_,z⟩;exact z.elim) λ_ _ z=>z;rw[c];intro vs H1 s1 Q;rw[aBG];exact⟨O,ds,C,Q,t ρ ds c,(Ev.grow s1).trk,(Ev.grow s1).tab,N,a,λT U=>q T (Ev.same.trans<|s1.trans U)⟩
end
section
variable{K:ka} {h:cq} {C:bc} {yb:List af} {newId:String}
def GO (X:K.In h)(q:PySem.W.excIn K C yb newId=true):∃bm N nm d bs hdct sn sub ab col dd k0 k1 k2 k3 k5 mN,
  h.get? C=some (excClassObj nm d C N bs bm hdct sn sub ab col dd k0 k1 k2 k3 k5 newId)/\h.Ns N mN/\mN "__init__"=none/\OwnTail h yb bm:=by
 unfold PySem.W.excIn at q;split at q
 .rename_i dd j f k;split at q
  .rename_i t bm k0 k1 k2 k3 n k5 g i;simp only[aAJ,beq_iff_eq,Bool.not_eq_true']at q;obtain⟨⟨⟨⟨⟨rfl,rfl⟩,a⟩,m⟩,b⟩,c⟩:=q;obtain⟨nm,bs,o,p,d,r,sn,sub,ab,col,s⟩:=j;dsimp only at g a b c;subst g;subst a;have e:f=#[k0,k1,k2,k3,some (.builtin n),k5]:=by obtain⟨l⟩:=f;simp only at i;rw[i]
   subst e;exact⟨bm,p,nm,d,bs,r,sn,sub,ab,col,dd,k0,k1,k2,k3,k5,_,X _ _ k,.of_isNs (PySem.W.isNs_of_in X b),PySem.W.nsMap_none_of_in X b c,PySem.W.tail_of_in X m⟩
  .cases q
 .cases q
end
section
variable{X:Cx} {E:XK} {pos bf np:Pos} {x:Str} {C:bc} {yb:List af} {B newId initId:String}
def yQ {c:cu}{rest:List cu}{f:Ev->R (List D)}(L:LeavesBy X E)(n:X.calm=true)(o:PySem.W.excIn X.K C yb newId=true)(FB:ExcBaseFacts B newId initId yb)(p:X.mg x=some (.ref C))
  (t:xF X (c::rest) f) (u:Gl X x:=by rfl) (v:(x==kb)=false:=by decide)
  (k:a5 (c::rest) X.env=(false,dz c X.env)::a5 rest X.env:=by rfl) (A8:(cv bf (a5 rest X.env)).any (·.1)=false:=by rfl):
  PX X E (.Raise (some (.Call (.Name x np) (c::rest) [] bf)) none pos) (λρ=>match f ρ with|.ok ds=>if ds.length<=1000 then some (.ref C)else none|_=>none):=by
 intro w y b s σ H O ρ C' I Ev fk a q;dsimp only at a;cases d:f ρ with
 |ex z=>rw[d]at a;cases a
 |bad=>rw[d]at a;cases a
 |ok ds=>
  rw[d]at a;dsimp only at a;split at a
  .rename_i A;cases a;obtain⟨J,N,nm,Q,bs,hdct,sn,sub,ab,col,dd,k0,k1,k2,k3,k5,mN,U,Y,i,T⟩:=GO I.mod.kin o;refine wpAny_Raise_call_subT (C:=C) (nm:=nm) (q:=Q) (N:=N) (bs:=bs) (bm:=J) (hdct:=hdct) (sn:=sn) (sub:=sub) (ab:=ab) (col:=col) (dd:=dd) (k0:=k0) (k1:=k1) (k2:=k2) (k3:=k3) (k5:=k5)
    FB (mN:=mN) (T.hasType FB.hasBase) (I.ok.hd n) (by rw[k];show(false||(cv bf<|a5 rest X.env).any (·.1))=false;rw[A8];rfl) i (bE I u p ⟨rfl,?_⟩ v)
   have m:=t bf b s σ H (λj g=>j.length=ds.length/\Same H g) I ⟨w,y,O,ρ,Ev,by rw[d];exactλj g s1 r1=>⟨r1.length,s1⟩⟩;rw[k]at m⊢;refine aFM (C4 m λus s2 ⟨j,g,h,r,l,sm⟩=>⟨rfl,?_,h.bk _ _ U,Y.keeps h.bk,T.keeps h.bk,λh' e hx=>?_⟩)
   .rw[<-r.length,l];exact aDb (JD A)
   .exact IV L h hx (q g<|Ev.same.trans sm)
  .cases a
end
end
end DL
namespace TS
open PySem PyProof.Rows HT
def sK (f:Bool)(x y:af):keyLt' (tupK f) x y=(do
 let Y<-aCM x;let a<-aCM y
 for ((p,q),i)in(Y.toList.zip a.toList).zipIdx do
  if !(<-eqBool p q)then return<-oneLt' (f&&i==0) p q
 return decide (Y.size<a.size)):=rfl
def OH:af->Sem (Option af):=sortPriv%PySem.Builtin.firstOfTuple?
def MK:Array af->Sem (Option af):=sortPriv%PySem.Builtin.oneTypeOnly
def IN (v:af):OH v=(do
 if(<-typeOf v) !=.type "tuple"then return none
 return (<-aCM v)[0]?):=rfl
def NX (vs:Array af):MK vs=(do
 let a<-vs.mapM typeOf
 match a[0]? with
 |some t=>return if a.all (· ==t)then some t else none
 |none=>return none):=rfl
def CJ (a:Array af):keyKind' a=(do
 let firsts<-a.mapM OH
 if firsts.all (·.isSome)then
  rule "list.sort.keys-are-tuples"
  return tupK ((<-MK (firsts.filterMap id)).any (· !=.type "tuple"))
 if(firsts[0]?.bind id).isSome then return general'
 return if(<-MK a).isSome then oneType' else general'):=rfl
section
def MZ {Q:xG}(f:Bool)(h:Q (decide (a<b)) s):bb (bo prog w) A (oneLt' f (.int a t) (.int b u)) Q E s:=by
 cases f with
 |true=>exact oneLt_int h
 |false=>rw[oneLt'_eq];simp only[aAn,if_false];exact aAa (zM A s a t b u prog w _ _<|aBD h)
def lt_ints (f:Bool){Q:xG}(hl:IsTup s.heap l items)(hb:IsTup s.heap b v)(Y:IntsAre items.toList ns)(hj:IntsAre v.toList N)(h:Q (HT.lexLt ns N) s):bb (bo prog w) A (keyLt' (tupK f) (.ref l) (.ref b)) Q E s:=by
 obtain⟨o,ho,hc,n,hd⟩:=hl;obtain⟨o2,mo,lb,n2,O⟩:=hb;have z1:items.size=ns.length:=by rw[<-Y.length];simp
 have z2:v.size=N.length:=by rw[<-hj.length];simp
 rw[sK];refine aAa (aEh ho hd<|aAa<|aEh mo O ?_);refine aAa (aCx _ (λrest b p=>b.1=none/\p=s/\∃(k:Nat) (J L:List af) (B C:List Int),rest=(J.zip L).zipIdx k/\IntsAre J B/\IntsAre L C/\B.length+v.size=C.length+items.size/\Q (HT.lexLt B C) s)
  (λb p=>p=s/\(∀c,b.1=some c->Q c s)/\(b.1=none->Q (decide (items.size<v.size)) s)) ?turn ?fin _ _ ⟨rfl,rfl,0,items.toList,v.toList,ns,N,rfl,Y,hj,by lia,h⟩|>λz=>aBP z ?post λ_ _ e=>e)
 case post=>
  rintro⟨b1,b2⟩ p ⟨rfl,q1,q2⟩;cases b1 with
  |none=>exact aAb (q2 rfl)
  |some c=>exact aAb (q1 c rfl)
 case fin=>
  rintro⟨b1,b2⟩ p ⟨ki,rfl,k,J,L,B,C,j,T,m,d,g⟩;refine⟨rfl,λc e=>(by rw[ki]at e;cases e),λ_=>?_⟩;cases T with
  |nil=>
   cases m with
   |nil=>rw[Z6]at g;simp only[aAY]at d;rw[decide_eq_false (by lia)];exact g
   |cons c u hw=>rw[M9]at g;simp only[aAY,aAu]at d;rw[decide_eq_true (by lia)];exact g
  |cons a t hv=>
   cases m with
   |nil=>rw[C5]at g;simp only[aAY,aAu]at d;rw[decide_eq_false (by lia)];exact g
   |cons c u hw=>rw[aBY,aEn]at j;cases j
 case turn=>
  rintro⟨⟨y,x⟩,i⟩ rest b p ⟨ki,rfl,k,J,L,B,C,j,T,m,d,g⟩;cases T with
  |nil=>rw[List.zip_nil_left,aEA]at j;cases j
  |cons a t H=>
   cases m with
   |nil=>rw[List.zip_nil_right,aEA]at j;cases j
   |cons c u I=>
    rw[aBY,aEn]at j;injection j with r au;injection r with r U;injection r with hy hx;subst hy hx U;rw[I0]at g;simp only[aAu]at d;obtain⟨e,he,xp⟩:=yW A p a t c u;refine aAa (he prog w _ _ ?_);cases e with
    |true=>rw[ji (xp.mp rfl)]at g;exact aAb ⟨rfl,rfl,_,_,_,_,_,au,H,I,by lia,g⟩
    |false=>rw[jn (λq=>absurd (xp.mpr q) aAV)]at g;exact aAa (MZ _ (aAb ⟨rfl,λc e=>(by cases e;exact g),λe=>(by cases e)⟩))
end
section
theorem GD {α β:Type}{M:je}{f:α->Sem β}(g:α->β):∀(Y:List α) {Q:List β->a9->Prop},(∀x∈Y,∀{Q:β->a9->Prop},Q (g x) s->bb M A (f x) Q E s)->Q (Y.map g) s->bb M A (Y.mapM f) Q E s
 |[],Q,_,q=>by rw[List.mapM_nil];exact aAb q
 |x::Y,Q,h,q=>by rw[List.mapM_cons];exact aAa (h x (.head _) (aAa (GD g Y (λy a=>h y (.tail _ a)) (aAb q))))
def FS {α β:Type}{M:je}{f:α->Sem β}(g:α->β)(Y:List α){Q:Array β->a9->Prop}(h:∀x∈Y,∀{Q:β->a9->Prop},Q (g x) s->bb M A (f x) Q E s)(q:Q (Y.map g).toArray s):bb M A (Y.toArray.mapM f) Q E s:=by rw[List.mapM_toArray];show bb M A (List.toArray<$>Y.mapM f) Q E s;rw[map_eq_pure_bind];exact aAa (GD g Y h<|aAb q)
def kind_tuples {vs:List af}{f:Bool}{T:String}{Q:SortKind->a9->Prop}(b:af->af)(h:∀x∈vs,∃a items,x=.ref a/\IsTup s.heap a items/\items[0]?=some (b x)/\s.TypeIs (b x) T)(g:vs≠[])(i:f=(aCv T !=aCv "tuple"))
  (q:Q (tupK f) s):bb (bo prog w) A (keyKind' vs.toArray) Q E s:=by
 rw[CJ];refine aAa (FS (λx=>some (b x)) vs (λx c {Q} d=>?_) ?_)
 .obtain⟨a,items,rfl,⟨o,e,j,n,k⟩,l,_⟩:=h x c;rw[IN];refine aAa (aDI (T:= "tuple") ⟨o,e,j⟩ ?_);rw[jn (by simp)];refine aAa (aEh e k ?_);rw[l];exact aAb d
 .have m:((vs.map λx=>some (b x)).toArray.all λx=>x.isSome)=true:=by simp
  have p:(vs.map λx=>some (b x)).toArray.filterMap id=(vs.map b).toArray:=by
   rw[List.filterMap_toArray,aDl];congr 1;induction vs with
   |nil=>rfl
   |cons v vs z=>simp
  simp only[m,if_true,p];refine aAa (aDi ?_);refine aAa ?_;rw[NX];refine aAa (FS (λ_=>aCv T) (vs.map b) (λx c {Q} d=>?_) ?_)
  .obtain⟨y,r,rfl⟩:=aAo.mp c;obtain⟨_,_,_,_,_,t⟩:=h y r;exact aDI t d
  .cases vs with
   |nil=>exact absurd rfl g
   |cons v vs=>
    simp only[aAt,aCr];have u:((aCv T::aDn ((λ_=>aCv T)∘b) vs).toArray.all λx=>x==aCv T)=true:=by simp
    simp only[aCQ,aDc,u,if_true];refine aAb (aAb ?_);rw[i]at q;exact q
end
theorem lex_irrefl:∀a:List Int,HT.lexLt a a=false
 |[]=>rfl
 |x::Y=>by rw[I0,ji rfl];exact lex_irrefl Y
theorem lex_total:∀a b:List Int,HT.lexLt a b=false->HT.lexLt b a=false->a=b
 |[],[],_,_=>rfl
 |[],_::_,h,_=>by rw[M9]at h;cases h
 |_::_,[],_,h=>by rw[M9]at h;cases h
 |x::Y,y::f,c,d=>by
  rw[I0]at c d;by_cases e:x=y
  .subst e;rw[ji rfl]at c d;rw[lex_total Y f c d]
  .rw[jn e]at c;rw[jn (aCi e)]at d;have:=of_decide_eq_false c;have:=of_decide_eq_false d;omega
theorem lex_trans:∀a b c:List Int,HT.lexLt a b=true->HT.lexLt b c=true->HT.lexLt a c=true
 |[],[],_,h,_=>by rw[Z6]at h;cases h
 |[],_::_,[],_,h=>by rw[C5]at h;cases h
 |[],_::_,_::_,_,_=>rfl
 |_::_,[],_,h,_=>by rw[C5]at h;cases h
 |_::_,_::_,[],_,h=>by rw[C5]at h;cases h
 |x::Y,y::i,z::j,f,d=>by
  rw[I0]at f d⊢;by_cases e:x=y
  .subst e;rw[ji rfl]at f;by_cases g:x=z
   .subst g;rw[ji rfl]at d⊢;exact lex_trans Y i j f d
   .rw[jn g]at d⊢;exact d
  .rw[jn e]at f;have k:=of_decide_eq_true f;by_cases g:y=z
   .subst g;rw[jn e];exact f
   .rw[jn g]at d;have l:=of_decide_eq_true d;rw[jn (by omega)];exact decide_eq_true (by omega)
theorem GT:∀a b c:List Int,HT.lexLt a c=true->HT.lexLt a b=true\/HT.lexLt b c=true
 |[],[],_,h=>.inr h
 |[],_::_,_,_=>.inl rfl
 |_::_,_,[],h=>by rw[C5]at h;cases h
 |_::_,[],_::_,_=>.inr rfl
 |x::Y,y::f,z::g,h=>by
  rw[I0]at h;rw[I0,I0];by_cases e:x=y
  .subst e;rw[ji rfl];by_cases d:x=z
   .subst d;rw[ji rfl]at h⊢;exact GT Y f g h
   .rw[jn d]at h⊢;exact .inr h
  .rw[jn e];by_cases l:x<y
   .exact .inl (decide_eq_true l)
   .refine .inr ?_;by_cases d:x=z
    .subst d;rw[jn (aCi e)];exact decide_eq_true (by omega)
    .rw[jn d]at h;have:=of_decide_eq_true h;rw[jn (by omega)];exact decide_eq_true (by omega)
open Classical in
def kV (vs:List af) (key:af->List Int):KeyKind where
 α:=List Int
 blt:=HT.lexLt
 irrefl:=lex_irrefl
 trans:=lex_trans
 negTrans:=GT
 total:=lex_total
 keyOf:=λv=>if v∈vs then some (key v)else none
 dflt:=[]
open Classical in
def XX (h:v∈vs):(kV vs key).keyOf v=some (key v):=ji h
open Classical in
def XY (e:(kV vs key).keyOf v=some l):v∈vs/\key v=l:=by
 have a:(if v∈vs then some (key v)else none)=some l:=e;split at a
 .rename_i h;cases a;exact⟨h,rfl⟩
 .cases a
def qC (vs:List af):(pairsOf vs).toList=vs.map λv=>(v,v):=by
 unfold pairsOf;rw[List.zip_toArray];show vs.zip vs=_;induction vs with
 |nil=>rfl
 |cons v vs a=>rw[aBY,aAt,a]
section
def IX {a:bc}{vs:List af}{n:Nat}{f:Bool}{key:af->List Int}{P:Fin->a9->Prop}(C:s.heap.get? a=some (seqObj "list" vs.toArray n))
  (H:∀c,qk a s c->∀x∈vs,∀y∈vs,∀(prog:bu) (w:cp) (E:C7) {Q:xG},Q (HT.lexLt (key x) (key y)) c->bb (bo prog w) A (keyLt' (tupK f) x y) Q E c)
  (I:2<=vs.length->∀c,qk a s c->∀{Q:SortKind->a9->Prop},Q (tupK f) c->bb (bo prog w) A (keyKind' vs.toArray) Q E c) (g:vs.length<64)
  (h:∀m:List af,m.Perm vs->m.Pairwise (λx y=>HT.lexLt (key y) (key x)=false)->P (.done (.ret .none)) {s with heap:=sortedHeap s.heap a vs m.toArray}):
  bb (bo prog w) A (Builtin.«list.sort» ⟨[.ref a],[]⟩) P E s:=by
 refine yZ (κ:=kV vs key) (f:=f) C (λp e=>?_) (λc o prog w E x y k l Q J L q=>?_) (λN c o {Q} q=>I N c o q) g λb d O=>?_
 .rw[qC]at e;obtain⟨v,r,rfl⟩:=aAo.mp e;exact⟨key v,XX r⟩
 .obtain⟨T,t⟩:=XY J;obtain⟨U,u⟩:=XY L;subst t u;exact H c o x T y U prog w E q
 .have A8:(arrOf b).toList.Perm (vs.map λv=>(v,v)):=by rw[<-qC];exact aEJ.mp d
  have same:∀p∈(arrOf b).toList,p.1=p.2/\p.2∈vs:=λp e=>by obtain⟨v,r,rfl⟩:=aAo.mp (A8.mem_iff.mp e);exact⟨rfl,r⟩
  have Y:(arrOf b).map (·.2)=((arrOf b).toList.map (·.2)).toArray:=by apply Array.ext';simp
  rw[Y];refine h _ ?_ ?_
  .have:=A8.map (·.2);rw[aCr,show((λx:af×af=>x.2)∘λv=>(v,v))=id from rfl,List.map_id]at this;exact this
  .rw[aCo];intro i j hi hj ko;have ip:i<(arrOf b).size:=by simpa using hi
   have z:j<(arrOf b).size:=by simpa using hj
   have jf:(arrOf b).size=(pairsOf vs).size:=d.size_eq;have q:=O i j (aDb ko) (by rw[<-jf];exact z);have kk:∀k (B:k<(arrOf b).size),KK (kV vs key) (arrOf b) k=key (arrOf b)[k].2:=λk B=>by unfold KK;rw[getElem?_pos _ k B];obtain⟨t,u⟩:=same (arrOf b)[k] (by simp);show((kV vs key).keyOf (arrOf b)[k].1).getD _=_;rw[t,XX u];rfl
   rw[kk i ip,kk j z]at q;rw[aEo,aEo,aFQ,aFQ];exact q
def sorted_keys {x:af}{vs:List af}{f:Bool}{key:af->List Int}{Q:C7}{C:a9->Prop}(t:∀{k:List af->a9->Prop},(∀s',C s'->k vs s')->bb (bo prog w) A.in1 (collect x) k E s)
  (u:∀s',C s'->∀a,(∀b o,s'.heap.get? b=some o->a.heap.get? b=some o)->∀x∈vs,∀y∈vs,∀(prog:bu) (w:cp) (p:cf) (E:C7) (L:p.units<=A.units+5) {Q:xG},Q (HT.lexLt (key x) (key y)) a->bb (bo prog w) p (keyLt' (tupK f) x y) Q E a)
  (v:2<=vs.length->∀s',C s'->∀a,(∀b o,s'.heap.get? b=some o->a.heap.get? b=some o)->∀(A:cf) {Q:SortKind->a9->Prop},Q (tupK f) a->bb (bo prog w) A (keyKind' vs.toArray) Q E a) (i:vs.length<64)
  (h:∀(s':a9) (d:List af) (h':cq) (l:bc),C s'->d.Perm vs->d.Pairwise (λx y=>HT.lexLt (key y) (key x)=false)->(∀b o,s'.heap.get? b=some o->h'.get? b=some o)->s'.heap.objs.size<=l->(∃n,h'.get? l=some (seqObj "list" d.toArray n))->Q (.ref l) {s' with heap:=h'}):
  bb (bo prog w) A (call (.builtin "sorted") [x]) Q E s:=by
 refine Calls.call_function_entry kind_sorted plain_sorted entry_sorted (args_sorted1 _) ?_;unfold Builtin.«sorted»;refine aAa (m:=checkCount "sorted" 1 1 _) (aAb ?_);refine aAa (t λs' j=>?_);refine aAa (wpAny_newList ?_);have c:(s'.heap.push<|seqObj "list" vs.toArray 0).get? s'.heap.objs.size=some (seqObj "list" vs.toArray 0):=aAr _ rfl;have r:∀a,qk s'.heap.objs.size {s' with heap:=s'.heap.push (seqObj "list" vs.toArray 0)} a->∀b o,s'.heap.get? b=some o->a.heap.get? b=some o:=λa g b o e=>g b o (aAk<|aAf e) (aAc _ e);refine aAa (aAP (aBy slot_list_sort ⟨_,c,rfl⟩ entry_list_sort (IX (key:=key) (f:=f) c (λa g x z y B prog w E {Q} q=>u s' j a (r a g) x z y B prog w _ E (by simp) q) (λH a g {Q} q=>v H s' j a (r a g) _ q) i λd I J=>⟨_,rfl,?_⟩)<|args_list_sort _));refine aAb ⟨_,rfl,h s' d _ _ j I J (λb o e=>?_) (aAh _) (sortedHeap_at c)⟩;rw[sortedHeap_old (aAk<|aAf e) (by rw[aBE];exact aBq (aAf e))];exact aAc _ e
end
end TS
namespace DL
open PySem PySem.Spec L2
open PyProof.Rows hiding St
variable [Tabs]
omit [Tabs]in
def AO {ns:List Int}(h:PySem.W.WData.layableAll [PySem.W.WData.list (ns.map PySem.W.WData.int)]=true):∀x∈ns,aAW x<=1048576:=λx a=>by
 have b:=(PySem.W.layW_cons h).1;have c:=PySem.W.layableW_item b (.int x) (aAo.mpr ⟨x,a,rfl⟩);have d:=PySem.W.lay0_int c;have e:PyData.layable0 (.int x)=true:=by simpa[PyData.layableAll0]using d
 exact PyData.bits_of_layable e
def v7 (P:bu)(w:cp)(K:ka)(mg:Y1)(base:cq)(k:Nat)(x:Str)(n:Nat)(m:List D->R D):Prop:=
 ∃g a b,FnOk P w K mg base rV k g a b (qj K n m)/\Binds K a b []/\PySem.W.keepIn K (.ref g)=true/\mg x=some (.ref g)
def uS (f:Ev->R (List D))(n:Nat):Prop:=∀ρ a,f ρ=.ok a->a.length=n
def B1:uS X1 0:=λρ a h=>by cases h;rfl
def l9 (h:uS g n):uS (t8 f g) (n+1):=λρ i e=>by
 unfold t8 at e;cases b:f ρ with
 |ok d=>
  rw[b,R.aa0]at e;cases a:g ρ with
  |ok c=>rw[a]at e;cases e;rw[aAu,h ρ c a]
  |ex x=>rw[a]at e;cases e
  |bad=>rw[a]at e;cases e
 |ex x=>rw[b]at e;cases e
 |bad=>rw[b]at e;cases e
section
def vN (c:v7 X.prog X.w X.K X.mg X.base k x n m)(a:Room k X.A)(d:xF X (e::es) f)(h:uS f n)(i:Gl X x:=by rfl)(j:(x==kb)=false:=by decide)(l:a5 (e::es) X.env=(false,dz e X.env)::a5 es X.env:=by rfl)(A8:(cv pos (a5 es X.env)).any (·.1)=false:=by rfl):
  PD X (.Call (.Name x p) (e::es) [] pos) (λρ=>(f ρ).bind m):=by
 obtain⟨g,q,r,F,b,o,em⟩:=c;exact WQ F a em o b d h i j l A8
end
def nk {P:bu}{w:cp}{K:ka}{mg:Y1}{base:cq}{x qual:Str}{st:dm}{f:bc}{fd:dC}{N ps:List Str}{k:Nat}{m:List D->R D}{F:Ev->R Out}(b:Fun K x qual st f fd)(S:FnScope N ps (c6 st))(c:Binds K fd ps [])(e:mg x=some (.ref f))
  (g:∀(T:af) (A:cf) (a:List Env) (s:a9) (H:Hp) (E:XK),Room k (A.deeper (envOfC qual (c6 st) s.heap.objs.size f T))->X4 (SF P w K mg base N qual (c6 st) f T A a s H E) (o6 st) F)
  (h:∀ds d,ds.length=ps.length->m ds=.ok d->M5 (F (j0 N ds))=.ok d):v7 P w K mg base (k+1) x ps.length m:=
 ⟨f,fd,ps,fnD b S g h,c,b.kp,e⟩
def u9:∀d ρ1,(R.ok ((j6 [x] a ρ).set 0 (Sl.v d)):R Ev)=.ok ρ1->EA ρ1 (j6 [x] a ρ):=λd ρ1 h=>by
 cases h;refine⟨by simp,λi c h b=>?_⟩;cases i with
 |zero=>exact absurd (by simpa[j6]using h.symm) b
 |succ i=>rw[aCy (by lia)];exact h
def BW (sc:ik)(N:List Str)(a:ik)(c:List Str)(b:List Nat):Bool:=
 decide (a.kind=.function)&&a.names.all (λy=>decide (y.2=.free->(y.1,aBZ)∉a.names))&&a.names.all (λy=>decide (y.2=.local->a.names.lookup y.1=some .local))&&
 a.names.all (λy=>decide (y.2=.free->sc.names.lookup y.1=some .cell\/sc.names.lookup y.1=some .free))&&decide (b.length=c.length)&&(b.zip c).all (λp=>decide (N[p.1]?=some p.2/\(p.2,NameKind.free)∈a.names))&&decide b.Nodup&&
 a.names.all (λy=>decide (y.2=.free->a.names.lookup y.1=some .free))
def P3 (b:X.env.scope=sc:=by rfl)(c:X.N=N:=by rfl)(h:BW sc N a d e=true:=by decide+kernel):CompSc X a own d e:=by simp only[BW,aAJ,aBU,decide_eq_true_eq]at h;obtain⟨⟨⟨⟨⟨⟨⟨f,g⟩,k⟩,l⟩,m⟩,n⟩,o⟩,p⟩:=h;subst b c;refine⟨f,g,k,l,m,λi j x q r=>?_,o,p⟩;refine n (j,x) (aAm (i:=i) ?_);rw[aBC];exact⟨q,r⟩
def UZ (h:BW X.env.scope X.N a b c=true:=by first|kernel_rfl|with_unfolding_all rfl):CompSc X a own b c:=P3 rfl rfl h
end DL
namespace DL.Att2
open PySem PySem.W PySem.Calls PyProof.Rows
def attach_bits {l:OpenLaw}{n:Nat}{q:bu}{b:List Str}{u:(Str->Option af)->cq->Prop}{v:cp->cq->Prop}{d:DefRec}
  (B:l.most=some n) (m:d.params.defaults=[])
  (call:∀(w:cp) (p c:a9) (mg s:Y1) (fa:bc) (o:Obj) (t cd g:af) (a:bc) (vs:List af) (ns:List Int),
   Ground q b [] u w p mg s c.heap->v w c.heap->
   c.heap.get? fa=some o->o.data=.func (docDef d.name d.params d.body d.scope t cd g)->c.heap.CodeRec cd d.name->mg d.name=some (.ref fa)->
   c.heap.get? a=some {cls:=.type "list",data:=.seq vs.toArray}->IntsAre vs ns->ns.length<=n->(∀x∈ns,aAW x<=1048576)->c.gens=#[]->
   f7 (bo l.prog w) callerA (.call (.ref fa) ⟨[.ref a],[]⟩) (λr s'=>r=.ok (.ret (.bool true))/\OldK c.heap s'.heap/\s'.os=c.os/\AllBare s'.gens) c):
  WalkO q b u v l.row.toRowW d [] (λf vs=>PySem.call f vs):=by
 intro w p c mg s G Y fa o t cd g C kV E H I y J L z A as i e N O Q;obtain rfl:C=.none:=Dflts.none y m;obtain rfl:kV=.none:=Dflts.noKw y;obtain⟨a,vs,ns,rfl,rfl,j,h,k⟩:=Att.script_of B i O;have T:=DL.AO (ns:=ns) (by first|exact e|exact e.1|(simpa using e));refine enter_call (aDt (call w p c mg s fa o t cd g a vs ns G Y E (fd_plain H) I J j h k T L) λr s' U=>?_);obtain⟨rfl,h2,h3,h4⟩:=U;exact⟨.inl ⟨.bool true,.bool true,[],rfl,λ_=>rfl,.bool true,Att.post_true l _,λ_=>⟨aGf,λ_ hm=>(nomatch hm)⟩⟩,h2,h3,h4⟩
end DL.Att2
namespace DL
open PySem PySem.Spec L2
open PyProof.Rows hiding St
variable [Tabs]
end DL
namespace DL
open PySem L2
abbrev bits (a:Int):Nat:=aAW a
def i7 (h:l8 a b):aM (.int a) (.int b)=.ok (.int (a*b)):=ji h
def lR (h:zV b):fF (.int a) (.int b)=.ok (.int (a.fdiv b)):=ji h
def pF (h:b≠0):rA (.int a) (.int b)=.ok (.int (a.fmod b)):=ji h
def jA (h:0<=b/\b<=1000000/\a.natAbs<2^64):yF (.int a) (.int b)=.ok (.int (a^b.toNat)):=ji h
def l8.of (c:bits a<=m)(d:bits b<=n)(e:m<=60000000:=by decide)(f:n<=60000000:=by decide):l8 a b:=⟨aAw c e,aAw d f⟩
def bits_add (c:bits a<=n)(d:bits b<=n):bits (a+b)<=n+1:=by have:=PyProof.Rows.bits_add c d;rw[Nat.max_self]at this;exact this
def bits_sub (c:bits a<=n)(d:bits b<=n):bits (a-b)<=n+1:=by have:=PyProof.Rows.bits_sub c d;rw[Nat.max_self]at this;exact this
def bits_mul (c:bits a<=m)(d:bits b<=n):bits (a*b)<=m+n:=PyProof.Rows.bits_mul c d
def bits_neg (b:bits a<=m):bits (-a)<=m:=PyProof.Rows.bits_neg b
def GE (h:a.natAbs<2^n):bits a<=n:=PyProof.Rows.intBits_le h
def EU (h:bits a<=n):a.natAbs<2^n:=PyProof.Rows.lt_pow_of_bits h (aAh n)
@[simp]def z8 (d:D)(ρ:Ev):dE 0 (Sl.v d::ρ)=.ok d:=rfl
@[simp]def C9 (i:Nat)(x:Sl)(ρ:Ev):dE (i+1) (x::ρ)=dE i ρ:=rfl
@[simp]def G8 (d:D)(ρ:Ev):zG 0 (Sl.v d::ρ)=.ok d:=rfl
@[simp]def oG (d:List D)(ρ:Ev):zG 0 (Sl.o d::ρ)=.ok (.lst d):=rfl
@[simp]def K0 (i:Nat)(x:Sl)(ρ:Ev):zG (i+1) (x::ρ)=zG i ρ:=rfl
@[simp]def C6 (d:D)(ρ:Ev):TM d ρ=.ok d:=rfl
@[simp]def C3 (ρ:Ev)(F:Ev->R Out):C0 (.ok (.nx ρ)) F=F ρ:=rfl
@[simp]def yk (d:D)(F:Ev->R Out):C0 (.ok (.rt d)) F=.ok (.rt d):=rfl
@[simp]def a0x (d:D):M5 (.ok (.rt d))=.ok d:=rfl
@[simp]def a1e (ρ:Ev):M5 (.ok (.nx ρ))=.ok .non:=rfl
@[simp]def l7 (f:Ev->R D)(g:Ev->R (List D))(ρ:Ev):t8 f g ρ=(f ρ).bind λd=>(g ρ).bind λds=>.ok (d::ds):=rfl
@[simp]def p5 (ρ:Ev):X1 ρ=.ok []:=rfl
@[simp]def a4e (a b:D):dH [a,b]=.ok (.tup [a,b]):=rfl
@[simp]def a3q (a b c:D):dH [a,b,c]=.ok (.tup [a,b,c]):=rfl
@[simp]def a3z (a b c d:D):dH [a,b,c,d]=.ok (.tup [a,b,c,d]):=rfl
@[simp]def a3t (a b c:D):DM [a,b,c]=.ok (.lst [a,b,c]):=rfl
@[simp]def a3m (x y z:D):W9 (.tup [x,y,z]) (.int 0)=.ok x:=rfl
@[simp]def a3s (x y z:D):W9 (.tup [x,y,z]) (.int 1)=.ok y:=rfl
@[simp]def a3w (x y z:D):W9 (.tup [x,y,z]) (.int 2)=.ok z:=rfl
@[simp]def a3n (x y z t:D):W9 (.tup [x,y,z,t]) (.int 0)=.ok x:=rfl
@[simp]def a4c (x y z t:D):W9 (.tup [x,y,z,t]) (.int 1)=.ok y:=rfl
@[simp]def a4h (x y z t:D):W9 (.tup [x,y,z,t]) (.int 2)=.ok z:=rfl
@[simp]def a4a (x y z t:D):W9 (.tup [x,y,z,t]) (.int 3)=.ok t:=rfl
@[simp]def a3x (x y:D):W9 (.tup [x,y]) (.int 0)=.ok x:=rfl
@[simp]def a3i (x y:D):W9 (.tup [x,y]) (.int 1)=.ok y:=rfl
def jD (h:qP Y i=some d):W9 (.lst Y) (.int i)=.ok d:=by simp only[W9,h]
def NW {Y:List D}{i:Int}{d:D}(h:qP Y i=some d):W9 (.tup Y) (.int i)=.ok d:=by simp only[W9,h]
@[simp]def a1g (a b:Int):kF (.int a) (.int b)=.ok (.int (a+b)):=rfl
@[simp]def wJ (a b:Int):DR (.int a) (.int b)=.ok (.int (a-b)):=rfl
@[simp]def a2x (a b:Int):ltR (.int a) (.int b)=.ok (.bl (decide (a<b))):=rfl
@[simp]def ED (a b:Int):zx (.int a) (.int b)=.ok (.bl (decide (a<=b))):=rfl
@[simp]def vT (a b:Int):gx (.int a) (.int b)=.ok (.bl (decide (b<a))):=rfl
@[simp]def a2v (a:Int):TQ (.int a)=.ok (.int (-a)):=rfl
@[simp]def FZ (b:Bool):lC (.bl b)=.ok b:=rfl
@[simp]def a4f (b:Int):toI (.int b)=.ok (some b):=rfl
@[simp]def uP (Y:List D):WO [.lst Y]=.ok (.int Y.length):=rfl
@[simp]def bz (a:Int):xx [.int a]=.ok (.int (if a<0 then-a else a)):=rfl
@[simp]def uI (f g:Ev->R Bool)(ρ:Ev):QS f g ρ=(f ρ).bind λb=>if b=true then g ρ else .ok false:=rfl
@[simp]def a2k (f g:Ev->R Bool)(ρ:Ev):orB f g ρ=(f ρ).bind λb=>if b=true then .ok true else g ρ:=rfl
@[simp]def a1b (f g:Ev->R D)(ρ:Ev):lw f g ρ=((f ρ).bind lC).bind λb=>if b=true then g ρ else .ok (.bl false):=rfl
@[simp]def a2e (a b:Int):GW (.int a) (.int b)=.ok (.bl (a==b)):=by simp only[GW,E9,u7];rfl
@[simp]def ZY (a b:Int):QE (.int a) (.int b)=.ok (.bl (!(a==b))):=by simp only[QE,E9,u7];rfl
@[simp]def iq (a b c d e f:Int):GW (.tup [.int a,.int b,.int c]) (.tup [.int d,.int e,.int f])=.ok (.bl (a==d&&(b==e&&c==f))):=by simp[GW,E9,A3,u7,Z9]
@[simp]def EG (a b c d e f:Int):QE (.tup [.int a,.int b,.int c]) (.tup [.int d,.int e,.int f])=.ok (.bl (!(a==d&&(b==e&&c==f)))):=by simp[QE,E9,A3,u7,Z9]
def cB {α:Type}{Y:List α}{k:Int}(h0:0<=k):qP Y k=Y[k.toNat]?:=by
 unfold qP XI;rw[ji h0];by_cases h:k<Y.length
 .rw[ji h];rfl
 .rw[jn h,aCq.mpr (by omega)];rfl
def kH (n:Nat)(Y:List D):Prop:=∀x∈Y,∃i,x=.int i/\bits i<=n
def UH {n:Nat}{ns:List Int}(h:∀x∈ns,bits x<=n):kH n (ns.map D.int):=λx a=>by obtain⟨i,b,rfl⟩:=aAo.mp a;exact⟨i,rfl,h i b⟩
def tK (g:Int->Int)(Y:List D)(k:Int):D:=match Y[k.toNat]? with
 |some d=>d
 |none=>.int (g k)
def JI (h:kH n Y)(g:Int->Int)(k:Int):∃i,tK g Y k=.int i/\(bits i<=n\/i=g k):=by
 unfold tK;cases e:Y[k.toNat]? with
 |none=>exact⟨_,rfl,.inr rfl⟩
 |some d=>obtain⟨i,rfl,a⟩:=h d (aAm e);exact⟨i,rfl,.inl a⟩
def aw:D->Bool
 |.int _=>true
 |_=>false
def Y0 (b:-((2:Int)^n)<a)(c:a<(2:Int)^n):bits a<=n:=GE (by
 have e:((2^n:Nat):Int)=(2:Int)^n:=by simp
 omega)
def bits_fmod {a b:Int}{n:Nat}(h0:b≠0)(c:bits b<=n):bits (a.fmod b)<=n:=PyProof.Rows.bits_fmod_by h0 c
def bits_fdiv (c:bits a<=n):bits (a.fdiv b)<=n:=PyProof.Rows.bits_fdiv c
def i6 (h:bits a<=m)(b:m<=n:=by decide):bits a<=n:=aAw h b
@[simp]def L8 (Y:List D):nF (.lst Y)=.ok Y:=rfl
@[simp]def HW (Y:List D):GR (.tup Y)=.ok Y:=rfl
@[simp]def ck (G:D->Ev->R Ev)(ft:Ev->R Bool)(fe:Ev->R D)(ρ:Ev):B0 G ft fe ρ []=.ok []:=rfl
@[simp]def cy (i:Nat)(ft:Ev->R Bool)(fe:Ev->R D)(ρ:Ev)(d:D)(ds:List D):B0 (λd ρ=>.ok (ρ.set i (Sl.v d))) ft fe ρ (d::ds)=(ft (ρ.set i (Sl.v d))).bind λb=>if b=true then(fe (ρ.set i (Sl.v d))).bind λr=>(B0 (λd ρ=>.ok (ρ.set i (Sl.v d))) ft fe ρ ds).bind λa=>.ok (r::a)else B0 (λd ρ=>.ok (ρ.set i (Sl.v d))) ft fe ρ ds:=rfl
@[simp]def a1h (d:D):seen (.v d)=.v d:=rfl
def GC (x:D)(r:List D):W9 (.tup (x::r)) (.int 0)=.ok x:=NW (by rw[cB (by decide)];rfl)
def GP (x y:D)(r:List D):W9 (.tup (x::y::r)) (.int 1)=.ok y:=NW (by rw[cB (by decide)];rfl)
def FU (x y z:D)(r:List D):W9 (.tup (x::y::z::r)) (.int 2)=.ok z:=NW (by rw[cB (by decide)];rfl)
theorem fW (Iv:Nat->Ev->Prop)(d:∀n ρ,Iv (n+1) ρ->c ρ=.ok false\/(c ρ=.ok true/\∃ρ2,F ρ=.ok (.nx ρ2)/\Iv n ρ2))(a:∀ρ,¬Iv 0 ρ):∀n ρ,Iv n ρ->∃m b,T0 c F n ρ=.ok (.nx b)/\Iv m b/\c b=.ok false
 |0,ρ,h=>absurd h (a ρ)
 |n+1,ρ,h=>by
  rcases d n ρ h with e|⟨e,ρ2,f,g⟩
  .exact⟨n+1,ρ,by rw[T0,e];rfl,h,e⟩
  .obtain⟨m,b,i,j,k⟩:=fW Iv d a n ρ2 g;exact⟨m,b,by rw[T0,e];simp only[R.aa0,if_true,f];exact i,j,k⟩
def rN {Iv:Nat->Ev->Prop}(f:∀n ρ,Iv (n+1) ρ->c ρ=.ok false\/(c ρ=.ok true/\∃ρ2,F ρ=.ok (.nx ρ2)/\Iv n ρ2))(h0:Iv n ρ)(g:∀n a,Iv n a->c a=.ok false->M5 (i a)=.ok d)(b:∀ρ,¬Iv 0 ρ:=by(intro ρ;rintro⟨x,y,_,z,_⟩;omega)):
  M5 (C0 (T0 c F n ρ) i)=.ok d:=by
 obtain⟨m,a,e,h,j⟩:=fW Iv f b n ρ h0;rw[e];exact g m a h j
end DL
namespace DL
open PySem PySem.Spec L2
open PyProof.Rows hiding St
section
variable [Tabs]
section
variable{K:ka}
def EnvOk.ae3 (E:EnvOk K d e H O σ ρ)(i:Nat)(h:H a=none)(c:K.lookup a=none)(r:Reps K H O vs Y):
  EnvOk K d e (upd H a (.lst vs)) (λb=>O b\/b=a) (σ.set i (some (.ref a))) (ρ.set i (.o Y)):=
 E.ae5 i h c trivial λf=>⟨a,vs,rfl,.inr rfl,f,j2,r.ab8 h c⟩
def EnvOk.disown (E:EnvOk K d f H O σ ρ)(e:ρ[i]?=some (.o Y)):∃c,EnvOk K d f H c σ (ρ.set i (.v (.lst Y)))/\(∀b,c b->O b):=by obtain⟨a,k,g,l,m,h,j⟩:=E.own i Y e;exact⟨λb=>O b/\b≠a,E.af0 e trivial g (λz=>z) ⟨.ref a,rfl,.lst (O5.of h) (λz=>z.2 rfl) (j.sub λ_ z=>z.1)⟩,λb z=>z.1⟩
def EnvOk.write (E:EnvOk K h j H O σ ρ)(e:ρ[i]?=some (.o Y))(b:σ[i]?=some (some (V.ref a)))(r:Reps K H O c k):
  EnvOk K h j (upd H a (.lst c)) O σ (ρ.set i (.o k))/\Kp H O (upd H a (.lst c)) O:=by
 obtain⟨d,p,l,f,m,g,q⟩:=E.own i Y e;have n:d=a:=by rw[l]at b;cases b;rfl
 subst n;exact E.ad9 e trivial b g trivial trivial λ_ _ _=>⟨d,c,rfl,f,m,j2,r.upd g trivial f⟩
end
section
def tF (X:Cx)(f:Ev->R (List D)):TE:=λσ H Q=>∃g h O ρ,EnvOk X.K g h H O σ ρ/\match f ρ with
 |.ok i=>∀c b a,Same H b->b a=none->Reps X.K b O c i->Q (.ref a) (upd b a<|.lst c)
 |.ex e=>∀d,Same H d->XW X e d
 |.bad=>False
def PF (X:Cx)(e:cu)(f:Ev->R (List D)):Prop:=PE X e (tF X f)
def QC (I:Inv X b σ H s)(h:H a=some o):X.K.lookup a=none:=by
 cases e:X.K.lookup a with
 |none=>rfl
 |some c=>have:=(I.bs a c<|I.ok.mod.kin a c e).2;rw[h]at this;cases this
def PF.pd (h:PF X e f):PD X e (λρ=>(f ρ).bind λds=>.ok (.lst ds)):=KM h λσ H Q g i O ρ E q=>⟨g,i,O,ρ,E,by
 dsimp only at q;cases b:f ρ with
 |ok ds=>rw[b]at q;intro j k a d c r;exact q _ _ (d.trans<|j3 c _) (.lst (O5.of j2) ((E.grow d).fresh c) (r.same<|j3 c _))
 |ex x=>rw[b]at q;exact q
 |bad=>rw[b]at q;exact q⟩
def lL (h:xF X es f):PF X (.List es pos) (λρ=>(f ρ).bind λds=>if ds.length<=sizeLine then .ok ds else .bad):=
 KM (RK h) λσ H Q d e O ρ E q=>⟨d,e,O,ρ,E,by
  dsimp only at q;cases a:f ρ with
  |ok ds=>
   rw[a,R.aa0]at q;intro g i j c;by_cases b:ds.length<=sizeLine
   .rw[ji b]at q;exact⟨by rw[c.length];exact b,λp k=>q g i p j k c⟩
   .rw[jn b]at q;exact aAi q
  |ex x=>rw[a]at q;exact q
  |bad=>rw[a]at q;exact q⟩
def bW (i:Nat)(C:PF X e f)(J:X.N.Nodup)(L:X.N[i]?=some x:=by rfl)(Q:Loc X.env.scope x:=by first|exact aCG rfl|exact aBL rfl)(T:et e (some (.Name x h)) pos.line X.env=pure false:=by rfl)(U:X.fn x=true\/X.env.scope.names.lookup x=some .local:=by first|exact .inl rfl|exact .inr rfl|assumption):
  mU X (.Assign [.Name x h] e pos) (λρ=>(f ρ).bind λds=>.ok (.nx (ρ.set i (.o ds)))):=by
 rintro t u j s σ H D I ⟨O,ρ,E,fk,q⟩;dsimp only at q;refine aFh (C4 (C j s σ H (λv w=>∃g d a ds,v=.ref a/\w=upd d a (.lst g)/\Same H d/\d a=none/\Reps X.K d O g ds/\RS X t u H O (.ok (.nx (ρ.set i<|.o ds))) D) I ⟨t,u,O,ρ,E,?_⟩) λv A Y=>?_) T
 .cases k:f ρ with
  |ok ds=>rw[k,R.aa0]at q;exactλg d a A l r=>⟨g,d,a,ds,rfl,rfl,A,l,r,q⟩
  |ex x=>rw[k]at q;exactλH' s=>q H' (E.same.trans s)
  |bad=>rw[k]at q;exact q
 .obtain⟨y,w,m,r2,g,d,a,ds,k,e2,c,l,r,q'⟩:=Y;subst k e2;refine F1 m J L Q r2 (λs3 I3=>⟨_,_,I3,?_⟩) U;have hk:=QC m (j2 (H:=d) (a:=a) (o:=.lst g));have B:=(E.grow c).ae3 i l hk r;refine q' _ _ _ B (qZ m _ B.trk) ?_;exactλb o p n=>⟨by rw[k7 (t5 (c b o p) l)];exact c b o p,λz=>z.elim n (t5 (c b o p) l)⟩
def VD (i:Nat)(ρ:Ev):Ev:=match ρ[i]? with
 |some (.o Y)=>ρ.set i (.v (.lst Y))
 |_=>ρ
def wL (i:Nat){st:dm}(h:mU X st F):mU X st (λρ=>F (VD i ρ)):=by
 intro g j f s σ H D I ⟨O,ρ,E,k,q⟩;dsimp only at q;unfold VD at q;cases e:ρ[i]? with
 |none=>rw[e]at q;exact h g j f s σ H D I ⟨O,ρ,E,k,q⟩
 |some l=>
  rw[e]at q;cases l with
  |x C=>exact h g j f s σ H D I ⟨O,ρ,E,k,q⟩
  |c m φ=>exact h g j f s σ H D I ⟨O,ρ,E,k,q⟩
  |d N=>exact h g j f s σ H D I ⟨O,ρ,E,k,q⟩
  |no=>exact h g j f s σ H D I ⟨O,ρ,E,k,q⟩
  |v d=>exact h g j f s σ H D I ⟨O,ρ,E,k,q⟩
  |o Y=>obtain⟨p,r,sub⟩:=E.disown e;exact h g j f s σ H D I ⟨p,_,r,λa o t z=>k a o t (sub a z),RS.grow q λb o u n=>⟨u,λz=>n (sub b z)⟩⟩
def vS (i:Nat)(ρ:Ev)(d:D):R Out:=match ρ[i]? with
 |some (.o Y)=>if Y.length<sizeLine then .ok (.nx (ρ.set i<|.o (Y++[d])))else .bad
 |_=>.bad
def L4 (i:Nat)(y:PD X e f)(z:X.N[i]?=some x:=by rfl)(A:xH X.env.scope x:=by first|exact aCG rfl|exact aBL (aCG rfl)|exact aBL (aBL rfl))(B:(x==kb)=false:=by decide)(I:(x==kc)=false:=by decide)(J:hV (.Name x p) "append" X.env (dz (.Name x p) X.env)=dz (.Name x p) X.env:=by rfl)(L:((cv g (a5 [e] X.env)).all (λx=>!x.1)&&(backToKw g (keywordEach [] X.env)).all (λx=>x.1.isSome)
   &&decide ([e].length+([]:List Keyword).length+(if([]:List Keyword).isEmpty then 0 else 1)<30))=true:=by rfl) (Q:(b.endLine==g.line)=true:=by rfl) (n:a5 [e] X.env=(false,dz e X.env)::a5 [] X.env:=by rfl) (T:(cv g (a5 [] X.env)).any (·.1)=false:=by rfl) (U:et (.Call (.Attribute (.Name x p) "append" b) [e] [] g) none pos.line X.env=pure false:=by rfl):
  mU X (.Expr (.Call (.Attribute (.Name x p) "append" b) [e] [] g) pos) (λρ=>(f ρ).bind (vS i ρ)):=λHa O0=>
 CF (nC (YG PySem.F.plainAttrs_list PySem.F.slot_list_append PySem.F.type_list_append tE (S1 z A B I) (d5 y j4 n) J L Q n T) U) λD σ H O ρ E fk q=>by
 cases j:f ρ with
 |ok d=>
  rw[j,R.aa0]at q;unfold vS at q;cases h:ρ[i]? with
  |none=>rw[h]at q;exact aAi q
  |some r=>
   rw[h]at q;cases r with
   |x C=>exact aAi q
   |c m φ=>exact aAi q
   |d N=>exact aAi q
   |no=>exact aAi q
   |v d=>exact aAi q
   |o Y=>
    dsimp only at q;split at q
    .rename_i hz;obtain⟨a,s,t,h2,h3,u,w⟩:=E.own i Y h;refine⟨_,t,.inl ⟨rfl,s,O5.of u⟩,Ha,O0,O,ρ,E,?_⟩;show JZ X H O ((f ρ).bind λd=>(R.ok []).bind λds=>.ok (d::ds)) _;rw[j];intro us H1 k l;cases l with
     |cons l rn=>cases rn;have E1:=E.grow k;refine⟨a,s,_,rfl,rfl,k _ _ u,by rw[w.length];exact hz,?_⟩;obtain⟨E2,k2⟩:=E1.write h t ((w.same k).snoc l);exact q σ _ O E2 fk ((Kp.of k).trans k2)
    .exact aAi q
 |ex x=>
  rw[j]at q;cases h:ρ[i]? with
  |none=>exact(q H E.same).elim
  |some r=>exact(q H E.same).elim
 |bad=>rw[j]at q;exact aAi q
def ZO (i:Nat)(ρ:Ev)(d:D):R Out:=match ρ[i]?,d with
 |some (.o Y),.lst a=>if Y.length+a.length<=sizeLine then .ok (.nx (ρ.set i<|.o (Y++a)))else .bad
 |_,_=>.bad
def AZ (i:Nat)(ρ:Ev):R (D×Ev):=match ρ[i]? with
 |some (.o Y)=>match Y[Y.length-1]? with
  |some d=>.ok (d,ρ.set i (.o Y.dropLast))
  |none=>.bad
 |_=>.bad
def SO (i:Nat)(n:X.N[i]?=some x:=by rfl)(r:xH X.env.scope x:=by first|exact aCG rfl|exact aBL (aCG rfl)|exact aBL (aBL rfl))(s:(x==kb)=false:=by decide)(t:(x==kc)=false:=by decide)(u:hV (.Name x p) "pop" X.env (dz (.Name x p) X.env)=dz (.Name x p) X.env:=by rfl)(w:(b.endLine==h.line)=true:=by rfl)(y:et (.Call (.Attribute (.Name x p) "pop" b) [] [] h) none pos.line X.env=pure false:=by rfl):
  mU X (.Expr (.Call (.Attribute (.Name x p) "pop" b) [] [] h) pos) (λρ=>(AZ i ρ).bind λz=>.ok (.nx z.2)):=λQ T=>
 CF (nC (NH PySem.F.plainAttrs_list PySem.F.slot_list_pop PySem.F.type_list_pop PY (S1 n r s t) u w) y) λD σ H O ρ E A q=>by
 unfold AZ at q;cases e:ρ[i]? with
 |none=>rw[e]at q;exact aAi q
 |some B=>
  rw[e]at q;cases B with
  |x C=>exact aAi q
  |c m φ=>exact aAi q
  |d N=>exact aAi q
  |no=>exact aAi q
  |v d=>exact aAi q
  |o Y=>
   dsimp only at q;cases f:Y[Y.length-1]? with
   |none=>rw[f]at q;exact aAi q
   |some d=>rw[f]at q;obtain⟨a,j,k,U,h3,l,g⟩:=E.own i Y e;obtain⟨v,I,g2⟩:=g.get f;refine⟨_,k,.inl ⟨rfl,j,O5.of l⟩,a,j,v,rfl,rfl,l,by rw[g.length];exact I,?_⟩;obtain⟨J,L⟩:=E.write e k g.dropLast;exact q σ _ O J A L
def CI (j i:Nat)(f:X.N.Nodup)(ko:i≠j:=by decide)(w:X.N[i]?=some x:=by rfl)(A:X.N[j]?=some y:=by rfl)(B:xH X.env.scope x:=by first|exact aCG rfl|exact aBL (aCG rfl)|exact aBL (aBL rfl))(I:(x==kb)=false:=by decide)(J:(x==kc)=false:=by decide)(L:hV (.Name x p) "pop" X.env (dz (.Name x p) X.env)=dz (.Name x p) X.env:=by rfl)(Q:(b.endLine==l.line)=true:=by rfl)(g:Loc X.env.scope y:=by first|exact aCG rfl|exact aBL rfl)(T:et (.Call (.Attribute (.Name x p) "pop" b) [] [] l) (some (.Name y U)) pos.line X.env=pure false:=by rfl)(hf:X.fn y=true\/X.env.scope.names.lookup y=some .local:=by first|exact .inl rfl|exact .inr rfl|assumption):
  mU X (.Assign [.Name y U] (.Call (.Attribute (.Name x p) "pop" b) [] [] l) pos) (λρ=>(AZ i ρ).bind λz=>.ok (.nx (z.2.set j (.v z.1)))):=λHa O0=>
 CF (OL f A g (NH PySem.F.plainAttrs_list PySem.F.slot_list_pop PySem.F.type_list_pop PY (S1 w B I J) L Q) T hf) λD σ H O ρ E n q=>by
 unfold AZ at q;cases e:ρ[i]? with
 |none=>rw[e]at q;exact aAi q
 |some sl=>
  rw[e]at q;cases sl with
  |x C=>exact aAi q
  |c m φ=>exact aAi q
  |d N=>exact aAi q
  |no=>exact aAi q
  |v d=>exact aAi q
  |o Y=>
   dsimp only at q;cases h:Y[Y.length-1]? with
   |none=>rw[h]at q;exact aAi q
   |some d=>rw[h]at q;obtain⟨a,r,s,h2,h3,t,k⟩:=E.own i Y e;obtain⟨v,g1,g2⟩:=k.get h;refine⟨_,s,.inl ⟨rfl,r,O5.of t⟩,a,r,v,rfl,rfl,t,by rw[k.length];exact g1,?_⟩;obtain⟨E2,u⟩:=E.write e s k.dropLast;exact q _ _ O (E2.set j<|u.rep E.trk n g2) n u
def IE (i:Nat)(own fr:List Str)(U:List Nat)(hN:X.N.Nodup)(hc:X.calm=true)(S:CompSc X f own fr U)(hi:gk X tg B7 fi)(hX:∀(g:N9) (fp:List bc) (X':Cx),(∃sa Hb C,X'=JJ X g sa Hb (own++fr) f (cS X f C) C fp)->MD X' tg G/\YA X' l ft/\PD X' t fe)(hG:∀ρ d ρ1,G d (j6 own U ρ)=.ok ρ1->EA ρ1 (j6 own U ρ))(hy:X.N[i]?=some y:=by rfl)(Y:X.env.scope.names.lookup y=some .local:=by rfl)(yd:et (.ListComp t [⟨tg,B7,l,0⟩] f pos) (some (.Name y py)) spos.line X.env=pure true:=by rfl)(hs:∀x,f6 B7 X.env x=pure x:=by intro _;rfl):
  mU X (.Assign [.Name y py] (.ListComp t [⟨tg,B7,l,0⟩] f pos) spos) (λρ=>((fi ρ).bind λds=>if ds.length<=sizeLine then(B0 G ft fe (j6 own U ρ) ds).bind λh=>R.ok h else .bad).bind λh=>.ok (.nx (ρ.set i (.o h)))):=by
 rintro Ha O0 g s σ H D I ⟨O,ρ,E,fk,q⟩;dsimp only at q;rw[exec_Assign_Name_used _ _ _ _ yd];refine aAa (aDP<|aAa ?_);show bb _ X.A (do let _<-comprehension (.ListComp t [⟨tg,B7,l,0⟩] f pos) f X.env _ (newList []) false (dz B7 X.env) (some<|il (.Name y py) X.env)) _ _ s;refine aAa (aBP (wpAny_comprehension_free (use:=some (il (.Name y py) X.env)) (Q:=λ_ u=>SP X g D .next u) rfl hs (fK<|Inv.ab7 I S) S.kind S.names ?_) (λ_ u hq=>aAb (aAb hq)) λ_ _ e=>e);refine C4 (hi g s σ H (λJ H1=>∃ds h,Same H H1/\lq X.K J H1 O ds/\ds.length<=sizeLine/\B0 G ft fe (j6 own U ρ) ds=.ok h/\RS X Ha O0 H O (.ok (.nx (ρ.set i<|.o h))) D) I ⟨Ha,O0,O,ρ,E,qZ I O E.trk,?_⟩) λv s1 h1=>C4 h1 λitv s2 h2=>?_
 .cases e1:fi ρ with
  |ex x=>rw[e1]at q;exactλH' s=>q H' (E.same.trans s)
  |bad=>rw[e1]at q;exact q
  |ok ds=>
   rw[e1,R.aa0]at q;intro J H1 s1 hJ;split at q
   .rename_i hl;cases e2:B0 G ft fe (j6 own U ρ) ds with
    |ex x=>rw[e2]at q;exact(q H E.same).elim
    |bad=>rw[e2]at q;exact q.elim
    |ok h=>rw[e2]at q;exact⟨ds,h,s1,hJ,hl,e2,q⟩
   .exact q.elim
 .obtain⟨it,fp,tn,J,H2,e,I2,T,og,f2,ds,h,sm,hJ,hl,hrs,q⟩:=h2;subst e;refine yB (RR:=λB C=>compPost (bo X.prog X.w) X.A X.xe (some<|il (.Name y py) X.env) (λ_ u=>SP X g D .next u) B C) hc S (hX g fp) (hG ρ) I2 T og f2 (E.grow sm) hJ hrs hl ?_;intro B C u H' m hn hCa j has sm' r nw hC hI;have I3:=hI u.heap (aGk ..);show bb _ X.A (il (.Name y py) X.env<|.ref B) _ _ u;refine wpAny_assign_Name (sF (i:=i) (v:=.ref B) I3 hN hy (.inl Y) rfl (λs4 I4 z9=>?_)<|.inr Y);obtain⟨a,hsb,ha⟩:=z9;have jm:∀x c,X.env.cells.lookup x=some c->c≠C:=λx c hc=>by obtain⟨v,hv⟩:=I2.cell x c hc;exact aAk (aAs hv.lt j)
  have hCL:C≠X.env.locals:=aDs (aAs I2.lt j);have hCa2:C≠a:=by
   rcases ha with ha|ha
   .rw[ha];exact hCL
   .exact aCi (jm y a ha)
  refine⟨m,hn.sameBut hsb hCa2,λh' kn=>?_⟩;obtain⟨H1,vs,k,L,eH,rr⟩:=nw;subst eH;have E2:=((E.grow sm).grow k).ae3 i L (QC I3<|j2 (H:=H1) (a:=B) (o:=.lst vs)) rr;refine⟨_,_,?_,q _ _ _ E2 (qZ I3 _ E2.trk) λb o hb n=>⟨by rw[k7 (t5 ((sm.trans k) b o hb) L)];exact(sm.trans k) b o hb,λz=>z.elim n (t5 ((sm.trans k) b o hb) L)⟩⟩;exact I4.turned (t':=s4.toks) (it:=C) (λb o hb e=>(kn.2 b hb).trans e) hC hCL (.inr (aAw I2.sz j)) jm λp hp=>aAk (aAs (aAf (I2.pin p hp).1) j)
def RT (i:Nat)(own r:List Str)(f:List Nat)(hN:X.N.Nodup)(hc:X.calm=true)(S:CompSc X c own r f)(s:gk X t B7 J)(hX:∀(g:N9) (fp:List bc) (m:Cx),(∃sa Hb C,m=JJ X g sa Hb (own++r) c (cS X c C) C fp)->MD m t G/\YA m h ft/\PD m j fe)(hG:∀ρ d ρ1,G d (j6 own f ρ)=.ok ρ1->EA ρ1 (j6 own f ρ))(hy:X.N[i]?=some y:=by rfl)(u:X.env.scope.names.lookup y=some .local:=by rfl)(yd:et (.ListComp j [⟨t,B7,h,0⟩] c pos) (some (.Name y py)) l.line X.env=pure true:=by rfl)(hs:∀x,f6 B7 X.env x=pure x:=by intro _;rfl):
  mU X (.Assign [.Name y py] (.ListComp j [⟨t,B7,h,0⟩] c pos) l) (λρ=>((J ρ).bind λds=>if ds.length<=sizeLine then(B0 G ft fe (j6 own f ρ) ds).bind λp=>.ok (D.lst p)else .bad).bind λd=>.ok (.nx (ρ.set i (.v d)))):=λL Q=>CF (IE i own r f hN hc S s hX hG hy u yd hs L Q) λD σ H O ρ E fk q=>⟨O,ρ,E,fk,by
 dsimp only at q⊢;cases w:J ρ with
 |ex x=>rw[w]at q;exact q
 |bad=>rw[w]at q;exact q
 |ok ds=>
  rw[w,R.aa0]at q;rw[R.aa0];by_cases T:ds.length<=sizeLine
  .rw[ji T]at q⊢;cases A:B0 G ft fe (j6 own f ρ) ds with
   |ex x=>rw[A]at q;exact q
   |bad=>rw[A]at q;exact q
   |ok p=>
    rw[A]at q;intro U H' O' B f' I;by_cases s:i<ρ.length
    .obtain⟨O2,E2,sub⟩:=B.disown (i:=i) (Y:=p) (by rw[aBj s]);rw[List.set_set]at E2;exact q U H' O2 E2 (λa o k z=>f' a o k (sub a z)) λb o hb n=>⟨(I b o hb n).1,λz=>(I b o hb n).2 (sub b z)⟩
    .have e:∀x,ρ.set i x=ρ:=λx=>List.set_eq_of_length_le (by lia);have q:RS X L Q H O (.ok (.nx (ρ.set i<|.v (.lst p)))) D:=q;rw[e]at B q;exact q U H' O' B f' I
  .rw[jn T]at q;exact aAi q⟩
def lB {st:dm}:mU X st (λ_=>.bad):=λa b=>CF LR λD σ H O ρ E c q=>q
end
end
section
theorem aY {α β:Type}[BEq α][LawfulBEq α]:∀{l:List (α×β)} {a:α} {b:β},(l.map (·.1)).Nodup->(a,b)∈l->l.lookup a=some b
 |(x,y)::l,a,b,h,d=>by
  rw[aAt,aAR]at h;rw[aBc];rcases aAd.mp d with e|c
  .cases e;simp
  .have:(a==x)=false:=by rw[beq_eq_false_iff_ne];rintro rfl;exact h.1 (aAo.mpr ⟨(a,b),c,rfl⟩)
   rw[this];exact aY h.2 c
theorem mem_lookup {α β:Type}[BEq α][LawfulBEq α]:∀{l:List (α×β)} {a:α} {b:β},l.lookup a=some b->(a,b)∈l
 |(x,y)::l,a,b,h=>by
  rw[aBc]at h;split at h
  .rename_i q;cases h;rw[eq_of_beq q];exact .head _
  .exact .tail _ (mem_lookup h)
def vW (o:Obj):Prop:=∃v,o.data=.cell v
def dF (H:Hp)(cs:N9):Hp:=λb=>match cs.lookup b with
 |some o=>some (.frz o (.own b))
 |none=>H b
def Q9 (H:Hp)(cs:N9):Hp:=λb=>match cs.lookup b with
 |some _=>none
 |none=>H b
section
variable{K:ka}
def eF (e:cs.lookup b=some o):dF H cs b=some (.frz o (.own b)):=by unfold dF;rw[e]
def R7 (e:cs.lookup b=none):dF H cs b=H b:=by unfold dF;rw[e]
def bS (e:cs.lookup b=some o):Q9 H cs b=none:=by unfold Q9;rw[e]
def N6 (e:cs.lookup b=none):Q9 H cs b=H b:=by unfold Q9;rw[e]
def F5 (a:∀b o,cs.lookup b=some o->H b=none)(e:H b=some u):dF H cs b=some u:=by
 cases q:cs.lookup b with
 |none=>rw[R7 q];exact e
 |some o=>rw[a b o q]at e;cases e
def eG (a:∀b o,cs.lookup b=some o->H b=none):Same H (dF H cs):=λb u e=>F5 a e
def w5 (a:∀b o,cs.lookup b=some o->H b=some (.frz o (.own b)))(e:H b=some u)(ne:∀o,cs.lookup b=some o->u≠.frz o (.own b)):Q9 H cs b=some u:=by
 cases q:cs.lookup b with
 |none=>rw[N6 q];exact e
 |some o=>rw[a b o q]at e;cases e;exact absurd rfl (ne o q)
def OR (x:aD P w H h)(a:∀b o,cs.lookup b=some o->h.get? b=some o/\H b=none):aD P w (dF H cs) h:=λb u e=>by
 have d:∀b o,cs.lookup b=some o->H b=none:=λb o q=>(a b o q).2;cases q:cs.lookup b with
 |some o=>rw[eF q]at e;cases e;exact⟨(a b o q).1,⟨o,(a b o q).1⟩⟩
 |none=>rw[R7 q]at e;exact(x b u e).ab4 (λ_ _ _ z=>z) (λc z=>F5 d z) λc u _ z=>F5 d z
def NC (x:aD P w H h)(d:∀b o,cs.lookup b=some o->H b=some (.frz o (.own b))/\vW o):aD P w (Q9 H cs) h:=λb u e=>by
 have g:∀b o,cs.lookup b=some o->H b=some (.frz o (.own b)):=λb o q=>(d b o q).1;cases q:cs.lookup b with
 |some o=>rw[bS q]at e;cases e
 |none=>rw[N6 q]at e;refine(x b u e).ab4 (λ_ _ _ z=>z) (λc z=>w5 g z λo _ a=>by cases a) λc u f z=>w5 g z λo q a=>?_;subst a;obtain⟨k,j⟩:=f;obtain⟨v,i⟩:=(d c o q).2;rw[j]at i;cases i
def YU (U:Un fs [] (dF H cs) f h h')(k:aD P w f h')(g:∀b o,cs.lookup b=some o->h.get? b=some o/\H b=none/\vW o):Un fs [] H (Q9 f cs) h h'/\aD P w (Q9 f cs) h'/\∀b o,cs.lookup b=some o->f b=some (.frz o (.own b)):=by
 have i:∀b o,cs.lookup b=some o->H b=none:=λb o q=>(g b o q).2.1;have a:∀b o,cs.lookup b=some o->f b=some (.frz o (.own b)):=λb o q=>U.frzs b o _ (eF q);refine⟨⟨λb o e n j c=>?_,λb o e n j c=>?_,λb o e n c=>?_,λb o e c=>U.there b o e c,λb Y e=>?_,λb o u e=>?_,λb l e=>?_⟩,NC k λb o q=>⟨a b o q,(g b o q).2.2⟩,a⟩
 .cases q:cs.lookup b with
  |none=>exact U.keep b o e (by rw[R7 q];exact n) j c
  |some d=>have:=(g b d q).1;rw[e]at this;cases this;exact(k b _<|a b o q).1
 .cases q:cs.lookup b with
  |none=>exact U.slot b o e (by rw[R7 q];exact n) j c
  |some d=>have:=(g b d q).1;rw[e]at this;cases this;exact⟨o.slots,(k b _<|a b o q).1⟩
 .cases q:cs.lookup b with
  |none=>rw[N6 q];exact U.free b o e (by rw[R7 q];exact n) c
  |some d=>exact bS q
 .exact w5 a (U.tups b Y<|F5 i e) λo _ z=>by cases z
 .refine w5 a (U.frzs b o u<|F5 i e) λd q z=>?_;rw[i b d q]at e;cases e
 .exact w5 a (U.tbls b l<|F5 i e) λo _ z=>by cases z
def az (U:Un fs [] (Q9 H cs) d h h')(k:aD P w d h')(g:∀b o,cs.lookup b=some o->h.get? b=some o/\H b=some (.frz o (.own b))/\b∉fs):Un fs [] H (dF d cs) h h'/\aD P w (dF d cs) h'/\Same d (dF d cs):=by
 have i:∀b o,cs.lookup b=some o->H b=some (.frz o (.own b)):=λb o q=>(g b o q).2.1;have f:∀b o,cs.lookup b=some o->d b=none:=λb o q=>U.free b o (g b o q).1 (bS q) (by simp);have l:∀b o,cs.lookup b=some o->h'.get? b=some o:=λb o q=>U.keep b o (g b o q).1 (bS q) (g b o q).2.2 (by simp);have a:∀b,H b=none->cs.lookup b=none:=λb n=>by
  cases q:cs.lookup b with
  |none=>rfl
  |some o=>rw[i b o q]at n;cases n
 refine⟨⟨λb o e n j c=>U.keep b o e (by rw[N6 (a b n)];exact n) j c,λb o e n j c=>U.slot b o e (by rw[N6 (a b n)];exact n) j c,λb o e n c=>?_,λb o e c=>U.there b o e c,λb Y e=>?_,λb o u e=>?_,λb m e=>?_⟩,
  OR k λb o q=>⟨l b o q,f b o q⟩,eG f⟩
 .rw[R7 (a b n)];exact U.free b o e (by rw[N6 (a b n)];exact n) c
 .exact F5 f (U.tups b Y (w5 i e λo _ z=>by cases z))
 .cases q:cs.lookup b with
  |none=>exact F5 f (U.frzs b o u (by rw[N6 q];exact e))
  |some p=>rw[i b p q]at e;cases e;exact eF q
 .exact F5 f (U.tbls b m (w5 i e λo _ z=>by cases z))
def FT (c:∀b o,cs.lookup b=some o->H b=some (.frz o (.own b)))(q:X0 K H a Y):X0 K (Q9 H cs) a Y:=by
 rcases q with(q|⟨o,q⟩)|q
 .exact .inl (.inl (w5 c q λo _ z=>by cases z))
 .exact .inl (.inr ⟨o,w5 c q λo _ z=>by cases z⟩)
 .exact .inr q
def HC (c:∀b o,cs.lookup b=some o->H b=some (.frz o (.own b)))(q:O5 K H a Y):O5 K (Q9 H cs) a Y:=by
 rcases q with(q|⟨o,q⟩)|q
 .exact .inl (.inl (w5 c q λo _ z=>by cases z))
 .exact .inl (.inr ⟨o,w5 c q λo _ z=>by cases z⟩)
 .exact .inr q
def GZ {cs:N9}{φ:cq->Prop}(a:∀b o,cs.lookup b=some o->H b=some (.frz o (.own b)))(q:H b=some (.ext φ)):Q9 H cs b=some (.ext φ):=by
 unfold Q9;cases e:cs.lookup b with
 |none=>simpa[e]using q
 |some o=>have:=a b o e;rw[q]at this;cases this
def Rep.hid (a:∀b o,cs.lookup b=some o->H b=some (.frz o (.own b)))(r:Rep K H O v d):Rep K (Q9 H cs) O v d:=r.mono (λ_ _ q=>FT a q) (λ_ _ n q=>⟨n,HC a q⟩) λb φ n q=>⟨n,GZ a q⟩
def Reps.hid (a:∀b o,cs.lookup b=some o->H b=some (.frz o (.own b)))(r:Reps K H O v d):Reps K (Q9 H cs) O v d:=r.mono (λ_ _ q=>FT a q) (λ_ _ n q=>⟨n,HC a q⟩) λb φ n q=>⟨n,GZ a q⟩
end
variable [Tabs]
section
variable(P:bu) (w:cp) (K:ka) (mg:Y1) (base:cq) (k:Nat)
def KG (n:Nat)(m:List D->R D)(H:Hp)(O:bc->Prop)(a:bc):Prop:=
 (∃h i j l,H a=some (.frz ⟨h,i,.func j,l⟩ (.own a)))/\
 ∀(A:cf) (b:List Env) (s:a9) (f:List af) (g:List V) (c:List D) (d:D) (Q:VK) (E:XK),Room k A->Env0 P w K mg base A b s H->n4 g f->Reps K H O g c->c.length=n->(∀a,O a->∃o,H a=some o/\Mt o)->Tb H->R5 K O->m c=.ok d->
  (∀v e,Same H e->Rep K e O v d->Q v e)->f7 (bo P w) A (.call (.ref a) ⟨f,[]⟩) (CR rV b P w H s Q E) s
end
open Classical in
def callC (Φ:(List D->R D)->Hp->(bc->Prop)->bc->Prop) (i:Nat) (f:Ev->R (List D)):Ev->R D:=λρ=>match ρ[i]? with
 |some (.c m φ)=>if φ=Φ m then(f ρ).bind m else .bad
 |_=>.bad
section
def RH (i:Nat)(ha:xF X (e::es) f)(hl:uS f n)(hr:Room k X.A)(hN:X.N[i]?=some x:=by rfl)(hv:xH X.env.scope x:=by first|exact aCG rfl|exact aBL (aCG rfl)|exact aBL (aBL rfl))(hd:(x==kb)=false:=by decide)(gr:(x==kc)=false:=by decide)(he:a5 (e::es) X.env=(false,dz e X.env)::a5 es X.env:=by rfl)(A8:(cv pos (a5 es X.env)).any (·.1)=false:=by rfl):
  PD X (.Call (.Name x p) (e::es) [] pos) (callC (KG X.prog X.w X.K X.mg X.base k n) i f):=by
 refine rR λb s σ H Q I Ha O0 O ρ E q=>?_;unfold callC at q;cases t:ρ[i]? with
 |none=>rw[t]at q;exact q.elim
 |some j=>
  rw[t]at q;cases j with
  |c m φ=>
   dsimp only at q;split at q
   .rename_i y;subst y;obtain⟨a,h1,L⟩:=E.slot i _ t;obtain⟨⟨T,U,Y,j,hf⟩,_⟩:=L H O (Kp.refl _ _);refine aAK (C4 (S1 hN hv hd gr b s σ H (λv H'=>v=.ref a/\H'=H) I ⟨_,h1,rfl,rfl⟩) λu s1 z9=>?_);obtain⟨v,H1,I1,r1,ev,eH⟩:=z9;subst ev eH;obtain rfl:u=aCV a:=r1;refine PySem.W.callWith_F ⟨T,U,Y,j,(I1.hok a _ hf).1⟩ (C4 (ha pos b s1 σ H1 _ I1 ⟨Ha,O0,O,ρ,E,JZ.seq q⟩) λus s2 ⟨vs,H2,l,rv,B,e2,C,rr,g⟩=>⟨⟨T,U,Y,j,(l.hok a _<|C _ _ hf).1⟩,?_⟩) he A8;cases o:m B with
    |ex z=>rw[o]at g;exact(g H2<|Same.refl _).elim
    |bad=>rw[o]at g;exact g.elim
    |ok d=>
     rw[o]at g;have J:=E.grow C;refine aFH (aDt ((L H2 O<|Kp.of C).2 X.A X.stack s2 us vs B d Q (λ_ _ _=>False) hr l.ae8 rv rr (hl ρ B e2) J.trk J.tab (qZ l O J.trk) o g) λr s' h=>?_);cases r with
     |error e=>exact h.elim
     |ok fl=>
      cases fl with
      |ret u=>exact l.after h
      |next=>exact aAi h
      |brk=>exact aAi h
      |cont=>exact aAi h
   .exact q.elim
  |_=>exact q.elim
end
def spF (K:ka)(Φ:(List D->R D)->Hp->(bc->Prop)->bc->Prop)(M:D->(List D->R D)->(List D->R D)->R D):Sp:=λk H Q _=>∃O v1 f g h i j d,k=[v1,.ref g,.ref i]/\Rep K H O v1 f/\(∀b c,Kp H O b c->Φ h b c g)/\(∀b c,Kp H O b c->Φ j b c i)/\
 (∀a,O a->∃o,H a=some o/\Mt o)/\Tb H/\R5 K O/\M f h j=.ok d/\∀v e,Same H e->Rep K e O v d->Q v e
def kN (N:List Str)(Φ:(List D->R D)->Hp->(bc->Prop)->bc->Prop)(d:D)(a b:List D->R D):Ev:=.v d::.c a (Φ a)::.c b (Φ b)::aCR (N.length-3) Sl.no
def DD {K:ka}{H:Hp}{O:bc->Prop}{N:List Str}{v1:V}{e:D}{a1 a2:bc}{f g:List D->R D}{Φ:(List D->R D)->Hp->(bc->Prop)->bc->Prop}(r:Rep K H O v1 e)(k:∀c d,Kp H O c d->Φ f c d a1)(l:∀c d,Kp H O c d->Φ g c d a2)
  (t:∀a,O a->∃o,H a=some o/\Mt o) (tb:Tb H):EnvOk K H O H O (start N [v1,.ref a1,.ref a2]) (kN N Φ e f g)where
 len:=by simp[L2.start,kN]
 same:=Same.refl H
 sub:=λ_ h=>h
 trk:=t
 trk0:=λa h=>let⟨o,q,_⟩:=t a h;⟨o,q⟩
 tab:=tb
 slot:=λi m h=>by
  match i with
  |0=>cases h;exact⟨v1,rfl,r⟩
  |1=>cases h;exact⟨a1,rfl,k⟩
  |2=>cases h;exact⟨a2,rfl,l⟩
  |i+3=>
   have b:(aCR (N.length-3) Sl.no)[i]?=some m:=h;rw[aBu]at b;split at b
   .cases b;trivial
   .cases b
 inj:=λi j x y a h _ o=>by
  match i with
  |0=>cases h;exact o.elim
  |1=>cases h;exact o.elim
  |2=>cases h;exact o.elim
  |i+3=>
   have b:(aCR (N.length-3) Sl.no)[i]?=some x:=h;rw[aBu]at b;split at b
   .cases b;exact o.elim
   .cases b
section
variable{K:ka}
def fnF {x qual:Str}{st:dm}{f:bc}{fd:dC}{N ps:List Str}{k:Nat}{M:D->(List D->R D)->(List D->R D)->R D}{Φ:(List D->R D)->Hp->(bc->Prop)->bc->Prop}{F:Ev->R Out}(l:Fun K x qual st f fd)(S:FnScope N ps (c6 st))(m:ps.length=3)
  (n:∀(T:af) (A:cf) (a:List Env) (s:a9) (H:Hp) (E:XK),Room k (A.deeper (envOfC qual (c6 st) s.heap.objs.size f T))->X4 (SF P w K mg base N qual (c6 st) f T A a s H E) (o6 st) F)
  (p:∀c g i d,M c g i=.ok d->M5 (F (kN N Φ c g i))=.ok d):FnOk P w K mg base rV (k+1) f fd ps (spF K Φ M):=by
 refine l.ok S (λt H Q E z=>by obtain⟨O,v1,c,u,g,v,i,d,e,_⟩:=z;rw[e,m];rfl) (λT A a s H t Q E y z=>?_);obtain⟨O,v1,c,u,g,v,i,d,B,r,C,I,J,L,U,e,q⟩:=z;subst B;refine⟨_,n T A a s H E y H O,O,_,DD r C I J L,U,?_⟩;have h:=p c g i d e;cases j:F (kN N Φ c g i)with
 |ok o=>
  rw[j]at h;cases o with
  |rt Y=>have b:R.ok Y=R.ok d:=h;injection b with b;subst b;exact q
  |nx ρ=>have b:R.ok D.non=R.ok d:=h;injection b with b;subst b;exactλar H' O' E' _ _=>q .non H' E'.same .non
  |bk ρ=>cases h
  |ct ρ=>cases h
 |ex x=>rw[j]at h;cases h
 |bad=>rw[j]at h;cases h
end
structure NScope (ps ls fn:List Str)(sc:Scope):Prop where
 kind:sc.kind=.function
 co:sc.isCoroutine=false
 gen:sc.isGenerator=false
 nd:(ps++(ls++fn)).Nodup
 par:∀x∈ps,sc.names.lookup x=some .local
 fre:∀x∈fn,sc.names.lookup x=some .free
 all:∀x,sc.names.lookup x=some .free->x∈fn
 nocell:∀y∈sc.names,y.2≠.cell
abbrev tj (P:bu)(w:cp)(K:ka)(mg:Y1)(base:cq)(N:List Str)(env:Env)(A:cf)(outer:List Env)(s:a9)(H:Hp):Cx where
 prog:=P
 w:=w
 K:=K
 mg:=mg
 base:=base
 A:=A.deeper env
 N:=N
 sa:=s
 Ha:=H
 env:=env
 outer:=outer
 stack:=env::outer
 ex:=[]
 calm:=true
 fn:=λ_=>false
 pn:=[]
 xe:=λ_ _=>False
def N2 {α:Type}(vs:List α)(n:Nat)(no:α)(ws:List α):List α:=vs++(aCR n no++ws)
def fY {α:Type}{vs ws:List α}{n i:Nat}{no a:α}(h:(N2 vs n no ws)[i]?=some a):vs[i]?=some a\/a=no\/(vs.length+n<=i/\ws[i-(vs.length+n)]?=some a):=by
 unfold N2 at h;by_cases c:i<vs.length
 .rw[aAS c]at h;exact .inl h
 .rw[aAz (by lia)]at h;by_cases b:i-vs.length<n
  .rw[aAS (by simpa using b),aBu,ji b]at h;exact .inr (.inl (aAl h).symm)
  .rw[aAz (by simpa using b),aCt]at h;exact .inr (.inr ⟨by lia,by rw[show i-(vs.length+n)=i-vs.length-n by lia];exact h⟩)
def QT {α:Type}{vs ws:List α}{n i:Nat}{no a:α}(h:vs[i]?=some a):(N2 vs n no ws)[i]?=some a:=by unfold N2;rw[aAS (aAB.mp h).1];exact h
def MG {α:Type}{vs ws:List α}{n i:Nat}{no a:α}(h:ws[i]?=some a):(N2 vs n no ws)[vs.length+n+i]?=some a:=by unfold N2;rw[aAz (by lia),aAz (by simp;lia),aCt,show vs.length+n+i-vs.length-n=i by lia];exact h
section
variable{K:ka}
def DG {A:cf}{g:List Env}{s:a9}{H:Hp}{us:List af}{vs wv:List V}{h₁:cq}{tk:Nat}(S:NScope ps k fn d)(Q:A.handled=none)(j:Env0 P w K mg base A g s H)(B:vs.length=ps.length)(r:n4 vs us)(N:wv.length=fn.length)
  (O:∀(i:Nat) (x:Str) (v:V),fn[i]?=some x->wv[i]?=some v->∃c u,clos.lookup x=some c/\RelV v u/\s.heap.IsCell c (some u)) (t:∀x c,clos.lookup x=some c->(∃v,s.heap.IsCell c v)/\H c=none)
  (T:∀x y c,clos.lookup x=some c->clos.lookup y=some c->x=y) (I:h₁.Ns s.heap.objs.size (λx=>(ps.zip us).reverse.lookup x)) (C:∀b o,s.heap.get? b=some o->h₁.get? b=some o):
  Inv (tj P w K mg base (ps++(k++fn)) (PySem.W.envX qual d s.heap.objs.size fa cd clos) A g s H) [] (N2 (vs.map some) k.length none (wv.map some)) H {s with heap:=h₁,toks:=tk}:=by
 have l:∀b:bc,b∉(tj P w K mg base (ps++(k++fn)) (PySem.W.envX qual d s.heap.objs.size fa cd clos) A g s H).ex:=λb z=>absurd (show b∈([]:List bc)from z) (by simp);have J:ps.Nodup:=(aCH.mp S.nd).1;refine⟨⟨j.mod,S.kind,rfl,rfl,aAh _,T,λy m=>?_,λy c U _=>(by cases U),λ_=>Q,aFL j.frames,.inr ⟨rfl,rfl⟩,λb z=>absurd z (l b),j.bs,j.bsz,λb _ _=>l b,λb z=>absurd z (l b),j.funs,j.frf⟩,
  rfl,j.bare,Un.kept C,⟨_,I,λi y v Y f h3=>?_⟩,λy c h=>?_,j.hok.fresh (aAh _),λy c h=>(t y c h).2,λp hp=>absurd (show p∈([]:N9)from hp) (by simp),j.hok.kept C,?_⟩
 .have m:d.names.lookup y=some .cell\/d.names.lookup y=some .free:=m;rcases m with m|m
  .exact absurd rfl (S.nocell _<|PySem.mem_of_lookup m)
  .have hm:=S.all y m;obtain⟨i,E,e⟩:=aBh hm;have hw:i<wv.length:=by rw[N];exact E
   obtain⟨c,u,q,_⟩:=O i y wv[i] (by rw[aAg E,e]) (aAg hw);exact⟨c,q⟩
 .have n:(ps++(k++fn))[i]?=some y:=Y;rcases fY f with f|f|⟨h4,f⟩
  .rw[aAM]at f;cases e:vs[i]? with
   |none=>rw[e]at f;cases f
   |some a=>
    rw[e]at f;have L:a=v:=aAl (aAl f);subst L;obtain⟨u,hu,rv⟩:=r.get e;have E:i<ps.length:=by rw[<-B];exact(aAB.mp e).1
    rw[aAS E]at n;refine⟨u,rv,.inl ⟨S.par y (aAm n),?_⟩⟩;refine aY ?_ ?_
    .rw[aFt];refine(List.reverse_perm _).nodup_iff.mpr ?_;rw[List.map_fst_zip (by rw[<-B,r.length];exact aAh _)];exact J
    .rw[aBn];exact aAm (i:=i) (by rw[aBC];exact⟨n,hu⟩)
  .cases f
  .rw[aAj]at h4 f;rw[aAM]at f;cases e:wv[i-(vs.length+k.length)]? with
   |none=>rw[e]at f;cases f
   |some a=>rw[e]at f;have L:a=v:=aAl (aAl f);subst L;rw[aAz (by lia),aAz (by lia),<-B,show i-vs.length-k.length=i-(vs.length+k.length)by lia]at n;obtain⟨c,u,q1,q2,q3⟩:=O _ y a n e;exact⟨u,q2,.inr ⟨.inr (S.fre y<|aAm n),c,q1,q3.keeps C⟩⟩
 .obtain⟨⟨v,z⟩,_⟩:=t y c h;exact⟨v,z.keeps C⟩
 .unfold N2;simp[B,N]
def BL {H:Hp}{O:bc->Prop}{vs wv:List V}{ds wd:List D}{n:Nat}(r:Reps K H O vs ds)(g:Reps K H O wv wd)(t:∀a,O a->∃o,H a=some o/\Mt o)(tb:Tb H):
  EnvOk K H O H O (N2 (vs.map some) n none (wv.map some)) (N2 (ds.map Sl.v) n .no (wd.map Sl.v))where
 len:=by unfold N2;simp[r.length,g.length]
 same:=Same.refl H
 sub:=λ_ h=>h
 trk:=t
 trk0:=λa h=>let⟨o,q,_⟩:=t a h;⟨o,q⟩
 tab:=tb
 slot:=λi k h=>by
  rcases fY h with h|h|⟨l,h⟩
  .rw[aAM]at h;cases e:ds[i]? with
   |none=>rw[e]at h;cases h
   |some d=>rw[e]at h;have b:Sl.v d=k:=aAl h;subst b;obtain⟨v,c,f⟩:=r.get e;exact⟨v,QT (by rw[aAM,c];rfl),f⟩
  .subst h;trivial
  .rw[aAM,aAj]at h;rw[aAj]at l;cases e:wd[i-(ds.length+n)]? with
   |none=>rw[e]at h;cases h
   |some d=>rw[e]at h;have b:Sl.v d=k:=aAl h;subst b;obtain⟨v,c,f⟩:=g.get e;refine⟨v,?_,f⟩;have:=MG (vs:=vs.map some) (n:=n) (no:=(none:Option V)) (ws:=wv.map some) (i:=i-(ds.length+n)) (a:=some v) (by rw[aAM,c];rfl);rw[aAj,r.length,show ds.length+n+(i-(ds.length+n))=i by lia]at this;exact this
 inj:=λi j x y a h _ o=>by
  rcases fY h with h|h|⟨_,h⟩
  .obtain⟨d,_,rfl⟩:=aAo.mp (aAm h);exact o.elim
  .subst h;exact o.elim
  .obtain⟨d,_,rfl⟩:=aAo.mp (aAm h);exact o.elim
def kw {name:Str}{j:Arguments}{body:List dm}{doc pm ctv:af}{T:bc}{oc:Obj}{k:Nat}{m:List D->R D}{F:Ev->R Out}{H:Hp}{O:bc->Prop}{cs:N9}{wv:List V}{wd:List D}(S:NScope ps ls fn g)
  (hb:∀(A:cf) (f:List Env) (s:a9) (H:Hp),Room k (A.deeper (PySem.W.envX qual g s.heap.objs.size fa (.ref T) clos))->X4 (tj P w K mg base (ps++(ls++fn)) (PySem.W.envX qual g s.heap.objs.size fa (.ref T) clos) A f s H) body F)
  (hm:∀ds d,ds.length=ps.length->m ds=.ok d->M5 (F (N2 (ds.map Sl.v) ls.length .no (wd.map Sl.v)))=.ok d)
  (ye:∀(s:a9) (us:List af),us.length=ps.length->BindsTo s (PySem.W.fnX name qual j body g clos .none .none doc pm none (.ref T) ctv) ⟨us,[]⟩ (ps.zip us))
  (hfa:H fa=some (.frz (PySem.W.fnMade name qual j body g clos doc pm T ctv) (.own fa))) (hc:H T=some (.frz oc (.own T))) (gh:∃vs t,oc.data=.fields vs/\vs[1]?=some (.str qual t))
  (xr:∀b o,cs.lookup b=some o->H b=some (.frz o (.own b))/\vW o) (tf:∀(i:Nat) (x:Str) (v:V),fn[i]?=some x->wv[i]?=some v->∃c u o,clos.lookup x=some c/\cs.lookup c=some o/\o.data=.cell (some u)/\RelV v u)
  (hcc:∀x c,clos.lookup x=some c->∃o,cs.lookup c=some o) (qo:∀x y c,clos.lookup x=some c->clos.lookup y=some c->x=y) (vo:wv.length=fn.length) (hr:Reps K H O wv wd) (hO:∀a,O a->∃o,H a=some o/\Mt o):
  ∀B U,Kp H O B U->KG P w K mg base (k+1) ps.length m B U fa:=by
 intro B U kp;have fz:∀b o u,H b=some (.frz o u)->B b=some (.frz o u):=λb o u e=>(kp b _ e λz=>by obtain⟨o',q,mt⟩:=hO b z;rw[e]at q;cases q;exact mt).1;have l:∀b o,cs.lookup b=some o->B b=some (.frz o (.own b)):=λb o q=>fz _ _ _ (xr b o q).1;refine⟨⟨_,_,_,_,fz _ _ _ hfa⟩,λA f s us vs ds d Q E qu C rv rr hl ht tb fk em q=>?_⟩;have KX:K.In s.heap:=C.mod.kin.keeps λb o e=>(C.bs b o e).1;have lim:s.heap.NoLimit:=C.mod.nolimit.keeps λb o e=>(C.bs b o e).1;have gfa:=(C.hok fa _<|fz _ _ _ hfa).1;have goc:=(C.hok T _<|fz _ _ _ hc).1;obtain⟨ovs,ot,od1,od2⟩:=gh;have Y:∀b,B b=none->Q9 B cs b=none:=λb n=>by
  cases z:cs.lookup b with
  |none=>rw[N6 z];exact n
  |some o=>exact bS z
 have e1:Env0 P w K mg base A f s (Q9 B cs):=⟨C.frames,C.mod,λb o e=>⟨(C.bs b o e).1,Y b (C.bs b o e).2⟩,C.bsz,C.funs,λb hb=>Y b (C.frf b hb),NC C.hok λb o z=>⟨l b o z,(xr b o z).2⟩,C.bare⟩;have N:∀b o,cs.lookup b=some o->s.heap.get? b=some o:=λb o z=>(C.hok b _<|l b o z).1;have cfs:∀b o,cs.lookup b=some o->b∉W5 f:=λb o z hb=>by have:=C.frf b hb;rw[l b o z]at this;cases this
 have hul:us.length=ps.length:=by rw[<-rv.length,rr.length];exact hl
 have hvl:vs.length=ps.length:=by rw[rr.length];exact hl
 have rwv:Reps K (Q9 B cs) U wv wd:=(kp.ac6 hO fk hr).hid l;have tb1:Tb (Q9 B cs):=λp hp=>w5 l (tb p hp) λo _ z=>by cases z
 have ht1:∀a,U a->∃o,Q9 B cs a=some o/\Mt o:=λa z=>by obtain⟨o,q1,q2⟩:=ht a z;exact⟨o,w5 l q1 λo' _ z'=>by subst z';exact q2,q2⟩
 let Q':VK:=λv H3=>(∀b o,cs.lookup b=some o->H3 b=none)->Q v (dF H3 cs)
 have qq:∀v L,Same (Q9 B cs) L->Rep K L U v d->Q' v L:=λv L sm r hn=>by
  refine q v _ (λb u e=>?_) (r.same<|eG hn);cases z:cs.lookup b with
  |none=>exact F5 hn (sm b u (by rw[N6 z];exact e))
  |some o=>rw[l b o z]at e;cases e;exact eF z
 have fin:∀{u:af} {s':a9},CE f P w (Q9 B cs) s Q' u s'->CE f P w B s Q u s':=λ{u s'} ⟨v,H3,os,bare,un,hok,r,qv⟩=>by obtain⟨U2,k2,sm2⟩:=az un hok λb o z=>⟨N b o z,l b o z,cfs b o z⟩;exact⟨v,_,os,bare,U2,k2,r,qv λb o z=>un.free b o (N b o z) (bS z) (by simp)⟩
 refine codeAny_call_def (fd:=PySem.W.fnX name qual j body g clos .none .none doc pm none (.ref T) ctv) (body:=body) (binds:=ps.zip us) qu.depth gfa rfl lim ⟨T,oc,ovs,ot,rfl,goc,od1,od2⟩ rfl (ye s us hul) S.nocell (λy hy=>S.par y.1 (aDL hy).1) (λh₁ hns hk=>?_) S.co S.gen S.kind;show bb (bo P w) (A.deeper<|PySem.W.envX qual g s.heap.objs.size fa (.ref T) clos) (execs body<|PySem.W.envX qual g s.heap.objs.size fa (.ref T) clos) _ _ _;have I:=DG (qual:=qual) (fa:=fa) (cd:=.ref T) (clos:=clos) (tk:=s.toks+(ps.zip us).length) S qu.hd e1 hvl rv vo (λi x v h1 h2=>by
   obtain⟨c,u,o,q1,q2,q3,q4⟩:=tf i x v h1 h2;exact⟨c,u,q1,q4,o,N c o q2,q3⟩) (λx c h=>by
   obtain⟨o,z⟩:=hcc x c h;obtain⟨v,z2⟩:=(xr c o z).2;exact⟨⟨v,o,N c o z,z2⟩,bS z⟩) qo hns hk
 have hx:=hb A f s (Q9 B cs) (qu.deeper _) (Q9 B cs) U [] _ _ _ {nx:=λ_ L=>Q' .non L,rt:=Q'} I ⟨U,_,BL (rr.hid l) rwv ht1 tb1,fk,?_⟩
 .refine aBP hx (λfl s' hs=>?_) λe s' hs=>hs.elim;have fin2:∀{ar:St} {L:Hp} {v:V} {u:af},Inv (tj P w K mg base (ps++(ls++fn)) (PySem.W.envX qual g s.heap.objs.size fa (.ref T) clos) A f s<|Q9 B cs) [] ar L s'->RelV v u->Q' v L->CE f P w B s Q u s':=
   λ{ar L v u} J rv q=>fin ⟨v,L,J.os,J.bare,J.base,J.hok,rv,q⟩
  cases fl with
  |ret u=>obtain⟨v,ar,L,J,rv,q⟩:=hs;exact fin2 J rv q
  |next=>obtain⟨ar,L,J,q⟩:=hs;exact fin2 (v:=V.non) (u:=Value.none) J rfl q
  |brk=>obtain⟨_,_,_,q⟩:=hs;exact aAi q
  |cont=>obtain⟨_,_,_,q⟩:=hs;exact aAi q
 .have h:=hm ds d hl em;cases e1:F (N2 (ds.map Sl.v) ls.length .no (wd.map Sl.v))with
  |ok o=>
   rw[e1]at h;cases o with
   |rt d'=>have h':R.ok d'=R.ok d:=h;injection h' with h';subst h';exact qq
   |nx ρ=>have h':R.ok D.non=R.ok d:=h;injection h' with h';subst h';exactλar L O' E' _ _=>qq .non L E'.same .non
   |bk ρ=>cases h
   |ct ρ=>cases h
  |ex x=>rw[e1]at h;cases h
  |bad=>rw[e1]at h;cases h
end
end
section
variable [Tabs]
def jC (mg:Y1)(base:cq):Prop:=∃b a,mg "__builtins__"=some (.ref b)/\b≠builtinsNs/\base.get? b=some a/\a.cls=.type "module"/\a.dict=some builtinsNs/\a.data=.plain
def sZ:∀(l:List af),TriplesOk l->fo pos l=some x->fo pos (l++[fb a,fb b,c])=some x:=λl h e=>by
 fun_induction TriplesOk l with
 |case1=>simp[fo]at e
 |case2 g t i u y rest f=>
  simp only[aAI,fo]at e⊢;split at e
  .rename_i d;rw[ji d];exact e
  .rename_i d;rw[jn d];exact f h e
 |case3 l j k=>exact h.elim
def RL (ne:¬(a=pos.line/\b=pos.col)):∀(l:List af),TriplesOk l->fo pos l=none->fo pos (l++[fb a,fb b,c])=none:=λl h e=>by
 fun_induction TriplesOk l with
 |case1=>simp only[aBA,fb,fo];rw[jn];simp only[aAJ,beq_iff_eq];exact ne
 |case2 g t i u y rest d=>
  simp only[aAI,fo]at e⊢;split at e
  .cases e
  .rename_i f;rw[jn f];exact d h e
 |case3 l j k=>exact h.elim
def gG (H:Hp)(fa:bc)(name qual:Str)(a:Arguments)(body:List dm)(b:ik)(clos:List (Str×bc)):Prop:=
 ∃c f d h e,H fa=some (.frz (PySem.W.fnMade name qual a body b clos d h c e) (.own fa))/\H c=some (.frz f (.own c))/\∃g t,f.data=.fields g/\g[1]?=some (.str qual t)
def gG.same (h:gG H fa name qual a body b clos)(s:Same H H'):gG H' fa name qual a body b clos:=
 let⟨e,f,c,g,d,i,j,k⟩:=h;⟨e,f,c,g,d,s _ _ i,s _ _ j,k⟩
section
def zS {Q:Flow->a9->Prop}(I:Inv X pins σ H s)(hB:jC X.mg X.base)(lh:X.env.code=.ref c)(hK:PySem.W.codeHdIn X.K c m=true)(hT:H m=some (.tbl tb))(hq:qualnameIn X.env name name=qual)(hm:(pos,qual)∈tb)(hu:∀p∈tb,p.1.line=pos.line->p.1.col=pos.col->p.2=qual)(tf:closureFor f X.env=pure clos)(hd0:d.defaults=[])(hk0:d.kw_defaults=[])(ha:annTrees d none X.env=[])(hN:X.N.Nodup)(hi:X.N[i]?=some name)(hx:Loc X.env.scope name)(hf:X.fn name=true\/X.env.scope.names.lookup name=some .local)(h:∀fa H' s',Inv X pins (σ.set i (some (.ref fa))) H' s'->Same H H'->gG H' fa name qual d body f clos->Q .next s'):bb (bo X.prog X.w) X.A (exec (.FunctionDef name d body [] none [] f none name pos) X.env) Q X.xe s:=by
 refine PySem.W.nestDef_K hd0 hk0 ha ?_;rw[hq];have hg:s.heap.Ns bt X.mg:=I.mod.glob.keeps I.bk;have C:PySem.W.CodeHd s.heap c m:=PySem.W.codeHd_of_K I.kIn hK;obtain⟨ps,hP,l,J⟩:=I.hok m _ hT;have hgP:bt≠m:=λq=>by obtain⟨o,es,ep,e,hd,_⟩:=hg;rw[q,hP]at e;cases e;cases hd
 have L:s.heap.BuiltinsAt X.mg m:=by
  obtain⟨bm,ob,b1,b2,b3,b4,b5,b6⟩:=hB;have x:=I.bk _ _ b3;refine⟨bm,ob,b1,b2,λq=>?_,λq=>?_,x,b4,b5,b6⟩
  .obtain⟨o,es,ep,e,hd,_⟩:=hg;rw[<-q,x]at e;cases e;rw[hd]at b6;cases b6
  .rw[q,hP]at x;cases x;cases b4
 have O:∀b,H b=none->b≠m:=λb n z=>by rw[z,hT]at n;cases n
 have neL:X.env.locals≠m:=O _ I.free;rcases J _ hm with hnf|⟨g,oc,vs,t,hf',hc',gr⟩
 .refine PySem.W.makeFunction_K (mg:=X.mg) tf I.ok.glob hg lh C hP l hnf hgP L λg j k h' tk hx' y bg hrec htb=>?_;obtain⟨c2,oc,vs,t,e2,gh,hd,hv⟩:=hrec;cases e2;have old:∀b u,H b=some u->b<s.heap.objs.size:=λb u e=>I.hok.lt e;have hcN:H g=none:=I.hok.fresh y;have B:H h'.objs.size=none:=I.hok.fresh (aAw y<|aDb bg);have ncf:g≠h'.objs.size:=aAk bg;have E:Same H (upd (upd H g<|.frz oc (.own g)) h'.objs.size<|.frz (PySem.W.fnMade name qual d body f clos k ((X.mg "__name__").getD .none) g j) (.own h'.objs.size)):=λb u e=>by rw[k7 (t5 e B),k7 (t5 e hcN)];exact e
  have rg:∀b o,b≠m->s.heap.get? b=some o->(h'.push<|PySem.W.fnMade name qual d body f clos k ((X.mg "__name__").getD .none) g j).get? b=some o:=λb o L e=>aAc _ (hx' b o L e);have lts:∀b o,s.heap.get? b=some o->b≠g/\b≠h'.objs.size:=λb o e=>⟨aAk (aAs (aAf e) y),aAk (aAs (aAf e)<|aAw y<|aDb bg)⟩;have I1:=I.step (H':=upd (upd H g<|.frz oc (.own g)) h'.objs.size (.frz (PySem.W.fnMade name qual d body f clos k ((X.mg "__name__").getD .none) g j) (.own h'.objs.size)))
   (h':=h'.push (PySem.W.fnMade name qual d body f clos k ((X.mg "__name__").getD .none) g j)) (g':=s.gens) (t':=tk) (d':=s.drawn) (ch:=[]) (λ_ z=>nomatch z) (λb o _ _ _ e n=>rg b o (O b n) e) (λb o _ _ _ e n=>⟨o.slots,rg b o (O b n) e⟩)
   (λb o _ e n=>by rw[k7 (lts b o e).2,k7 (lts b o e).1];exact n) (λb o _ e=>by
    by_cases L:b=m
    .subst L;exact⟨_,aAc _ htb⟩
    .exact⟨o,rg b o L e⟩) (λb Y e=>E _ _ e) (λb o u e=>E _ _ e) (λb tb e=>E _ _ e) (λm' hm'=>by
    obtain⟨o,es,ep,e,r⟩:=hm';exact⟨o,es,ep,rg _ o neL e,r⟩) (λb u e=>by
    by_cases hbf:b=h'.objs.size
    .subst hbf;rw[j2]at e;cases e;exact⟨aAr _ rfl,_,aAr _ rfl⟩
    .rw[k7 hbf]at e;by_cases hbc:b=g
     .subst hbc;rw[j2]at e;cases e;exact⟨aAc _ gh,_,aAc _ gh⟩
     .rw[k7 hbc]at e;by_cases hbP:b=m
      .subst hbP;rw[hT]at e;cases e;refine⟨_,aAc _ htb,?_,λp hp=>?_⟩
       .rw[aFZ];exact TriplesOk_snoc _ _ _ _ l
       .rw[aFZ];show fo p.1 (ps.toList++[fb pos.line,fb pos.col,.ref g])=none\/_;by_cases T:(pos.line:Int)=p.1.line/\(pos.col:Int)=p.1.col
        .rcases J p hp with U|⟨c3,oc3,vs3,t3,U,h1,h2⟩
         .have e1:pos.line=p.1.line:=by exact_mod_cast T.1
          have e2:pos.col=p.1.col:=by exact_mod_cast T.2
          refine .inr ⟨g,oc,vs,t,?_,by rw[k7 ncf,j2],hd,?_⟩
          .rw[e1,e2];exact codeAmong_snoc _ l U
          .rw[hu p hp e1.symm e2.symm];exact hv
         .exact .inr ⟨c3,oc3,vs3,t3,sZ _ l U,E _ _ h1,h2⟩
        .rcases J p hp with U|⟨c3,oc3,vs3,t3,U,h1,h2⟩
         .exact .inl (RL T _ l U)
         .exact .inr ⟨c3,oc3,vs3,t3,sZ _ l U,E _ _ h1,h2⟩
      .refine(I.hok b u e).ab4 (λb2 v hc q=>rg b2 v (λz=>?_) q) (λb2 z=>E _ _ z) λb2 u _ z=>E _ _ z;rcases hc with hc|hc
       .exact hbP (hc▸z)
       .rw[z,hT]at hc;cases hc) I.bare
  refine F1 I1 hN hi hx (show RelV (.ref h'.objs.size) _ from rfl) (λs' I'=>h _ _ s' I' E ⟨g,oc,k,_,j,j2,by rw[k7 ncf,j2],vs,t,hd,hv⟩) hf
 .refine PySem.W.makeFunction_hit (mg:=X.mg) tf I.ok.glob hg lh C hP l hf' L λj k h' tk hk jf=>?_;have B:H h'.objs.size=none:=I.hok.fresh jf;have I1:=I.laid (a:=h'.objs.size) (o:=.frz (PySem.W.fnMade name qual d body f clos k ((X.mg "__name__").getD .none) g j) (.own h'.objs.size)) (h':=h'.push (PySem.W.fnMade name qual d body f clos k ((X.mg "__name__").getD .none) g j)) (t':=tk)
   (λb u e=>aAc _ (hk b u e)) jf ⟨aAr _ rfl,_,aAr _ rfl⟩
  refine F1 I1 hN hi hx (show RelV (.ref h'.objs.size) _ from rfl) (λs' I'=>h _ _ s' I' (j3 B _) ⟨g,oc,k,_,j,j2,j3 B _ _ _ hc',vs,t,gr⟩) hf
end
structure Nst where
 name:Str
 qual:Str
 params:Arguments
 body:List Stmt
 scope:Scope
 pos:Pos
 ps:List Str
 ls:List Str
 fn:List Str
 js:List Nat
 F:Ev->R Out
 mm:List D->List D->R D
 i:Nat
abbrev Nst.stmt (n:Nst):dm:=.FunctionDef n.name n.params n.body [] none [] n.scope none n.name n.pos
structure NstOk (X:Cx)(k:Nat)(n:Nst):Prop where
 sc:NScope n.ps n.ls n.fn n.scope
 one:n.ps.length=1
 body:∀(fa:Addr) (cd:Value) (clos:List (Str×Addr)) (A:Around) (outer:List Env) (s:Shared) (H:Hp),Room k (A.deeper (PySem.W.envX n.qual n.scope s.heap.objs.size fa cd clos))->X4 (tj X.prog X.w X.K X.mg X.base (n.ps++(n.ls++n.fn)) (PySem.W.envX n.qual n.scope s.heap.objs.size fa cd clos) A outer s H) n.body n.F
 mm:∀wd ds d,wd.length=n.fn.length->ds.length=n.ps.length->n.mm wd ds=.ok d->M5 (n.F (N2 (ds.map Sl.v) n.ls.length .no (wd.map Sl.v)))=.ok d
 bind:∀(clos:List (Str×Addr)) (doc pm cd ctv:Value) (us:List Value),us.length=n.ps.length->bindArgs (PySem.W.fnX n.name n.qual n.params n.body n.scope clos .none .none doc pm none cd ctv) ⟨us,[]⟩=pure (n.ps.zip us)
 len:n.js.length=n.fn.length
 at_:∀(i j:Nat) (x:Str),n.js[i]?=some j->n.fn[i]?=some x->X.N[j]?=some x/\X.env.scope.names.lookup x=some .cell
 d0:n.params.defaults=[]
 k0:n.params.kw_defaults=[]
 nm:X.N[n.i]?=some n.name
 lc:Loc X.env.scope n.name
 st:X.fn n.name=true\/X.env.scope.names.lookup n.name=some .local
 dbg:(n.name==kb)=false
 cdt:(n.name==kc)=false
structure ClosOk (X:Cx)(n:Nst)(clos:List (Str×Addr)):Prop where
 eq:closureFor n.scope X.env=pure clos
 ann:annTrees n.params none X.env=[]
 qn:qualnameIn X.env n.name n.name=n.qual
 sub:∀x c,clos.lookup x=some c->X.env.cells.lookup x=some c
 has:∀x∈n.fn,∃c,clos.lookup x=some c
def dG:List Nat->Ev->R (List D)
 |[],_=>.ok []
 |j::a,ρ=>(dE j ρ).bind λd=>(dG a ρ).bind λb=>.ok (d::b)
theorem NR {K:ka}{k H:Hp}{l O:bc->Prop}{σ:St}{ρ:Ev}(E:EnvOk K k l H O σ ρ):∀{b:List Nat} {wd:List D},dG b ρ=.ok wd->∃wv,Reps K H O wv wd/\wv.length=b.length/\∀(i j:Nat) (v:V),b[i]?=some j->wv[i]?=some v->σ[j]?=some (some v)
 |[],wd,h=>by cases h;exact⟨[],.nil,rfl,λi j v e=>by simp at e⟩
 |j::b,wd,h=>by
  unfold dG at h;cases a:dE j ρ with
  |ok d=>
   rw[a,R.aa0]at h;cases c:dG b ρ with
   |ok t=>
    rw[c,R.aa0]at h;cases h;obtain⟨wv,r,m,at_⟩:=NR E c;have:ρ[j]?=some (.v d):=by
     unfold dE at a;split at a
     .rename_i q;cases a;exact q
     .cases a
    obtain⟨v,n,o⟩:=E.val j d this;refine⟨v::wv,.cons o r,by simp[m],λi p s f g=>?_⟩;cases i with
    |zero=>simp at f g;subst f g;exact n
    |succ i=>exact at_ i p s (by simpa using f) (by simpa using g)
   |ex z=>rw[c]at h;cases h
   |bad=>rw[c]at h;cases h
  |ex z=>rw[a]at h;cases h
  |bad=>rw[a]at h;cases h
section
def T7 (h:cq)(a:List (Str×bc)):List (bc×Obj):=a.filterMap λp=>(h.get? p.2).map λo=>(p.2,o)
def L6 (e:(T7 h a).lookup b=some o):h.get? b=some o/\∃x,(x,b)∈a:=by
 obtain⟨p,c,q⟩:=aBM.mp (mem_lookup e);cases z:h.get? p.2 with
 |none=>rw[z]at q;cases q
 |some d=>rw[z]at q;have f:(p.2,d)=(b,o):=aAl q;injection f with g i;subst g i;exact⟨z,p.1,c⟩
def mB (d:(x,b)∈a)(e:h.get? b=some o):∃c,(T7 h a).lookup b=some c:=by
 have:(b,o)∈T7 h a:=aBM.mpr ⟨(x,b),d,by show(h.get? b).map _=_;rw[e];rfl⟩;cases q:(T7 h a).lookup b with
 |some c=>exact⟨c,rfl⟩
 |none=>have:=List.lookup_eq_none_iff.mp q (b,o) this;simp at this
def uz (X:Cx)(n1 n2:Nst)(clos1 clos2:List (Str×bc))(f:Ev->R D)(M:D->(List D->R D)->(List D->R D)->R D):TE:=λσ H Q=>∃c d O ρ b a,EnvOk X.K c d H O σ ρ/\σ[n1.i]?=some (some<|V.ref b)/\σ[n2.i]?=some (some<|V.ref a)/\
 gG H b n1.name n1.qual n1.params n1.body n1.scope clos1/\gG H a n2.name n2.qual n2.params n2.body n2.scope clos2/\RC X H O ((f ρ).bind λe=>(dG n1.js ρ).bind λg=>(dG n2.js ρ).bind λh=>M e (n1.mm g) (n2.mm h)) Q
def xL {n:Nst}{clos a:List (Str×bc)}{k:Nat}{h:N9}{σ:St}{H:Hp}{s:a9}{Ha:Hp}{O0 O:bc->Prop}{ρ:Ev}{fa:bc}{wd:List D}(ok:NstOk X k n)(j:ClosOk X n clos)(I:Inv X h σ H s)(E:EnvOk X.K Ha O0 H O σ ρ)
  (hA:∀p∈clos,p∈a) (l:∀x b,(x,b)∈a->X.env.cells.lookup x=some b) (r:gG H fa n.name n.qual n.params n.body n.scope clos) (hw:dG n.js ρ=.ok wd):
  ∀t z,Kp (dF H (T7 s.heap a)) O t z->KG X.prog X.w X.K X.mg X.base (k+1) 1 (n.mm wd) t z fa:=by
 obtain⟨c',oc,T,pm,U,h1,h2,h3⟩:=r;obtain⟨wv,ua,hl,at_⟩:=NR E hw;have hn:∀b o,(T7 s.heap a).lookup b=some o->H b=none:=λb o q=>by obtain⟨_,x,Y⟩:=L6 q;exact I.freeC x b (l x b Y)
 have N:=eG hn
 suffices B:∀t z,Kp (dF H<|T7 s.heap a) O t z->KG X.prog X.w X.K X.mg X.base (k+1) n.ps.length (n.mm wd) t z fa by rw[ok.one]at B;exact B
 refine kw (cs:=T7 s.heap a) (wv:=wv) (wd:=wd) (F:=n.F) ok.sc (λA g s H hr=>ok.body fa (.ref c') clos A g s H hr) (λds d oa e=>ok.mm wd ds d (by rw[<-ua.length,hl,ok.len]) oa e) (λs us oa=>.of_eq (ok.bind clos T pm (.ref c') U us oa)) (N _ _ h1) (N _ _ h2) h3
  (λb o q=>⟨eF q,?_⟩) (λi x v C q2=>?_) (λx c q=>?_) (λx y c C q2=>I.ok.inj x y c (j.sub x c C) (j.sub y c q2)) (by rw[hl,ok.len]) (ua.same N) (E.grow N).trk
 .obtain⟨e1,x,Y⟩:=L6 q;obtain⟨v,o',e2,e3⟩:=I.cell x b (l x b Y);rw[e1]at e2;cases e2;exact⟨v,e3⟩
 .have hi:i<n.js.length:=by rw[ok.len];exact(aAB.mp C).1
  have ej:n.js[i]?=some n.js[i]:=aAg hi;obtain⟨hN,hk⟩:=ok.at_ i _ x ej C;have hσ:=at_ i _ v ej q2;obtain⟨m,hns,J⟩:=I.loc;obtain⟨u,ru,L⟩:=J _ x v hN hσ (.inr (.inl hk));rcases L with⟨nv,_⟩|⟨_,c,jm,o,Q,hd⟩
  .have f:X.env.scope.names.lookup x=some .local:=nv;rw[hk]at f;cases f
  .obtain⟨c2,q3⟩:=j.has x (aAm C);have q4:=j.sub x c2 q3;rw[jm]at q4;cases q4;obtain⟨o',q5⟩:=mB (hA _<|PySem.mem_of_lookup q3) Q;have:=(L6 q5).1;rw[Q]at this;cases this;exact⟨c,u,o,q3,q5,hd,ru⟩
 .obtain⟨v,o,Q,_⟩:=I.cell x c (j.sub x c q);exact mB (hA _<|PySem.mem_of_lookup q) Q
def WF (oi:NstOk X k n1)(qp:NstOk X k n2)(zr:ClosOk X n1 clos1)(lb:ClosOk X n2 clos2)(C:∀x b,(x,b)∈clos1++clos2->X.env.cells.lookup x=some b)(FF:FnOk X.prog X.w X.K X.mg X.base rV kf g gd J (spF X.K (KG X.prog X.w X.K X.mg X.base (k+1) 1) M))(hr:Room kf X.A)(T:X.mg x=some (.ref g))(hk:PySem.W.keepIn X.K (.ref g)=true)(m:Binds X.K gd J [])(h3:J.length=3)(he:PD X e f)(zg:∀y,X.fn y=true)(hg:Gl X x:=by rfl)(eu:(x==kb)=false:=by decide)(hs1:a5 [e,.Name n1.name U,.Name n2.name n] X.env=(false,dz e X.env)::a5 [.Name n1.name U,.Name n2.name n] X.env:=by rfl)(hs2:a5 [.Name n1.name U,.Name n2.name n] X.env=(false,dz (.Name n1.name U) X.env)::a5 [.Name n2.name n] X.env:=by rfl)(hs3:a5 [.Name n2.name n] X.env=(false,dz (.Name n2.name n) X.env)::a5 [] X.env:=by rfl)(A8:(cv pos (a5 [.Name n1.name U,.Name n2.name n] X.env)).any (·.1)=false:=by rfl):
  PE X (.Call (.Name x p) [e,.Name n1.name U,.Name n2.name n] [] pos) (uz X n1 n2 clos1 clos2 f M):=by
 rintro pins s σ H Q I ⟨Ha,O0,O,ρ,zo,fa2,E,h1,h2,md1,md2,q⟩;have vis:∀{y:Str},Loc X.env.scope y->xH X.env.scope y:=λh=>h.elim .inl λz=>.inr (.inl z);have sv:PA X [e,.Name n1.name U,.Name n2.name n] _:=F9 he (F9 (S1 oi.nm (vis oi.lc) oi.dbg oi.cdt) (F9 (S1 qp.nm (vis qp.lc) qp.dbg qp.cdt) Z8 hs3) hs2) hs1;refine aAK (bE I hg T ?_ eu);refine PySem.W.callWith_K (h₀:=X.base) I.ok.mod.kin hk (C4 (sv pos pins s σ H (λvs c=>∃v1 L Y w2 d,vs=[v1,.ref zo,.ref fa2]/\Same H c/\Rep X.K c O v1 L/\dG n1.js ρ=.ok Y/\dG n2.js ρ=.ok w2/\M L (n1.mm Y) (n2.mm w2)=.ok d/\∀v j,Same c j->Rep X.K j O v d->Q v j) I ⟨Ha,O0,O,ρ,E,?_⟩) λus t z9=>?_) hs1 A8
 .cases e1:f ρ with
  |ex z=>rw[e1]at q;exact q
  |bad=>rw[e1]at q;exact q
  |ok L=>
   rw[e1,R.aa0]at q;cases B:dG n1.js ρ with
   |ex z=>rw[B]at q;exact(q H<|Same.refl _).elim
   |bad=>rw[B]at q;exact q.elim
   |ok Y=>
    rw[B,R.aa0]at q;cases e3:dG n2.js ρ with
    |ex z=>rw[e3]at q;exact(q H<|Same.refl _).elim
    |bad=>rw[e3]at q;exact q.elim
    |ok w2=>
     rw[e3,R.aa0]at q;cases e4:M L (n1.mm Y) (n2.mm w2)with
     |ex z=>rw[e4]at q;exact(q H<|Same.refl _).elim
     |bad=>rw[e4]at q;exact q.elim
     |ok d=>rw[e4]at q;exactλv1 c t r1=>⟨_,h1,_,h2,v1,L,Y,w2,d,rfl,t,r1,rfl,rfl,e4,λv j s2 r2=>q v j (t.trans s2) r2⟩
 .obtain⟨vs,c,a,r,v1,L,Y,w2,d,ev,sm,r1,c1,c2,em,qq⟩:=z9;refine⟨a.kIn,?_⟩;subst ev;have E1:=E.grow sm;generalize xr:T7 t.heap (clos1++clos2)=i;have hn:∀b o,i.lookup b=some o->t.heap.get? b=some o/\c b=none/\vW o:=λb o z=>by rw[<-xr]at z;obtain⟨e1,y,T⟩:=L6 z;obtain⟨v,o',B,e3⟩:=a.cell y b (C y b T);rw[e1]at B;cases B;exact⟨e1,a.freeC y b (C y b T),v,e3⟩
  have hn0:∀b o,i.lookup b=some o->c b=none:=λb o z=>(hn b o z).2.1;have N:Same c (dF c i):=eG hn0;have E2:=E1.grow N;have l:=a.ae8;have nofr:∀b o,i.lookup b=some o->b∉W5 X.stack:=λb o z m=>by
   rw[<-xr]at z;obtain⟨_,y,hmy⟩:=L6 z;rcases aAd.mp (a.aa9 b m)with e|m
   .exact a.cne y b (C y b hmy) e
   .obtain⟨_,o',ho,_⟩:=a.ok.funs.mem m;exact absurd (aAs (aAf ho)<|a.ok.cab y b (zg y)<|C y b hmy) (aBl _)
  have nob:∀b o,X.base.get? b=some o->i.lookup b=none:=λb o e=>by
   cases z:i.lookup b with
   |none=>rfl
   |some o'=>rw[<-xr]at z;obtain⟨_,y,T⟩:=L6 z;exact absurd (aAs (aAf e)<|aAw a.ok.bsz<|a.ok.cab y b (zg y)<|C y b T) (aBl _)
  have B:Env0 X.prog X.w X.K X.mg X.base X.A X.stack t (dF c i):=⟨l.frames,l.mod,λb o e=>⟨(l.bs b o e).1,by rw[R7 (nob b o e)];exact(l.bs b o e).2⟩,l.bsz,l.funs,λb m=>by
   cases z:i.lookup b with
   |none=>rw[R7 z];exact l.frf b m
   |some o=>exact absurd m (nofr b o z),OR l.hok λb o z=>⟨(hn b o z).1,(hn b o z).2.1⟩,l.bare⟩
  have cl1:=xL oi zr a E1 (λp hp=>aBF _ hp) C (md1.same sm) c1;have cl2:=xL qp lb a E1 (λp hp=>aAE _ hp) C (md2.same sm) c2;rw[xr]at cl1 cl2;have hl:us.length=J.length:=by rw[<-r.length,h3];rfl
  have hbs:=m t us a.kIn (by rw[aBG];exact hl);rw[aBG]at hbs;refine aFH (aDt (FF.run X.A X.stack t (dF c i) ⟨us,[]⟩ us _ (λv j=>Q v (Q9 j i)) (λ_ _ _=>False) hr B hbs r ⟨O,v1,L,zo,_,fa2,_,d,rfl,r1.same N,cl1,cl2,E2.trk,E2.tab,qZ a O E1.trk,em,λv j s2 r2=>?_⟩) λrr s' hq=>?_)
  .have hz:∀b o,i.lookup b=some o->j b=some (.frz o (.own b)):=λb o z=>s2 _ _ (eF z);refine qq v _ (λb u e=>w5 hz (s2 b u<|N b u e) λo z _=>?_) (r2.hid hz);rw[hn0 b o z]at e;cases e
  .cases rr with
   |error e=>exact hq.elim
   |ok fl=>
    cases fl with
    |next=>exact aAi hq
    |brk=>exact aAi hq
    |cont=>exact aAi hq
    |ret u=>obtain⟨v,j,os,bare,un,hok,rv,qv⟩:=hq;obtain⟨U2,k2,_⟩:=YU un hok hn;exact a.after ⟨v,_,os,bare,U2,k2,rv,qv⟩
def JE (a:NstOk X k n1)(h:NstOk X k n2)(B:ClosOk X n1 clos1)(C:ClosOk X n2 clos2)(hA:∀x b,(x,b)∈clos1++clos2->X.env.cells.lookup x=some b)(hB:jC X.mg X.base)(lh:X.env.code=.ref c)(hK:PySem.W.codeHdIn X.K c Pt=true)(l:(Pt,tb)∈Tabs.tbs)(Q:(n1.pos,n1.qual)∈tb)(mr:(n2.pos,n2.qual)∈tb)(gu:∀p∈tb,p.1.line=n1.pos.line->p.1.col=n1.pos.col->p.2=n1.qual)(T:∀p∈tb,p.1.line=n2.pos.line->p.1.col=n2.pos.col->p.2=n2.qual)(ba:n1.i≠n2.i)(hN:X.N.Nodup)(FF:FnOk X.prog X.w X.K X.mg X.base rV kf g gd m (spF X.K (KG X.prog X.w X.K X.mg X.base (k+1) 1) M))(hr:Room kf X.A)(hm:X.mg x=some (.ref g))(hk:PySem.W.keepIn X.K (.ref g)=true)(hb:Binds X.K gd m [])(h3:m.length=3)(he:PD X e f)(zg:∀y,X.fn y=true)(hg:Gl X x:=by rfl)(eu:(x==kb)=false:=by decide)(U:a5 [e,.Name n1.name n,.Name n2.name j] X.env=(false,dz e X.env)::a5 [.Name n1.name n,.Name n2.name j] X.env:=by rfl)(Y:a5 [.Name n1.name n,.Name n2.name j] X.env=(false,dz (.Name n1.name n) X.env)::a5 [.Name n2.name j] X.env:=by rfl)(hs3:a5 [.Name n2.name j] X.env=(false,dz (.Name n2.name j) X.env)::a5 [] X.env:=by rfl)(A8:(cv pos (a5 [.Name n1.name n,.Name n2.name j] X.env)).any (·.1)=false:=by rfl):
  X4 X [n1.stmt,n2.stmt,.Return (some (.Call (.Name x p) [e,.Name n1.name n,.Name n2.name j] [] pos)) rpos] (λρ=>((f ((ρ.set n1.i .no).set n2.i .no)).bind λd1=>(dG n1.js ((ρ.set n1.i .no).set n2.i .no)).bind λw1=>(dG n2.js ((ρ.set n1.i .no).set n2.i .no)).bind λw2=>M d1 (n1.mm w1) (n2.mm w2)).bind λd=>.ok (.rt d)):=by
 rintro Ha O0 o s σ H D I ⟨O,ρ,E,fk,q⟩;refine aDf (zS (σ:=σ) I hB lh hK (E.tab _ l) B.qn Q gu B.eq a.d0 a.k0 B.ann hN a.nm a.lc a.st λJ H1 s1 I1 sm1 md1=>?_);have E1:EnvOk X.K Ha O0 H1 O (σ.set n1.i<|some<|.ref J) (ρ.set n1.i .no):=(E.grow sm1).put n1.i (λz=>z) trivial;refine aDf (zS (σ:=σ.set n1.i (some<|.ref J)) I1 hB lh hK (E1.tab _ l) C.qn mr T C.eq h.d0 h.k0 C.ann hN h.nm h.lc h.st λt H2 s2 I2 u md2=>?_);have L:EnvOk X.K Ha O0 H2 O ((σ.set n1.i<|some<|.ref J).set n2.i (some<|.ref t)) ((ρ.set n1.i .no).set n2.i .no):=(E1.grow u).put n2.i (λz=>z) trivial;have l1:n1.i<σ.length:=by rw[I.len];exact(aAB.mp a.nm).1
 have l2:n2.i<σ.length:=by rw[I.len];exact(aAB.mp h.nm).1
 refine vY (CG<|WF a h B C hA FF hr hm hk hb h3 he zg hg eu U Y hs3 A8) o s2 _ H2 D I2 ⟨Ha,O0,O,_,J,t,L,?_,?_,md1.same u,md2,?_⟩
 .rw[aCy (aCi ba),aBj l1]
 .rw[aBj (by rw[List.length_set];exact l2)]
 .revert q;dsimp only;generalize((f<|(ρ.set n1.i .no).set n2.i .no).bind λd1=>(dG n1.js<|(ρ.set n1.i .no).set n2.i .no).bind λw1=>(dG n2.js<|(ρ.set n1.i .no).set n2.i .no).bind λw2=>M d1 (n1.mm w1) (n2.mm w2))=rr;intro q;cases rr with
  |ok d=>exactλv H' s r=>q v H' (L.same.trans s) (r.sub L.sub)
  |ex z=>exactλH' s=>q H' (L.same.trans s)
  |bad=>exact q
end
def wP (K:ka):Sp:=λc H Q _=>∃(a:bc) (b:List Int),c=[.ref a]/\O5 K H a (b.map V.int)/\b.length<=63/\(∀x∈b,aAW x<=1048576)/\Tb H/\∀d,Q (.bl true) d
def UB {P:bu}{w:cp}{K:ka}{mg:Y1}{base:cq}{k:Nat}{f:bc}{fd:dC}{m:List D->R D}(F:FnOk P w K mg base rV k f fd ["script"] (qj K 1 m))
  (h:∀ns:List Int,ns.length<=63->(∀x∈ns,aAW x<=1048576)->m [.lst (ns.map D.int)]=.ok (.bl true)):FnOk P w K mg base rV k f fd ["script"] (wP K):=
 F.imp<|by rintro j H Q E ⟨a,ns,e,b,c,d,g,q⟩;exact⟨λ_=>False,_,_,by rw[e];exact .cons (.lst b (λz=>z) (Reps.ints ns)) .nil,rfl,λ_ z=>z.elim,g,λ_ _ _ z=>z,h ns c d,λv i _ r=>by cases r;exact q i⟩
def IL {P:bu}{w:cp}{K:ka}{mg mb:Y1}{k:Nat}{fa a:bc}{fd:dC}{c:a9}{vs:List af}{ns:List Int}
  (KX:K.In c.heap) (J:c.heap.Ns bt mg) (i:c.heap.Ns builtinsNs mb) (hbb:∀x:Str,x≠ "__name__"->mb x=dq x) (L:c.heap.NoLimit) (hB:jC mg c.heap) (hg:c.gens=#[])
  (N:c.heap.get? a=some {cls:=.type "list",data:=.seq vs.toArray}) (hi:IntsAre vs ns) (hl:ns.length<=63) (yf:∀x∈ns,aAW x<=1048576) (hr:Room k callerA)
  (hT:∀p∈Tabs.tbs,c.heap.get? p.1=some (PySem.W.tabObj #[])/\isCodeTable c.heap p.1) (hTd:(Tabs.tbs.map (·.1)).Nodup) (hKn:PySem.W.noTabs K=true)
  (F:∀base:cq,K.In base->base.Ns bt mg->jC mg base->FnOk P w K mg base rV k fa fd ["script"] (wP K)) (ye:∀(s:a9) (u:af),BindsTo s fd ⟨[u],[]⟩ [("script",u)]):
  f7 (bo P w) callerA (.call (.ref fa) ⟨[.ref a],[]⟩) (λr s'=>r=.ok (.ret (.bool true))/\OldK c.heap s'.heap/\s'.os=c.os/\AllBare s'.gens) c:=by
 have rv:=L2.aG hi;have O:=hi.length;have ju:ns.length<=sizeLine:=aAw hl (by decide);have C:∀b g,Tabs.tbs.lookup b=some g->c.heap.get? b=some (PySem.W.tabObj #[])/\isCodeTable c.heap b:=λb g e=>hT (b,g) (mem_lookup e);have nta:Tabs.tbs.lookup a=none:=by
  cases e:Tabs.tbs.lookup a with
  |none=>rfl
  |some g=>have:=(C a g e).1;rw[N]at this;cases this
 have noK:∀b o,K.lookup b=some o->Tabs.tbs.lookup b=none:=λb o e=>by
  cases z:Tabs.tbs.lookup b with
  |none=>rfl
  |some g=>have Q:=KX b o e;rw[(C b g z).1]at Q;cases Q;have j:=aBU.mp hKn (b,_) (PySem.W.mem_of_lookupK e);exact absurd (show false=true from j) aAV
 let put:Hp->Hp:=λH b=>match Tabs.tbs.lookup b with
  |some g=>some (.tbl g)
  |none=>H b
 have oU:∀(H:Hp) b g,Tabs.tbs.lookup b=some g->put H b=some (.tbl g):=λH b g e=>by show(match Tabs.tbs.lookup b with|some g=>some (HO.tbl g)|none=>H b)=_;rw[e]
 have E:∀(H:Hp) b,Tabs.tbs.lookup b=none->put H b=H b:=λH b e=>by show(match Tabs.tbs.lookup b with|some g=>some (HO.tbl g)|none=>H b)=_;rw[e]
 have t:∀f:Hp,(∀b,f b=none\/∃Y,f b=some (.frz {cls:=.type "list",data:=.seq vs.toArray} (.lst Y)))->O5 K (put f) a (ns.map V.int)->(∀b u,f b=some u->ObjOk P w (put f) c.heap b u)->(∀b,f b≠none->b=a)->(f a≠none->K.lookup a=none)->
   f7 (bo P w) callerA (.call (.ref fa) ⟨[.ref a],[]⟩) (λr s'=>r=.ok (.ret (.bool true))/\OldK c.heap s'.heap/\s'.os=c.os/\AllBare s'.gens) c:=by
  intro f hO hS T hA hK;have U:aD P w (put f) c.heap:=λb u e=>by
   cases z:Tabs.tbs.lookup b with
   |none=>rw[E _ b z]at e;exact T b u e
   |some g=>rw[oU _ b g z]at e;cases e;exact⟨#[],(C b g z).1,trivial,λp _=>.inl rfl⟩
  have qe:∀{b:bc} {o:Obj},c.heap.get? b=some o->put f b=none->(rE c.heap<|put f).get? b=some o:=λe n=>RA e n;have none_of:∀{b:bc} {o:Obj},c.heap.get? b=some o->o≠PySem.W.tabObj #[]->o≠{cls:=.type "list",data:=.seq vs.toArray}->put f b=none:=λ{b o} e n1 n2=>by
   cases z:Tabs.tbs.lookup b with
   |some g=>have:=(C b g z).1;rw[e]at this;exact absurd (aAl this) n1
   |none=>
    rw[E _ b z];cases q:f b with
    |none=>rfl
    |some u=>have e':b=a:=hA b (by rw[q];simp);subst e';rw[N]at e;exact absurd (aAl e).symm n2
  have l:∀{b:bc} {m:Y1},c.heap.Ns b m->(rE c.heap<|put f).Ns b m:=λ{b m} ⟨o,es,ep,e,d,r⟩=>⟨o,es,ep,qe e (none_of e (λz=>by rw[z]at d;cases d) λz=>by rw[z]at d;cases d),d,r⟩;have hKb:K.In (rE c.heap<|put f):=λb o e=>qe (KX b o e) (by
   rw[E _ b (noK b o e)];cases q:f b with
   |none=>rfl
   |some u=>have e':b=a:=hA b (by rw[q];simp);subst e';rw[hK (by rw[q];simp)]at e;cases e)
  have hBb:jC mg (rE c.heap<|put f):=by obtain⟨bm,ob,b1,b2,b3,b4,b5,b6⟩:=hB;exact⟨bm,ob,b1,b2,qe b3 (none_of b3 (λz=>by rw[z]at b6;cases b6) λz=>by rw[z]at b6;cases b6),b4,b5,b6⟩
  have hM:Mod K mg (rE c.heap<|put f):=⟨hKb,l J,⟨mb,l i,hbb⟩,let⟨mc,y,j⟩:=L;⟨mc,l y,j⟩⟩;have e0:Env0 P w K mg (rE c.heap<|put f) callerA [] c (put f):=⟨rfl,hM,λb o e=>VJ e,aEi (HK _ _),trivial,λb i=>absurd (show b∈([]:List bc)from i) (by simp),U,.of_eq hg⟩;have tb0:Tb (put f):=λp hp=>oU _ p.1 p.2 (aY hTd hp);refine aDt ((F _ hKb (l J) hBb).run callerA [] c (put f) ⟨[.ref a],[]⟩ [.ref a] [.ref a] (λv _=>v=.bl true) (λ_ _ _=>False) hr e0 (ye c<|.ref a) (.cons rfl .nil) ⟨a,ns,rfl,hS,hl,yf,tb0,λ_=>rfl⟩) λr s' h=>?_;cases r with
  |error e=>exact(show False from h).elim
  |ok fl=>
   cases fl with
   |next=>exact aAi h
   |brk=>exact aAi h
   |cont=>exact aAi h
   |ret u=>
    obtain⟨v,H',os,bare,un,A,r',q⟩:=h;have q':v=.bl true:=q;subst q';obtain rfl:u=aDw true:=r';have B:∀b o,c.heap.get? b=some o->s'.heap.get? b=some o\/(isCodeTable c.heap b/\o=PySem.W.tabObj #[]/\∃I,s'.heap.get? b=some (PySem.W.tabObj I)):=λb o e=>by
     cases z:Tabs.tbs.lookup b with
     |some g=>have:=(C b g z).1;rw[e]at this;obtain⟨I,hps,_⟩:=A b _ (un.tbls b g<|oU _ b g z);exact .inr ⟨(C b g z).2,aAl this,I,hps⟩
     |none=>
      refine .inl ?_;rcases hO b with n|⟨Y,n⟩
      .exact un.keep b o e (by rw[E _ b z];exact n) (by intro z;exact absurd (show b∈([]:List bc)from z) (by simp)) (by simp)
      .have z1:put f b=some (.frz {cls:=.type "list",data:=.seq vs.toArray} (.lst Y)):=by rw[E _ b z];exact n
       have z2:=un.frzs b _ _ z1;obtain⟨Q,_⟩:=U b _ z1;obtain⟨e2,_⟩:=A b _ z2;rw[e]at Q;cases Q;exact e2
    refine⟨rfl,⟨λb o e=>?_,λb o e=>?_⟩,os,bare⟩
    .rcases B b o e with h|⟨y,j,I,h3⟩
     .exact .inl h
     .subst j;exact .inr (.inl ⟨y,rfl,#[],I,rfl,by rw[Array.empty_append];exact h3⟩)
    .rcases B b o e with h|⟨y,j,I,h3⟩
     .exact⟨o,h⟩
     .exact⟨_,h3⟩
 cases hk:K.lookup a with
 |some o=>have e:=KX a o hk;rw[N]at e;cases e;refine t (λ_=>none) (λ_=>.inl rfl) (.inr ⟨_,vs.toArray,_,hk,rfl,rfl,rfl,by rw[aAp,O];exact ju,by simpa using rv⟩) (λb u z=>by have z':(none:Option HO)=some u:=z;cases z') (λb z=>absurd rfl z) λz=>absurd rfl z
 |none=>
  obtain⟨f,y,j⟩:∃f:Hp,f a=some (.frz {cls:=.type "list",data:=.seq vs.toArray} (.lst (ns.map V.int)))/\∀b,b≠a->f b=none:=⟨λb=>if b=a then _ else none,ji rfl,λb i=>jn i⟩;refine t f (λb=>?_) (.inl (.inr ⟨{cls:=.type "list",data:=.seq vs.toArray},(E f a nta).trans y⟩)) (λb u z=>?_) (λb z=>?_) λ_=>hk
  .by_cases i:b=a
   .subst i;exact .inr ⟨_,y⟩
   .exact .inl (j b i)
  .by_cases i:b=a
   .subst i;rw[y]at z;cases z;exact⟨N,by rw[aAj];exact ju,vs,_,rv,N⟩
   .rw[j b i]at z;cases z
  .by_cases i:b=a
   .exact i
   .exact absurd (j b i) z
def UC {l:PySem.W.OpenLaw}{k:Nat}{q:bu}{e:List Str}{B:(Str->Option af)->cq->Prop}{y:cp->cq->Prop}{d:DefRec}{K:Params->ka}{z:List bc}
  (C:l.most=some 63) (n:d.params.defaults=[]) (E:Room k callerA)
  (H:∀(w:cp) (h:cq),y w h->(K w.params).In h/\∀P∈z,h.get? P=some (PySem.W.tabObj #[]))
  (r:∀p∈Tabs.tbs,p.1∈z/\∃c,∀w:cp,PySem.W.codeHdIn (K w.params) c p.1=true) (t:(Tabs.tbs.map (·.1)).Nodup) (v:∀w:cp,PySem.W.noTabs (K w.params)=true)
  (F:∀(w:cp) (mg:Y1) (fa:bc) (h:cq),(K w.params).In h->h.Ns bt mg->mg d.name=some (.ref fa)->
   ∃fd:dC,(∀(s:a9) (u:af),BindsTo s fd ⟨[u],[]⟩ [("script",u)])/\
    ∀base:cq,(K w.params).In base->base.Ns bt mg->jC mg base->FnOk l.prog w (K w.params) mg base rV k fa fd ["script"] (wP (K w.params))):
  PySem.W.WalkO q e B y l.row.toRowW d [] (λf vs=>PySem.call f vs):=by
 refine Att2.attach_bits C n λw sa ao mg mb fa o pm cd I a vs ns G Y ho hd gr J j i m L N=>?_;obtain⟨x,O⟩:=H w _ Y;obtain⟨fd,Q,U⟩:=F w mg fa _ x G.T.g J;refine IL x G.T.g G.T.b G.T.builtins G.T.nolimit G.T.bmain N j i m L E (λp hp=>?_) t (v w) U Q;obtain⟨h1,c,h2⟩:=r p hp;have A:=O p.1 h1;exact⟨A,((PySem.W.codeHd_of_K x<|h2 w).tab A).isCodeTable⟩
section
def wj {Y es:List cu}{p:Pos}{env:Env}:a5 (.List Y p::es) env=(false,dz (.List Y p) env)::a5 es env:=rfl
def pj {Y:List cu}{p:Pos}{t:Option cu}{l:Nat}{env:Env}:et (Expr.List Y p) t l env=pure false:=rfl
end
end
end DL
namespace DL
open PySem L2
def bY (G:D->Ev->R Ev)(F:Ev->R Out)(d:D)(ρ:Ev):R Out:=match G d ρ with
 |.ok a=>F a
 |_=>.bad
@[simp]def D8 (i:Nat)(F:Ev->R Out)(d:D)(ρ:Ev):bY (λd ρ=>.ok (ρ.set i (Sl.v d))) F d ρ=F (ρ.set i (.v d)):=rfl
theorem uF (Iv:Ev->Prop):∀{ds:List D} {ρ:Ev},(∀d∈ds,∀ρ,Iv ρ->∃ρ2,bY G F d ρ=.ok (.nx ρ2)/\Iv ρ2)->Iv ρ->∃a,P1 G F ds ρ=.ok (.nx a)/\Iv a
 |[],ρ,_,h=>⟨ρ,rfl,h⟩
 |d::ds,ρ,c,h=>by
  obtain⟨ρ2,e,f⟩:=c d aBg ρ h;obtain⟨a,g,i⟩:=uF Iv (ds:=ds) (ρ:=ρ2) (λd j=>c d (aAe _ j)) f;unfold bY at e;cases b:G d ρ with
  |ok k=>rw[b]at e;exact⟨a,by rw[P1,b];dsimp only at e⊢;rw[e];exact g,i⟩
  |ex x=>rw[b]at e;cases e
  |bad=>rw[b]at e;cases e
def AQ (Iv:Ev->Prop)(b:∀d∈ds,∀ρ,Iv ρ->∃ρ2,bY G F d ρ=.ok (.nx ρ2)/\Iv ρ2)(h0:Iv ρ)(c:∀a,Iv a->M5 (f a)=.ok d):
  M5 (C0 (P1 G F ds ρ) f)=.ok d:=by
 obtain⟨a,e,h⟩:=uF Iv b h0;rw[e];exact c a h
@[simp]def yx (G:D->Ev->R Ev)(F:Ev->R Out)(ρ:Ev):P1 G F [] ρ=.ok (.nx ρ):=rfl
def MC {α:Type}{a b:α}:(R.ok a=R.ok b)=(a=b):=by simp
class Bd (a:Int)(n:outParam Nat):Prop where
 h:bits a<=n
def j9 (h:bits a<=m)(b:m<=n):bits a<=n:=aAw h b
section
end
abbrev vd (v:G.V):D:=.tup [.int v.x,.int v.y,.int v.z]
def Sz (n:Nat)(v:G.V):Prop:=bits v.x<=n/\bits v.y<=n/\bits v.z<=n
def Sz.mono (h:Sz m v)(a:m<=n:=by decide):Sz n v:=⟨j9 h.1 a,j9 h.2.1 a,j9 h.2.2 a⟩
def Sz.sub (h:Sz n u)(h':Sz n v):Sz (n+1) (u-v):=⟨bits_sub h.1 h'.1,bits_sub h.2.1 h'.2.1,bits_sub h.2.2 h'.2.2⟩
def Sz.add (h:Sz n u)(h':Sz n v):Sz (n+1) (u+v):=⟨bits_add h.1 h'.1,bits_add h.2.1 h'.2.1,bits_add h.2.2 h'.2.2⟩
def Sz.cr (h:Sz m u)(h':Sz n v):Sz (m+n+1) (G.cr u v):=⟨bits_sub (bits_mul h.2.1 h'.2.2) (bits_mul h.2.2 h'.2.1),bits_sub (bits_mul h.2.2 h'.1) (bits_mul h.1 h'.2.2),bits_sub (bits_mul h.1 h'.2.1) (bits_mul h.2.1 h'.1)⟩
end DL
namespace M
open PySem L2 DL
abbrev pt (a b c:Int):D:=.tup [.int a,.int b,.int c]
abbrev YH (n:Nat)(a b c:Int):Prop:=bits a<=n/\bits b<=n/\bits c<=n
def JO (k:List D->List D->R D):List D->R D
 |.lst Y::a=>k Y a
 |_=>.bad
def SC (k:List D->List D->R D):List D->R D
 |.tup Y::a=>k Y a
 |_=>.bad
def lV (k:Int->List D->R D):List D->R D
 |.int a::b=>k a b
 |_=>.bad
def C1 {k:Int->List D->R D}{ds:List D}{r:D}(h:lV k ds=.ok r):∃a e,ds=.int a::e/\k a e=.ok r:=by
 unfold lV at h;split at h
 .exact⟨_,_,rfl,h⟩
 .cases h
def fM (q:R D):List D->R D
 |[]=>q
 |_=>.bad
def gP (h:JO k ds=.ok r):∃Y e,ds=.lst Y::e/\k Y e=.ok r:=by
 unfold JO at h;split at h
 .exact⟨_,_,rfl,h⟩
 .cases h
def vI (h:SC k ds=.ok r):∃Y e,ds=.tup Y::e/\k Y e=.ok r:=by
 unfold SC at h;split at h
 .exact⟨_,_,rfl,h⟩
 .cases h
def v5 (h:fM q ds=.ok r):ds=[]/\q=.ok r:=by
 unfold fM at h;split at h
 .exact⟨rfl,h⟩
 .cases h
def v1 (k:Int->Int->Int->List D->R D):List D->R D:=SC λY e=>lV (λa=>lV λb=>lV λc=>fM (k a b c e)) Y
def v4 (k:Int->Int->Int->Int->List D->R D):List D->R D:=SC λY e=>lV (λa=>lV λb=>lV λc=>lV λd=>fM (k a b c d e)) Y
def v3 (k:Int->Int->Int->List D->R D):List D->R D:=SC λY e=>lV (λa=>lV λb=>lV λc _=>k a b c e) Y
def YI (h:v3 k ds=.ok r):∃a b c t e,ds=.tup (.int a::.int b::.int c::t)::e/\k a b c e=.ok r:=by obtain⟨Y,e,rfl,h⟩:=vI h;obtain⟨a,x,rfl,h⟩:=C1 h;obtain⟨b,y,rfl,h⟩:=C1 h;obtain⟨c,z,rfl,h⟩:=C1 h;exact⟨a,b,c,z,e,rfl,h⟩
def F8 (h:v1 k ds=.ok r):∃a b c e,ds=.tup [.int a,.int b,.int c]::e/\k a b c e=.ok r:=by obtain⟨Y,e,rfl,h⟩:=vI h;obtain⟨a,x,rfl,h⟩:=C1 h;obtain⟨b,y,rfl,h⟩:=C1 h;obtain⟨c,z,rfl,h⟩:=C1 h;obtain⟨rfl,h⟩:=v5 h;exact⟨a,b,c,e,rfl,h⟩
def XG (h:v4 k ds=.ok r):∃a b c d e,ds=.tup [.int a,.int b,.int c,.int d]::e/\k a b c d e=.ok r:=by obtain⟨Y,e,rfl,h⟩:=vI h;obtain⟨a,x,rfl,h⟩:=C1 h;obtain⟨b,y,rfl,h⟩:=C1 h;obtain⟨c,z,rfl,h⟩:=C1 h;obtain⟨d,w,rfl,h⟩:=C1 h;obtain⟨rfl,h⟩:=v5 h;exact⟨a,b,c,d,e,rfl,h⟩
def v8:List D->R D:=v1 λa b c=>v1 λd e f=>fM (.ok (pt (d-a) (e-b)<|f-c))
def D9:List D->R D:=v1 λa b c=>v1 λd e f=>fM (if YH 20000000 a b c/\YH 20000000 d e f then .ok (pt (b*f-c*e) (c*d-a*f)<|a*e-b*d)else .bad)
def l5:List D->R D:=v3 λa b c=>v1 λd e f=>fM (if YH 50000000 a b c/\YH 50000000 d e f then .ok (.int (a*d+b*e+c*f))else .bad)
@[simp]def bx (P Q:G.V):v8 [vd P,vd Q]=.ok (vd (Q-P)):=rfl
def jI (a:Sz 20000000 u)(b:Sz 20000000 v):D9 [vd u,vd v]=.ok (vd (G.cr u v)):=ji ⟨a,b⟩
def iP (a:Sz 50000000 u)(b:Sz 50000000 v):l5 [vd u,vd v]=.ok (.int (G.d6 u v)):=ji ⟨a,b⟩
def rule (k:Int):Int:=7*k*k+10*k+3
def dS:List D->R D
 |[d]=>.ok (.bl (aw d))
 |_=>.bad
def P64:Int:=10^64
def P34:Int:=10^34
def a4p:Int:=P64*P34
def sgn (x:Int):Int:=if 0<x then 1 else if x<0 then-1 else 0
def aL:List D->R D:=v4 λa b c d=>v1 λx y z=>fM (if YH 50000000 a b c/\YH 50000000 x y z then .ok (.int (sgn<|a*x+b*y+c*z-d))else .bad)
def TL (e:YH 50000000 a b c)(f:YH 50000000 x y z):aL [.tup [.int a,.int b,.int c,.int d],pt x y z]=.ok (.int (sgn (a*x+b*y+c*z-d))):=ji ⟨e,f⟩
def F6:List D->R D
 |[.int a,.int b]=>.ok (.int (aDT a b))
 |_=>.bad
def NF (a b:Int):aDT b (a.fmod b)=aDT a b:=by rw[Int.fmod_def,Int.gcd_sub_mul_left_right,Int.gcd_comm]
def SV {a b:Int}(h:b≠0):(a.fmod b).natAbs<b.natAbs:=by
 have f:=aEt a b;rcases Int.lt_trichotomy b 0 with z|z|z
 .have g:=f.2.2.2 z;omega
 .exact absurd z h
 .have g:=f.2.2.1 z;omega
def XA (i:Nat)(ρ:Ev):Nat:=match ρ[i]? with
 |some (.v (.int b))=>b.natAbs+2
 |_=>0
def AJ (c:bits a<=n)(d:bits b<=n):bits (aDT a b)<=n:=by
 refine GE ?_;have f:=EU c;have g:=EU d;have e:((aDT a b:Nat):Int).natAbs=aDT a b:=by simp
 rw[e];unfold aDT;rcases Nat.eq_zero_or_pos a.natAbs with z|z
 .rw[z,Nat.gcd_zero_left];exact g
 .exact aBN (Nat.gcd_le_left _ z) f
end M
namespace DL
open PySem PySem.Spec L2
open PyProof.Rows hiding St
theorem aG:∀{ns:List Int} {us:List af},n4 (ns.map V.int) us->IntsAre us ns
 |[],_,.nil=>.nil
 |n::ns,_,.cons r t=>by obtain⟨a,rfl⟩:=r;exact .cons n a (aG t)
section
def pW:List D->Option (List Int)
 |[]=>some []
 |.int i::r=>(pW r).map (i::·)
 |_=>none
theorem sJ:∀{ds:List D} {ns:List Int},pW ds=some ns->ds=ns.map D.int
 |[],ns,h=>by cases h;rfl
 |.int i::r,ns,h=>by simp only[pW,aDj]at h;obtain⟨m,a,rfl⟩:=h;rw[sJ a];rfl
 |.non::_,_,h=>by cases h
 |.bl _::_,_,h=>by cases h
 |.str _::_,_,h=>by cases h
 |.tup _::_,_,h=>by cases h
 |.lst _::_,_,h=>by cases h
 |.dct::_,_,h=>by cases h
theorem yX:∀ns:List Int,pW (ns.map D.int)=some ns
 |[]=>rfl
 |n::ns=>by simp[pW,yX ns]
theorem tJ {K:ka}{H:Hp}{O:bc->Prop}:∀{vs:List V} {ns:List Int},Reps K H O vs (ns.map D.int)->vs=ns.map V.int
 |[],[],_=>rfl
 |v::vs,n::ns,.cons h t=>by cases h;rw[tJ t];rfl
variable [Tabs]in
end
theorem lG (Iv:List D->Ev->Prop)(c:∀d ds ρ,Iv (d::ds) ρ->∃ρ2,bY G F d ρ=.ok (.nx ρ2)/\Iv ds ρ2):∀{ds:List D} {ρ:Ev},Iv ds ρ->∃a,P1 G F ds ρ=.ok (.nx a)/\Iv [] a
 |[],ρ,h=>⟨ρ,rfl,h⟩
 |d::ds,ρ,h=>by
  obtain⟨ρ2,e,f⟩:=c d ds ρ h;obtain⟨a,g,i⟩:=lG Iv c f;unfold bY at e;cases b:G d ρ with
  |ok j=>rw[b]at e;exact⟨a,by rw[P1,b];dsimp only at e⊢;rw[e];exact g,i⟩
  |ex x=>rw[b]at e;cases e
  |bad=>rw[b]at e;cases e
def pL (Iv:List D->Ev->Prop)(b:∀d ds ρ,Iv (d::ds) ρ->∃ρ2,bY G F d ρ=.ok (.nx ρ2)/\Iv ds ρ2)(h0:Iv ds ρ)(c:∀a,Iv [] a->M5 (f a)=.ok d):
  M5 (C0 (P1 G F ds ρ) f)=.ok d:=by
 obtain⟨a,e,h⟩:=lG Iv b h0;rw[e];exact c a h
def xT {Post:Ev->Prop}(Iv:Nat->Ev->Prop)(d:∀n ρ,Iv (n+1) ρ->c ρ=.ok false\/(c ρ=.ok true/\∃ρ2,F ρ=.ok (.nx ρ2)/\Iv n ρ2))(b:∀ρ,¬Iv 0 ρ)(h0:Iv n ρ)(f:∀m a,Iv m a->c a=.ok false->Post a):∃ρ2,T0 c F n ρ=.ok (.nx ρ2)/\Post ρ2:=by obtain⟨m,a,e,h,g⟩:=fW Iv d b n ρ h0;exact⟨a,e,f m a h g⟩
end DL
namespace M
open PySem L2 DL
abbrev xI (n:G.V)(d:Int):D:=.tup [.int n.x,.int n.y,.int n.z,.int d]
def J4:List D->R D:=v1 λa b c=>fM (.ok (.int (G.n6 ⟨a,b,c⟩)))
def CY (v:G.V):J4 [vd v]=.ok (.int (G.n6 v)):=rfl
def Sz3 (P Q R:G.V):Prop:=Sz 1000 P/\Sz 1000 Q/\Sz 1000 R
open Classical in
def S7:List D->R D:=v1 λa b c=>v1 λd e f=>v1 λg h i=>fM (
 if Sz3 ⟨a,b,c⟩ ⟨d,e,f⟩ ⟨g,h,i⟩/\G.cr ((⟨d,e,f⟩:G.V)-⟨a,b,c⟩) ((⟨g,h,i⟩:G.V)-⟨a,b,c⟩)≠0 then .ok (xI (G.d4 ⟨a,b,c⟩ ⟨d,e,f⟩ ⟨g,h,i⟩).1 (G.d4 ⟨a,b,c⟩ ⟨d,e,f⟩ ⟨g,h,i⟩).2)else .bad)
def OA {P Q R:G.V}(h:Sz3 P Q R)(a:G.cr (Q-P) (R-P)≠0):S7 [vd P,vd Q,vd R]=.ok (xI (G.d4 P Q R).1 (G.d4 P Q R).2):=ji ⟨h,a⟩
def uG (h:Sz n v):bits (G.n6 v:Nat)<=n:=by
 have e:((G.n6 v:Nat):Int)=aDT (aDT v.x v.y:Nat) v.z:=by simp[G.n6,aDT]
 rw[e];exact AJ (AJ h.1 h.2.1) h.2.2
def pZ {a g:Int}(h:0<g):a.fdiv g=a/g:=aEL a (aAT h)
end M
namespace DL
open PySem PySem.Spec L2
open PyProof.Rows hiding St
section
variable [Tabs]
mutual
inductive HV (h:Heap):Value->D->Prop
 |int (i:Int) (t:Tok):HV h (.int i t) (.int i)
 |tup {a:Addr} {items:Array Value} {ds:List D} (p:IsTup h a items) (r:HVs h items.toList ds):HV h (.ref a) (.tup ds)
inductive HVs (h:Heap):List Value->List D->Prop
 |nil:HVs h [] []
 |cons {v:Value} {d:D} {vs:List Value} {ds:List D} (r:HV h v d) (t:HVs h vs ds):HVs h (v::vs) (d::ds)
end
mutual
def mL:D->Bool
 |.int _=>true
 |.tup Y=>cA Y
 |_=>false
def cA:List D->Bool
 |[]=>true
 |x::Y=>mL x&&cA Y
end
theorem fZ:∀Y:List D,wX Y=Y.map n9
 |[]=>rfl
 |x::Y=>by rw[wX,fZ Y];rfl
section
mutual
theorem HV.keeps (k:∀b o,h.get? b=some o->o.cls=.type "tuple"->h'.get? b=some o):∀{v:af} {d:D},HV h v d->HV h' v d
 |_,_,.int i t=>.int i t
 |_,_,.tup p r=>.tup (by obtain⟨o,e,c,n,d⟩:=p;exact⟨o,k _ _ e c,c,n,d⟩) (HVs.keeps k r)
theorem HVs.keeps (k:∀b o,h.get? b=some o->o.cls=.type "tuple"->h'.get? b=some o):∀{v:List af} {d:List D},HVs h v d->HVs h' v d
 |_,_,.nil=>.nil
 |_,_,.cons r t=>.cons (HV.keeps k r) (HVs.keeps k t)
end
mutual
theorem HV.inj:∀{v:af} {d d':D},HV h v d->HV h v d'->d=d'
 |_,_,_,.int i t,.int _ _=>rfl
 |_,_,_,.tup p r,.tup f g=>by obtain⟨o,e,c,n,j⟩:=p;obtain⟨k,b,l,m,a⟩:=f;rw[e]at b;cases b;rw[j]at a;injection a with q _;subst q;rw[HVs.inj r g]
theorem HVs.inj:∀{v:List af} {d d':List D},HVs h v d->HVs h v d'->d=d'
 |_,_,_,.nil,.nil=>rfl
 |_,_,_,.cons r t,.cons a b=>by rw[HV.inj r a,HVs.inj t b]
end
theorem HVs.length:∀{v:List af} {d:List D},HVs h v d->v.length=d.length
 |_,_,.nil=>rfl
 |_,_,.cons _ t=>by simp[HVs.length t]
end
section
variable{prog:bu} {w:cp}
def PH (prog:bu)(w:cp)(h:cq)(v:af)(d:D):Prop:=∀(A:cf) (E:C7) (s:a9) (Q:Int->a9->Prop),s.heap=h->A.units+8*E9 d<dA->(∀a,s.toks<=a->Q (n9 d) {s with toks:=a})->bb (bo prog w) A (pyHash v) Q E s
mutual
theorem XZ:∀{v:af} {d:D},HV h v d->PH prog w h v d
 |_,_,.int i t=>λA E s Q I J q=>by exact(intKind prog w).pyHash (k:=i) (intKind_is _ _ _ _) (q _<|Nat.le_succ _)
 |_,_,.tup (a:=a) (items:=items) (ds:=ds) p r=>λA E s Q I J q=>by
  have fs:=OP r;subst I;obtain⟨o,L,O,n,T⟩:=p;have m:s.TypeIs (.ref a) "tuple":=⟨o,L,O⟩;have B:A.units<dA:=by lia
  rw[E9]at J;unfold pyHash;first|unfold pyHashByItsType|skip
  first|refine aAa (wpAny_cRoomFor_or (.inr B) ?_)|skip
  refine aAa (aBz m PySem.F.slot_tuple_hash.lookup ?_);show bb _ _ (if(some (aDy "tuple.__hash__")==some Value.none)=true then _ else _) Q E s;rw[jn (by rw[aFu];exact aAV)];refine aAa (aBz m PySem.F.slot_tuple_hash.lookup ?_);show bb _ _ (callSpecialIfBoundUnlessNone? (.ref a) "__hash__" _>>=_) Q E s;refine aAa (aDo m PySem.F.slot_tuple_hash<|aBy PySem.F.slot_tuple_hash m PySem.F.entry_tuple_hash ?_ (PySem.F.args_tuple_hash_1 _));show bb _ _ (aDA (.ref a)>>=_) _ _ s;refine aAa (wpAny_tupleItemsOf L T ?_);refine aAa ?_;rw[<-aCw];refine aCx _
   (λrest (b:Array Int) C=>∃done left f,ds=done++left/\Paired (PH prog w s.heap) rest left/\b.toList=done.map n9/\s.toks<=f/\C={s with toks:=f})
   _ ?_ ?_ _ _ ⟨[],ds,s.toks,rfl,fs,rfl,aAh _,rfl⟩
  .rintro x rest b C ⟨done,left,f,g,H,u,U,rfl⟩;cases H with
   |@cons _ d _ c Y N=>
    refine aAa (Y _ _ _ _ rfl ?_ λy e=>?_)
    .have:E9 d<=A3 ds:=by rw[g];exact nI (j:=done.length) (by simp)
     rw[o8];lia
    first
     |exact aAb ⟨done++[d],c,y,by simp[g],N,by simp[u],by(have:f<=y:=e);lia,rfl⟩
     |exact aAa (aAb (aAb ⟨done++[d],c,y,by simp[g],N,by simp[u],by(have:f<=y:=e;lia),rfl⟩))
  .rintro b C ⟨done,left,f,g,H,u,U,rfl⟩;cases H;rw[aBG]at g;subst g;show bb _ _ (retInt<|aAN b.toList) _ _ _;rw[u];refine wpAny_ret_mkInt ?_;show bb _ _ (if(decide (-(2:Int)^63<=aAN (ds.map n9))&&decide (aAN (ds.map n9)<2^63))=true then _ else _) Q E _;have l:=q (f+1) (by lia);rw[n9,fZ]at l;unfold reduceHash at l;by_cases z:(decide (-(2:Int)^63<=aAN (ds.map n9))&&decide (aAN (ds.map n9)<2^63))=true
   .rw[ji z];rw[ji z]at l;exact aAb l
   .rw[jn z];rw[jn z]at l;exact aAa (aDi<|aAb l)
theorem OP:∀{v:List af} {d:List D},HVs h v d->Paired (PH prog w h) v d
 |_,_,.nil=>.nil
 |_,_,.cons r t=>.cons (XZ r) (OP t)
end
mutual
theorem FR:∀{v u:af} {d e:D} {A:cf},HV s.heap v d->HV s.heap u e->A.units+E9 d<dA->SeqAt.EqAt A s v u (u7 d e)
 |_,_,_,_,A,.int i t,.int j g,_=>by simp only[u7];exact aET _ _ _ _
 |_,_,_,_,A,.int i t,.tup p r,b=>by simp only[u7];exact aFO _ _ p (by lia)
 |_,_,_,_,A,.tup p r,.int j g,b=>by simp only[u7];exact aFP _ _ p (by lia)
 |_,_,_,_,A,.tup (a:=a) (ds:=ds) p r,.tup (a:=h) (ds:=k) f c,b=>by
  by_cases e:a=h
  .subst e;have:=HV.inj (.tup p r) (.tup f c);rw[this,N7];exact aDS _
  .simp only[u7];rw[E9]at b;exact aEU e (kL (by simpa using p) (by simpa using f) r.length c.length (by lia) (MP r c (by rw[o8];lia))).1
theorem MP:∀{vs us:List af} {ds es:List D} {A:cf},HVs s.heap vs ds->HVs s.heap us es->A.in1.units+A3 ds<dA->nQ A s vs us ds es
 |_,_,_,_,A,.nil,_,_=>λj u w a b=>by simp at a
 |_,_,_,_,A,.cons r t,.nil,_=>λj u w a b=>by simp at b
 |_,_,_,_,A,.cons (d:=d) (ds:=ds) r t,.cons (d:=g) (ds:=h) c e,f=>λj u w a b=>by
  rw[A3]at f;match j,a,b with
  |0,a,b=>simp only[aDc,aGi]at a b;subst a b;exact FR r c (by lia)
  |j+1,a,b=>simp only[aFo]at a b;exact MP t e (by lia) j u w a b
end
mutual
theorem eJ:∀{d e:D},mL d=true->mL e=true->u7 d e=true->d=e
 |.int i,.int j,_,_,h=>by simp[u7]at h;rw[h]
 |.tup Y,.tup c,a,b,h=>by rw[mL]at a b;rw[u7]at h;rw[xP a b h]
 |.int _,.tup _,_,_,h=>by simp[u7]at h
 |.tup _,.int _,_,_,h=>by simp[u7]at h
 |.non,_,h,_,_=>by simp[mL]at h
 |.bl _,_,h,_,_=>by simp[mL]at h
 |.str _,_,h,_,_=>by simp[mL]at h
 |.lst _,_,h,_,_=>by simp[mL]at h
 |_,.non,_,h,_=>by simp[mL]at h
 |_,.bl _,_,h,_=>by simp[mL]at h
 |_,.str _,_,h,_=>by simp[mL]at h
 |_,.lst _,_,h,_=>by simp[mL]at h
theorem xP:∀{d e:List D},cA d=true->cA e=true->Z9 d e=true->d=e
 |[],[],_,_,_=>rfl
 |[],_::_,_,_,h=>by simp[Z9]at h
 |_::_,[],_,_,h=>by simp[Z9]at h
 |x::Y,y::c,a,b,h=>by rw[cA,aAJ]at a b;rw[Z9,aAJ]at h;rw[eJ a.1 b.1 h.1,xP a.2 b.2 h.2]
end
mutual
theorem HV.ok:∀{v:af} {d:D},HV h v d->mL d=true
 |_,_,.int i t=>rfl
 |_,_,.tup p r=>by rw[mL];exact HVs.ok r
theorem HVs.ok:∀{v:List af} {d:List D},HVs h v d->cA d=true
 |_,_,.nil=>rfl
 |_,_,.cons r t=>by rw[cA,HV.ok r,HVs.ok t];rfl
end
mutual
theorem iM:∀{v:af} {d:D} (k:Nat),HV h v d->E9 d<k->∀(M:je) (A:cf) (E:C7) (s:a9) (Q:xG),s.heap=h->Q true s->bb M A (eqIsQuiet k v) Q E s
 |_,_,k,.int i t,_=>λM A E s Q l q=>by unfold eqIsQuiet;exact aAb q
 |_,_,k,.tup (a:=a) (items:=items) (ds:=ds) p r,c=>λM A E s Q l q=>by
  subst l;obtain⟨o,m,x,n,y⟩:=p;have u:s.TypeIs (.ref a) "tuple":=⟨o,m,x⟩;match k,c with
  |k+1,c=>
   rw[E9]at c;unfold eqIsQuiet;refine aAa (aBz u PySem.F.slot_tuple_eq.lookup ?_);show bb _ _ (isInstance (.ref a) (.type "tuple")>>=_) _ _ s;refine aAa (aDG u isSubtype_tuple_tuple ?_);simp only[aCz,aAn,if_false];refine aAa (aBR m y ?_);refine aAa ?_;show bb _ _ (forIn items _ _) _ _ s;rw[<-aCw];refine aCx _ (λrest r b=>r.1=none/\b=s/\∃e,HVs s.heap rest e/\A3 e<k) _ ?_ ?_ _ _ ⟨rfl,rfl,ds,r,by lia⟩
   .rintro v rest r b ⟨f,rfl,e,g,j⟩;cases g with
    |@cons _ d _ z g B=>rw[A3]at j;refine aAa (iM k g (by lia) M A E b _ rfl ?_);simp only[aCz,aAn,if_false];exact aAb ⟨rfl,rfl,z,B,by lia⟩
   .rintro⟨C,H⟩ b ⟨f,rfl,_⟩;simp only at f;subst f;exact aAb q
end
mutual
theorem gM:∀{v:af} {d:D} (k:Nat),HV h v d->E9 d<k->∀(M:je) (A:cf) (E:C7) (s:a9) (Q:xG),s.heap=h->Q false s->bb M A (ofAClassStatement k v) Q E s
 |_,_,k,.int i t,_=>λM A E s Q l q=>by unfold ofAClassStatement;exact aAb q
 |_,_,k,.tup (a:=a) (items:=items) (ds:=ds) p r,c=>λM A E s Q l q=>by
  subst l;obtain⟨o,m,u,n,x⟩:=p;have y:s.TypeIs (.ref a) "tuple":=⟨o,m,u⟩;match k,c with
  |k+1,c=>
   rw[E9]at c;unfold ofAClassStatement;refine aAa (aDI y ?_);dsimp only;rw[ji (by decide)];refine aAa (aAb ?_);simp only[aCz,aAn,if_false];refine aAa (aBR m x ?_);dsimp only;refine aAa ?_;show bb _ _ (forIn items _ _) _ _ s;rw[<-aCw];refine aCx _ (λrest r b=>r.1=none/\b=s/\∃e,HVs s.heap rest e/\A3 e<k) _ ?_ ?_ _ _ ⟨rfl,rfl,ds,r,by lia⟩
   .rintro v rest r b ⟨f,rfl,e,g,j⟩;cases g with
    |@cons _ d _ z g B=>rw[A3]at j;refine aAa (gM k g (by lia) M A E b _ rfl ?_);simp only[aAn,if_false];exact aAb ⟨rfl,rfl,z,B,by lia⟩
   .rintro⟨C,H⟩ b ⟨f,rfl,_⟩;simp only at f;subst f;exact aAb q
end
mutual
theorem oT:∀{v:af} {d:D} (k:Nat),HV h v d->E9 d<k->∀(M:je) (A:cf) (E:C7) (s:a9) (Q:xG),s.heap=h->Q true s->bb M A (hashByValue k v) Q E s
 |_,_,k,.int i t,_=>λM A E s Q l q=>by unfold hashByValue;exact aAb q
 |_,_,k,.tup (a:=a) (items:=items) (ds:=ds) p r,c=>λM A E s Q l q=>by
  subst l;obtain⟨o,m,u,n,x⟩:=p;have y:s.TypeIs (.ref a) "tuple":=⟨o,m,u⟩;match k,c with
  |k+1,c=>
   rw[E9]at c;unfold hashByValue;refine aAa (aBz y PySem.F.slot_tuple_hash.lookup ?_);dsimp only;refine aAa (aBR m x ?_);refine aAa ?_;show bb _ _ (forIn items _ _) _ _ s;rw[<-aCw];refine aCx _ (λrest r b=>r.1=none/\b=s/\∃e,HVs s.heap rest e/\A3 e<k) _ ?_ ?_ _ _ ⟨rfl,rfl,ds,r,by lia⟩
   .rintro v rest r b ⟨f,rfl,e,g,j⟩;cases g with
    |@cons _ d _ z g B=>rw[A3]at j;refine aAa (oT k g (by lia) M A E b _ rfl ?_);simp only[aCz,aAn,if_false];exact aAb ⟨rfl,rfl,z,B,by lia⟩
   .rintro⟨C,H⟩ b ⟨f,rfl,_⟩;simp only at f;subst f;exact aAb q
end
def kT {α:Type}{M:je}{A:cf}{E:C7}{s:a9}{Q:α->a9->Prop}{c:Prop}[Decidable c]{a b:Sem α}(d:c->bb M A a Q E s)(e:¬c->bb M A b Q E s):bb M A (if c then a else b) Q E s:=by
 by_cases h:c
 .rw[ji h];exact d h
 .rw[jn h];exact e h
def ZW {M:je}{A:cf}{E:C7}{s:a9}{Q:xG}{x:af}{d:D}(j:HV s.heap x d)(k:E9 d<8)(c:List af)(m:∀y∈c,∃e,HV s.heap y e/\E9 e<8)(q:Q false s):bb M A (searchCouldBeSeen x c) Q E s:=by
 unfold searchCouldBeSeen;refine aAa ?_;refine aCx _ (λrest r a=>r.1=none/\a=s/\∀y∈rest,y∈c) _ ?_ ?_ _ _ ⟨rfl,rfl,λy h=>h⟩
 .rintro y rest r a ⟨f,rfl,g⟩;obtain⟨e,l,b⟩:=m y (g y (by simp));dsimp only;refine kT (λ_=>?_) (λ_=>?_)
  .exact aAb ⟨rfl,rfl,λz i=>g z (aAe _ i)⟩
  .refine aAa (iM 8 j k M A E a _ rfl ?_);simp only[aCz,aAn,if_false];refine aAa (iM 8 l b M A E a _ rfl ?_);simp only[aCz,aAn,if_false];refine aAa (gM 8 j k M A E a _ rfl ?_);simp only[aAn,if_false];refine aAa (gM 8 l b M A E a _ rfl ?_);simp only[aAn,if_false];exact aAb ⟨rfl,rfl,λz i=>g z (aAe _ i)⟩
 .rintro⟨n,o⟩ a ⟨f,rfl,_⟩;simp only at f;subst f;exact aAb q
end
def EV (h:cq)(e:Int×af)(d:D):Prop:=HV h e.2 d/\e.1=n9 d
theorem G9 {α β:Type}{F:α->β->Prop}:∀{l:List α} {m:List β} {i:Nat} {a:α},Paired F l m->l[i]?=some a->∃b,m[i]?=some b/\F a b
 |_,_,_,_,.nil,h=>by simp at h
 |_,_,0,_,.cons r _,h=>by simp at h;subst h;exact⟨_,rfl,r⟩
 |_,_,i+1,a,.cons _ t,h=>by obtain⟨b,c,d⟩:=G9 (i:=i) t (by simpa using h);exact⟨b,by simpa using c,d⟩
theorem cQ {α β:Type}{F:α->β->Prop}:∀{l:List α} {m:List β} {i:Nat} {b:β},Paired F l m->m[i]?=some b->∃a,l[i]?=some a/\F a b
 |_,_,_,_,.nil,h=>by simp at h
 |_,_,0,_,.cons r _,h=>by simp at h;subst h;exact⟨_,rfl,r⟩
 |_,_,i+1,a,.cons _ t,h=>by obtain⟨b,c,d⟩:=cQ (i:=i) t (by simpa using h);exact⟨b,by simpa using c,d⟩
theorem gK {α β:Type}{F:α->β->Prop}:∀{l:List α} {m:List β},Paired F l m->l.length=m.length
 |_,_,.nil=>rfl
 |_,_,.cons _ t=>by simp[gK t]
section
variable{es:Array (Int×af)}
def jL (K:ST.SOk t es.toList):t.fits es.size=true:=by
 have a:=K.len;have c:=K.room;have b:=K.tab.nod;unfold aGe SetTable.fill;rw[b];simp at a⊢
 lia
theorem mC (ho:s.heap.get? S=some o)(hd:o.data=.set es ep t)(K:ST.SOk t es.toList)(B:t.mask%2=1)(P:Paired (EV s.heap) es.toList ds)(O:HV s.heap (.ref x) (.tup Y))(C:E9 (.tup Y)<8)(zh:∀e∈ds,E9 e<8)(hT:∀e∈ds,∃H,e=.tup H)
  (hu:A.units+16<dA) (hf:ST.U8 t (n9 (.tup Y)) n0) {Q:SetFound->a9->Prop} (f:D.tup Y∈ds->Q (.there none) s) (b:D.tup Y∉ds->Q (.free (ST.m7 t.mask (n9 (.tup Y)) n0).j false) s):
  ∀(a n:Nat) (T:Option SetTable.Probe),T.getD (t.probeStart (n9 (.tup Y)))=ST.m7 t.mask (n9 (.tup Y)) n->n<=n0->n0-n<a->
   (∀m<n,∀(i:Nat),t.place[i]?=some (ST.m7 t.mask (n9 (.tup Y)) m).j->ds[i]?≠some (.tup Y))->bb (bo prog w) A (setSearchFrom S (.ref x) (n9 (.tup Y)) true a T) Q E s
 |0,n,T,_,_,h,_=>by lia
 |a+1,n,T,kl,hn,hfu,I=>by
  unfold setSearchFrom;refine aAa (aCk ho hd (jL K) ?_);dsimp only;refine kT (λz=>?_) (λ_=>?_)
  .unfold SetTable.gaveWay at z;simp at z;lia
  rw[kl];obtain⟨U,a1,a2,a3,a4⟩:=ST.MR K.tab (λi=>(es[i]?.map (·.1)).getD 0) (n9<|.tup Y) hf n hn;generalize hg:t.probe _ (n9<|.tup Y) (ST.m7 t.mask (n9<|.tup Y) n)=pm;rcases a4 with⟨en,e⟩|⟨bg,i,u,hh,e⟩
  .have ep:pm=_:=hg.symm.trans e;rw[ep];dsimp only;refine aAb (b λJ=>?_);obtain⟨i,u⟩:=aBW.mp J;obtain⟨⟨L,v⟩,he,h1,h2⟩:=cQ P u;obtain⟨j,hj,ui⟩:=ST.WK K.len he;dsimp only at h2;have hr:=K.reach _ ui;dsimp only at hr;rw[h2]at hr;obtain⟨m,J,em⟩:=ST.Reach.before hf (by rw[<-aAC]at hj;exact aAm hj) hr;by_cases z:m<n
   .exact I m z i (by rw[em];exact hj) u
   .obtain⟨d,ip,ba⟩:=a3 m (by lia) (by lia);have:d=i:=by have f:=ST.L7 K.tab ip;have b:=ST.L7 K.tab hj;rw[em]at f;rw[f]at b;injection b
    subst this;refine ba ?_;show(es[d]?.map (·.1)).getD 0=_;rw[<-aAC,he];exact h2
  .have ep:pm=_:=hg.symm.trans e;rw[ep];dsimp only;have N:i<es.size:=by
    have:=(aCh.mp u).1;have h1:=K.len;simp at h1
    lia
   have g:es[i]?=some es[i]:=aAH N;obtain⟨di,c,L,l⟩:=G9 P (show es.toList[i]?=some es[i]by rw[aAC];exact g);obtain⟨H,rfl⟩:=hT di (aAm c);have go:bb (bo prog w) A (do
     let some (_,y):=es[i]?|unsupported "internal:set-entry"
     let equal<-i3 [y] (eqBool y<|.ref x)
     let(es',_,t')<-setState S
     if true&&equal then return .there none
     let some same:=t'.sameMemory t.moves t.mask|unsupported "set.changed-during-lookup:is-the-new-block-at-the-old-address"
     let XF<-match(if same then t'.slot (ST.m7 t.mask (n9<|.tup Y) U).j else .empty)with
      |.live d=>match es'[d]? with
       |some (_,y')=>do pure (if<-isSame y' y then some d else none)
       |none=>pure none
      |_=>pure none
     match XF with
     |none=>rule "set.search.anew";setSearchFrom S (.ref x) (n9<|.tup Y) true a none
     |some d=>if equal then return .there (some d)else setSearchFrom S (.ref x) (n9<|.tup Y) true a (some<|ST.m7 t.mask (n9<|.tup Y)<|U+1)) Q E s:=by
    rw[g];generalize he:es[i]=en at*
    obtain⟨hn,y⟩:=en;dsimp only at L l⊢;refine aAa (aAP (FR L O (by have:=zh _ (aAm c);lia) prog w E _ ?_));refine aAa (aCk ho hd (jL K) ?_);dsimp only;cases hq:u7 (.tup H) (.tup Y)with
    |true=>rw[ji (show(true&&true)=true from rfl)];have:D.tup H=.tup Y:=eJ L.ok O.ok hq;rw[this]at c;exact aAb (f<|aAm c)
    |false=>
     rw[jn (by simp)];have hsm:t.sameMemory t.moves t.mask=some true:=by unfold SetTable.sameMemory;rw[ji (by simp)]
     rw[hsm];dsimp only;rw[ji rfl,ST.L7 K.tab u];dsimp only;rw[g];dsimp only;cases L with
     |tup p r=>
      refine aAa (wpAny_isSame_ref_self ?_);refine aAa (aAb ?_);rw[ji rfl];dsimp only;rw[jn (by simp)];refine mC ho hd K B P O C zh hT hu hf f b a (U+1) _ rfl (by lia) (by lia) λm J i2 q hz=>?_;by_cases z:m<n
      .exact I m z i2 q hz
      .by_cases z2:m=U
       .subst z2;have:i2=i:=by have f:=ST.L7 K.tab q;have b:=ST.L7 K.tab u;rw[f]at b;injection b
        subst this;rw[c]at hz;have:D.tup H=.tup Y:=aAl hz;rw[this,N7]at hq;cases hq
       .obtain⟨d,ip,ba⟩:=a3 m (by lia) (by lia);have:d=i2:=by have f:=ST.L7 K.tab ip;have b:=ST.L7 K.tab q;rw[f]at b;injection b
        subst this;obtain⟨⟨h0,v0⟩,he0,hv0,hh0⟩:=cQ P hz;refine ba ?_;show(es[d]?.map (·.1)).getD 0=_;rw[<-aAC,he0];exact hh0
   refine kT (λ_=>?_) (λ_=>go);refine aAa (ZW O C _ (λy hy=>?_) ?_)
   .obtain⟨e',zc,rfl⟩:=aAo.mp hy;rw[Array.toList_filter]at zc;have J:=(aBQ.mp zc).1;obtain⟨k,hk⟩:=aBW.mp J;obtain⟨dk,hdk,hvk,_⟩:=G9 P hk;exact⟨dk,hvk,zh _ (aAm hdk)⟩
   .rw[jn (by simp)];exact go
def uM (m n:Nat):Prop:=(m=7/\n<=4)\/(m=31/\n<=18)\/(m=127/\n<=76)
def uM.odd (h:uM m n):m%2=1:=by rcases h with⟨rfl,_⟩|⟨rfl,_⟩|⟨rfl,_⟩<;>rfl
def Keeps (h0 h:cq):Prop:=∀b o,h0.get? b=some o->h.get? b=some o
structure SetAt (L:Bool)(h0 h:Heap)(S:Addr)(ds:List D):Prop where
 ex:∃(o:Obj) (es:Array (Int×Value)) (ep:Nat) (t:SetTable),h.get? S=some o/\o.cls=.type "set"/\o.dict=none/\o.slots=#[]/\o.data=.set es ep t/\ST.SOk t es.toList/\uM t.mask es.size/\Paired (EV h0) es.toList ds/\t.led=L/\t.plain=true
 nd:ds.Nodup
def cJ {α β:Type}{F:α->β->Prop}:∀{l b:List α} {m:List β},b.Perm l->Paired F l m->∃a,a.Perm m/\Paired F b a:=λ{l b m} p=>by
 induction p generalizing m with
 |nil=>intro h;exact⟨m,.refl _,h⟩
 |cons x _ e=>
  intro h;cases h with
  |cons r t=>obtain⟨a,f,g⟩:=e t;exact⟨_::a,f.cons _,.cons r g⟩
 |swap x y l=>
  intro h;cases h with
  |cons r t=>
   cases t with
   |cons i j=>exact⟨_,.swap _ _ _,.cons i (.cons r j)⟩
 |trans _ _ c d=>intro h;obtain⟨u,k,n⟩:=d h;obtain⟨o,q,s⟩:=c n;exact⟨o,q.trans k,s⟩
theorem dP {α β:Type}{F G:α->β->Prop}(i:∀a b,F a b->G a b):∀{l:List α} {m:List β},Paired F l m->Paired G l m
 |_,_,.nil=>.nil
 |_,_,.cons r t=>.cons (i _ _ r) (dP i t)
theorem pH {α β:Type}{F:α->β->Prop}{a:α}{b:β}(r:F a b):∀{l:List α} {m:List β} (p:Nat),Paired F l m->Paired F (l.take p++a::l.drop p) (m.take p++b::m.drop p)
 |_,_,0,h=>.cons r h
 |_,_,p+1,.nil=>.cons r .nil
 |_,_,p+1,.cons c t=>.cons c (pH r p t)
def QG {α:Type}(a:α)(l:List α)(p:Nat):(l.take p++a::l.drop p).Perm (a::l):=by have h:=List.perm_middle (a:=a) (l₁:=l.take p) (l₂:=l.drop p);rw[aFB]at h;exact h
def xQ {α β:Type}{M:je}{Q:α->a9->Prop}{c:Prop}[Decidable c]{a:Sem β}{k:β->Sem α}(b:β)(e:∀d:β->a9->Prop,d b s->bb M A a d E s)(h:bb M A (k b) Q E s):bb M A (if c then a>>=k else pure b>>=k) Q E s:=
 kT (λ_=>aAa (e _ h)) (λ_=>aAa (aAb h))
def lW (h:cq)(S:bc)(f:Obj->Obj):Heap.SameBut S h (h.update S f):=⟨by simp[Heap.size_update],λb a=>aAD _ _ (aCi a)⟩
def uC {h:cq}{S:bc}{o:Obj}{es es':Array (Int×af)}{ep:Nat}{t t':fh}(b:h.get? S=some o)(a:o.data=.set es ep t):(h.update S (aEu es' t')).get? S=some {o with data:=.set es' (ep+1) t'}:=by
 have e:aEu es' t' o={o with data:=.set es' (ep+1) t'}:=by obtain⟨c,d,f,g⟩:=o;cases f<;>simp at a;obtain⟨rfl,rfl,rfl⟩:=a;rfl
 rw[aBs _ b (by rw[e];rfl),e]
def cx {L:Bool}{h0:cq}{Q:xG}(hS:SetAt L h0 s.heap S ds)(kp:Keeps h0 s.heap)(B:HV h0 (.ref x) (.tup Y))(C:E9 (.tup Y)<8)(zh:∀e∈ds,E9 e<8)(hT:∀e∈ds,∃ys,e=.tup ys)(hu:A.units+128<dA)(hn:ds.length<76)
  (q1:D.tup Y∈ds->∀tk,s.toks<=tk->Q false {s with toks:=tk})
  (q2:D.tup Y∉ds->∀h' tk de,s.toks<=tk->Heap.SameBut S s.heap h'->SetAt L h0 h' S de->de.Perm (.tup Y::ds)->Q true {s with heap:=h',toks:=tk}):bb (bo prog w) A (setAdd S (.ref x)) Q E s:=by
 obtain⟨⟨o,es,ep,t,H,hc,l,I,J,K,mk,P0,lp0⟩,nd⟩:=hS;have hx:HV s.heap (.ref x) (.tup Y):=B.keeps λb o e _=>kp b o e;have P:Paired (EV s.heap) es.toList ds:=dP (λe d r=>⟨r.1.keeps λb o e _=>kp b o e,r.2⟩) P0;have jf:es.size=ds.length:=by have:=gK P;simpa using this
 unfold setAdd;refine aAP (aAa (XZ hx A E s _ rfl (by lia) λtk yg=>?_));unfold setAddHashed setAddHashedIn;refine aAP (aAa<|aCk (s:={s with toks:=tk}) H J (jL K) ?_);dsimp only;rw[show byScan (.ref x) es=false from rfl];simp only[aAn,if_false];obtain⟨n0,hf⟩:=ST.BH K.full K.room (n9<|.tup Y);refine aAa (mC (s:={s with toks:=tk}) (n0:=n0) H J K mk.odd P hx C zh hT (by lia) hf (λn=>?_) (λn=>?_) 100000 0 none rfl (aBe _) ?_ (λm n=>by lia))
 .dsimp only;exact aAb (q1 n tk yg)
 .dsimp only;refine aAa (aCk (s:={s with toks:=tk}) H J (jL K) ?_);dsimp only;refine xQ true (λU q=>oT 8 hx C _ _ _ _ _ rfl q) ?_;rw[ji rfl];have qu:t.place.size+1<=t.mask:=by have:=K.len;simp at this;rcases mk with⟨a,i⟩|⟨a,i⟩|⟨a,i⟩<;>lia
  have p:=ST.oq K (x:=.ref x) hf qu;have el:=ST.fP es (t.put (ST.m7 t.mask (n9<|.tup Y) n0).j).2 (n9 (.tup Y),aCV x);have lp:(t.put (ST.m7 t.mask (n9<|.tup Y) n0).j).1.led=L/\(t.put (ST.m7 t.mask (n9<|.tup Y) n0).j).1.plain=true:=lp0;have em:(t.put (ST.m7 t.mask (n9<|.tup Y) n0).j).1.mask=t.mask:=rfl;rw[<-el]at p;have N:Paired (EV h0) (aGl es (t.put (ST.m7 t.mask (n9<|.tup Y) n0).j).2 (n9 (.tup Y),aCV x)).toList (ds.take (t.put (ST.m7 t.mask (n9<|.tup Y) n0).j).2++.tup Y::ds.drop (t.put (ST.m7 t.mask (n9<|.tup Y) n0).j).2):=by rw[el];exact pH ⟨B,rfl⟩ _ P0
  have O:=QG (D.tup Y) ds (t.put (ST.m7 t.mask (n9<|.tup Y) n0).j).2;generalize hds2:ds.take (t.put (ST.m7 t.mask (n9<|.tup Y) n0).j).2++.tup Y::ds.drop (t.put (ST.m7 t.mask (n9<|.tup Y) n0).j).2=uc at N O;generalize hes2:aGl es (t.put (ST.m7 t.mask (n9<|.tup Y) n0).j).2 (n9 (.tup Y),aCV x)=g at p N⊢;generalize ht2:(t.put (ST.m7 t.mask (n9<|.tup Y) n0).j).1=f at p em lp⊢;have vm:uc.Nodup:=O.nodup_iff.mpr (aAR.mpr ⟨n,nd⟩);have h:g.size=es.size+1:=by
   have h1:=gK N;have h2:=O.length_eq;simp at h1 h2
   lia
  have gi:g.size<=sizeLine:=by rw[h,aFm];lia
  refine aAa (wpAny_storeSet_of (s:={s with toks:=tk}) H J ?_ gi);have mo:=uC (es':=g) (t':=f) H J;have T:=lW s.heap S (aEu g f);have k:f.fill=g.size:=by have h1:=p.len;have h2:=p.tab.nod;unfold SetTable.fill;rw[h2];simp at h1⊢;lia
  refine kT (λyh=>?_) (λyh=>?_)
  .
   have um:f.fill*5>=f.mask*3:=by
    have:f.tooFull=true:=by simpa using yh
    simpa[aGp]using this
   rw[k,em,h]at um;obtain⟨M,hM,hM1,u⟩:∃M,SetTable.sizeAbove (SetTable.grown<|es.size+1)=M+1/\ST.mQ (M+1)/\uM M (es.size+1):=by
    rcases mk with⟨a,i⟩|⟨a,i⟩|⟨a,i⟩
    .have:es.size=4:=by lia
     rw[this];exact⟨31,by decide,ST.ZS,.inr (.inl ⟨rfl,by lia⟩)⟩
    .have:es.size=18:=by lia
     rw[this];exact⟨127,by decide,ST.WX,.inr (.inr ⟨rfl,by lia⟩)⟩
    .lia
   unfold setRelay;refine aAa (aAa<|aCk (s:={s with heap:=s.heap.update S (aEu g f),toks:=tk}) mo rfl (jL p) ?_);dsimp only;rw[hM];refine kT (λz=>?_) (λ_=>?_)
   .exfalso;rcases u with⟨a,_⟩|⟨a,_⟩|⟨a,_⟩<;>(subst a;exact absurd z (by rw[aFm];decide))
   obtain⟨y,c,r1,r2,r3,r4,r5,r6,r7,r8,r9⟩:=ST.QX (finger:=f.finger) (moves:=f.movedTo M) (led:=f.led) (plain:=f.plain) hM1 g (by rw[h];rcases u with⟨a,i⟩|⟨a,i⟩|⟨a,i⟩<;>lia);have er:f.relaid (g.map (·.1)) (SetTable.grown<|es.size+1)=some (y,c):=by unfold SetTable.relaid;rw[hM];exact r1
   rw[er];have hre:∀{U:Array (Int×af)×fh->a9->Prop} {s':a9},U (c.filterMap (g[·]?),y) s'->bb (bo prog w) A (do
     let es':=c.filterMap (g[·]?)
     if es'.size !=g.size then unsupported "internal:set-table-lost-an-element"
     pure (es',y)) U E s':=λ{U s'} qq=>by
    dsimp only;rw[jn (by simp[r2])];exact aAb qq
   refine aAa (hre ?_);dsimp only;generalize hes3:c.filterMap (g[·]?)=v at r2 r3 r4⊢;refine wpAny_storeSet_of (s:={s with heap:=s.heap.update S (aEu g f),toks:=tk}) mo rfl ?_ (by rw[r2];exact gi);refine aAb ?_;have ho3:=uC (es':=v) (t':=y) mo rfl;have sb3:=lW (s.heap.update S<|aEu g f) S (aEu v y);obtain⟨ds3,p3,P5⟩:=cJ r3 N;exact q2 n _ tk ds3 yg (T.trans sb3) ⟨⟨_,v,_,y,ho3,hc,l,I,rfl,r4,by rw[r5,r2,h];exact u,P5,by rw[r7];exact lp.1,by rw[r8];exact lp.2⟩,p3.nodup_iff.mpr vm⟩ (p3.trans O)
  .refine aAb ?_;refine q2 n _ tk uc yg T ⟨⟨_,g,_,f,mo,hc,l,I,rfl,p,?_,N,lp⟩,vm⟩ O;have um:¬f.fill*5>=f.mask*3:=λz=>yh (by simp[aGp,z]);rw[k,em,h]at um;rw[em,h];rcases mk with⟨a,i⟩|⟨a,i⟩|⟨a,i⟩
   .exact .inl ⟨a,by lia⟩
   .exact .inr (.inl ⟨a,by lia⟩)
   .exact .inr (.inr ⟨a,by lia⟩)
 .have:=hf.1;have n:t.mask<=127:=by rcases mk with⟨a,_⟩|⟨a,_⟩|⟨a,_⟩<;>lia
  lia
end
section
variable{prog:bu} {w:cp} {A:cf} {R:Result->a9->Prop} {I:bc} {fp wr:List bc} {G:Array GenState->Array GenState->Prop} {n:Nat} {P:Nat->af->Prop} {St:Nat->a9->Prop} {h0:cq}
def UD (h0:cq)(v:af)(d:D):Prop:=∃a Y,v=.ref a/\d=.tup Y/\E9 d<8/\HV h0 v d
def RU {L:Bool}(W:WalksS prog w A.in1 I fp wr G n P St)(S:bc)(ue:S∉fp)(hS0:h0.get? S=none)(hw0:∀b∈wr,h0.get? b=none)
  (val:Nat->D) (x:∀i v,P i v->UD h0 v (val i)) (vt:∀i<n,E9 (val i)<8/\∃ys,val i=.tup ys) {U:List D} (hU:∀i<n,val i∈U) (c:U.length<=75) (hu:A.units+200<dA):
  ∀(k i:Nat) (s:a9),n-i=k->i<=n->St i s->Keeps h0 s.heap->(∃ds,SetAt L h0 s.heap S ds/\∀d,d∈ds↔∃j<i,val j=d)->
   (∀s',Moved (S::wr) G s s'->(∃ds,SetAt L h0 s'.heap S ds/\∀d,d∈ds↔∃j<n,val j=d)->R (.ok (.ret .none)) s')->
   f7 (bo prog w) A (.builtin "set.update.loop" ⟨[.ref S,.ref I],[]⟩) R s:=by
 have y:S∉wr:=λh=>ue (W.sub _ h);have lu:∀b∈wr,b∈S::wr:=λb c=>aAe _ c;intro k;induction k with
 |zero=>
  intro i s hk hi kl B hS N;have O:i=n:=by omega
  subst O;refine aBI F.entry_set_update_loop ?_;rw[aBm F.plain_set_update_loop _];show bb _ A.in1 (gv (.ref I)>>=_) _ _ s;refine aAa (W.done s _ _ kl λs' g=>?_);show bb _ A.in1 (ret Value.none) _ _ s';refine aAb (N s' (g.mono lu) ?_);obtain⟨ds,⟨⟨o,es,ep,t,ho,r⟩,Q⟩,l⟩:=hS;exact⟨ds,⟨⟨o,es,ep,t,g.heap S _ y ho,r⟩,Q⟩,l⟩
 |succ k ih=>
  intro i s hk hi kl B hS N;have bg:i<n:=by omega
  refine aBI F.entry_set_update_loop ?_;rw[aBm F.plain_set_update_loop _];show bb _ A.in1 (gv (.ref I)>>=_) _ _ s;refine aAa (W.item i s _ _ bg kl λv s' hP nu g=>?_);obtain⟨ds,⟨⟨o,es,ep,t,ho,r⟩,Q⟩,l⟩:=hS;have ke:SetAt L h0 s'.heap S ds:=⟨⟨o,es,ep,t,g.heap S _ y ho,r⟩,Q⟩;have p:Keeps h0 s'.heap:=λb ob e=>g.heap b ob (λz=>by rw[hw0 b z]at e;cases e) (B b ob e);obtain⟨a,Y,rfl,T,C,hv⟩:=x i v hP;rw[T]at C hv;show bb _ A.in1 (i3 [aCV a] (setAdd S<|.ref a)>>=_) _ _ s';have f:∀e∈ds,E9 e<8/\∃ys,e=.tup ys:=λe E=>by obtain⟨j,H,ej⟩:=(l e).mp E;rw[<-ej];exact vt j (by omega)
  refine aAa (aAP (cx ke p hv C (λe E=>(f e E).1) (λe E=>(f e E).2) (by rw[o8];omega) (by letI:DecidableEq D:=λa b=>aDU _;have:=ST.Q6 (m:=U) Q (λd hd=>by obtain⟨j,H,e⟩:=(l d).mp hd;rw[<-e];exact hU j (by omega));omega) (λO tk J=>?_)<|λhni h' tk de J hsb hS2 pm=>?_))
  .
   refine aAb ⟨aCa F.plain_set_update_loop _,ih (i+1) _ (by omega) bg (W.frame _ s' _ _ nu J λb c o e=>e) p ⟨ds,ke,λd=>?_⟩ λq qf yi=>?_⟩
   .rw[l];constructor
    .rintro⟨j,H,e⟩;exact⟨j,by omega,e⟩
    .rintro⟨j,H,e⟩;by_cases z:j=i
     .subst z;rw[T]at e;rw[e]at O;exact(l d).mp O
     .exact⟨j,by omega,e⟩
   .exact N q (aFp W.gtrans ((g.mono lu).then_heap J λb o c e=>e) qf) yi
  .have u:∀b,b≠S->h'.get? b=s'.heap.get? b:=λb c=>hsb.2 b c;refine aAb ⟨aCa F.plain_set_update_loop _,ih (i+1) _ (by omega) bg (W.frame _ s' _ _ nu J λb c o e=>?_) (λb o e=>?_) ⟨de,hS2,λd=>?_⟩ λq qf yi=>?_⟩
   .rw[u b (λz:b=S=>ue (by rw[<-z];exact c))];exact e
   .show h'.get? b=some o;rw[u b (λz=>by subst z;rw[hS0]at e;cases e)];exact p b o e
   .rw[pm.mem_iff,aAd,l];constructor
    .rintro(rfl|⟨j,H,e⟩)
     .exact⟨i,by omega,T⟩
     .exact⟨j,by omega,e⟩
    .rintro⟨j,H,e⟩;by_cases z:j=i
     .subst z;rw[T]at e;exact .inl e.symm
     .exact .inr ⟨j,by omega,e⟩
   .refine N q (aFp W.gtrans ((g.mono lu).then_heap J λb o c e=>?_) qf) yi;rw[u b (λz:b=S=>c (by rw[z];exact aBg))];exact e
end
section
variable{prog:bu} {w:cp} {A:cf} {E:C7} {s:a9}
abbrev mR (led:Bool):Obj:={cls:=.type "set",dict:=none,data:=.set #[] 0 (.fresh 0 0 led)}
def IU (h0 h:cq)(S:bc)(led:Bool)(e:h.get? S=some (mR led)):SetAt led h0 h S []:=by
 refine⟨⟨_,#[],0,.fresh 0 0 led,e,rfl,rfl,rfl,rfl,⟨⟨λi k a=>?_,λj b=>?_,rfl⟩,ST.xy,rfl,?_,λe c=>?_⟩,.inl ⟨rfl,aBe _⟩,.nil,rfl,rfl⟩,aDh⟩
 .exact absurd a (by show¬i<0;omega)
 .exact absurd b (by show¬j∈[];simp)
 .show 0<=7;omega
 .exact absurd c (by show¬e∈[];simp)
def yU (a:af){Q₁:C7}(h:Q₁ (.ref s.heap.objs.size) {s with heap:=s.heap.push (mR (!w.params.followText "set-order"))}):
  f7 (bo prog w) A (.call (.builtin "set.__new__") ⟨[.type "set",a],[]⟩) (wants Q₁ E) s:=by
 refine codeAny_of_tree ?_;show bb _ A.in1 (do checkBuiltinCall "set.__new__" ⟨[.type "set",a],[]⟩;again (.builtin "set.__new__" ⟨[.type "set",a],[]⟩)) _ _ s;refine aAa (wpAny_of_eq (F.newCall_set_1 a)<|aAb ⟨aCa F.plain_set_new _,aBI F.entry_set_new ?_⟩);rw[aBm F.plain_set_new _];unfold Builtin.«set.__new__» Builtin.Frozenset.newClass;have b:=sub_set_self;obtain⟨c,g,d,e,os⟩:=s;dsimp only
 wp_walk
 refine aFv (aAb ?_);dsimp only;simp only[newObj];exact aAa (wpAny_alloc<|aAb<|aAb h)
def zW {h0:cq}(n:Keeps h0 s.heap){l:bc}{a:Array af}{val:Nat->D}{Q:C7}(hh:A.handled=none)(hl:s.heap.IsList l a)
  (p:∀(i:Nat) (v:af),a[i]?=some v->UD h0 v (val i)) (vt:∀i<a.size,E9 (val i)<8/\∃ys,val i=.tup ys) {U:List D} (hU:∀i<a.size,val i∈U) (k:U.length<=75) (hu:A.units+300<dA)
  (h:∀(h':cq) (tk:Nat) (ds:List D),SetAt (!w.params.followText "set-order") h0 h' s.heap.objs.size ds->(∀d,d∈ds↔∃j<a.size,val j=d)->Keeps s.heap h'->Q (.ref s.heap.objs.size) {s with heap:=h',toks:=tk}):
  bb (bo prog w) A (call (.type "set") [.ref l]) Q E s:=by
 obtain⟨c,tl,hmro⟩:=PySem.F.called_set.mro;have H:=PySem.F.called_set.made;have lu:=PySem.F.called_set.sub;refine aFH (codeAny_of_tree ?_);show bb _ _ (callAny (.type "set") _) _ _ _;refine aAb ⟨Code.quiet_builtin _ (by decide+kernel),aBI PySem.F.entry_type_call ?_⟩;rw[Around.under_plain (weight_type_call_type "set" [.ref l] []) rfl];have h1:=PySem.F.called_set.notType;have h2:=PySem.F.called_set.canCreate;have hct:=PySem.F.typeCall_set_1 (.ref l);repeat(any_goals(first|assumption|wp_step))
 refine aDt (yU (.ref l) (E:=E) (Q₁:=λob ao=>∃led:Bool,led=!w.params.followText "set-order"/\ob=.ref s.heap.objs.size/\ao={s with heap:=s.heap.push (mR led)}) ⟨_,rfl,rfl,rfl⟩) λr ao q=>?_;cases r with
 |error e=>exact q
 |ok fl=>
  cases fl with
  |next=>exact q.elim
  |brk=>exact q.elim
  |cont=>exact q.elim
  |ret ob=>
   obtain⟨led,eL,rfl,rfl⟩:=q;have hS:(s.heap.push<|mR led).get? s.heap.objs.size=some (mR led):=aAr _ rfl;have hT:Shared.TypeIs {s with heap:=s.heap.push (mR led)} (.ref s.heap.objs.size) "set":=⟨_,hS,rfl⟩;have hli:=PySem.F.called_set.init.lookup;have hbi:=PySem.F.called_set.init.bind (.ref s.heap.objs.size);repeat(any_goals(first|assumption|wp_step))
   refine aDt (aEr (R:=wants (λr ir=>r=.none/\∃h' tk ds,ir={s with heap:=h',toks:=tk}/\SetAt (!w.params.followText "set-order") h0 h' s.heap.objs.size ds/\(∀d,d∈ds↔∃j<a.size,val j=d)/\Keeps s.heap h') E) PySem.F.called_set.init.plain PySem.F.entry_set_init<|check_set_init_1 hT ?_) λrf ir f=>?_
   .obtain⟨ol,t,tf,nl,u⟩:=hl;obtain⟨ocls,m,I,g⟩:=ol;simp only at tf u;subst tf;subst u;have x:(s.heap.push<|mR led).get? l=some {cls:=.type "list",dict:=m,data:=.seq a nl,slots:=g}:=aAc _ t;have hsls:=PySem.F.sub_list_set;have hslf:=PySem.F.sub_list_frozenset;have ba:(aCv "list"==aCv "dict")=false:=by decide
    have uo:(s.heap.push<|mR led).IsList l a:=⟨_,x,rfl,nl,rfl⟩;unfold Builtin.«set.__init__» noKeywords Builtin.Frozenset.updateFrom;generalize J:pyIter=PI
    wp_walk
    subst J;refine aDx uo (aAa<|wpAny_runValue ?_);have y:l<s.heap.objs.size:=aAf t;have L:A.in1.in1.in1.handled=none:=by simp[hh]
    have B:l≠(s.heap.push<|mR led).objs.size:=by rw[aBE];exact aAk (aBq y)
    have ue:s.heap.objs.size∉[(s.heap.push<|mR led).objs.size,l]:=by rw[aBE];simp only[aAd,aAG,or_false,not_or];exact⟨aAk (aDg _),aDs y⟩
    have rh:∀b,s.heap.objs.size<=b->h0.get? b=none:=λb k=>by
     cases e:h0.get? b with
     |none=>rfl
     |some o=>have:=n b o e;rw[aEq k]at this;cases this
    refine RU (h0:=h0) ((Walks.list L _ l B a).toS) s.heap.objs.size ue (rh _<|aAh _) (λb k=>?hw) val p vt hU k (by show A.units+1+1+200<dA;omega) (a.size-0) 0 _ (by omega) (aBe _) ⟨⟨_,aAr _ rfl,rfl,rfl⟩,(uo.push _)⟩ (λb o e=>aAc _ (aAc _<|n b o e)) ⟨[],IU _ _ _ led (aAc _ hS),λd=>?he⟩ ?hR
    case he=>exact⟨λz=>(by cases z),by rintro⟨j,hj,_⟩;exact(by omega)⟩
    case hw=>
     have ki:b=(s.heap.push<|mR led).objs.size:=by simpa using k
     subst ki;rw[aBE];exact rh _ (Nat.le_succ _)
    case hR=>
     rintro⟨h',g',d',zu,N⟩ C ⟨ds,O,T⟩;have eg:g'=s.gens:=C.gens;have ed:d'=s.drawn:=C.drawn;have eo:N=s.os:=C.os;subst eg;subst ed;subst eo;refine aAb ?_;show bb _ _ (ret Value.none) _ _ _;refine aAb ⟨rfl,h',zu,ds,rfl,(eL▸O),T,λb o e=>?_⟩;have k:=aAf e;have Y:b≠(s.heap.push<|mR led).objs.size:=by rw[aBE];exact aAk (aBq k)
     exact C.heap b o (by simp only[aAd,aAG,or_false,not_or];exact⟨aAk k,Y⟩) (aAc _<|aAc _ e)
   .cases rf with
    |error e=>exact f
    |ok fl1=>
     cases fl1 with
     |next=>exact f.elim
     |brk=>exact f.elim
     |cont=>exact f.elim
     |ret r=>
      obtain⟨rfl,h',tk,ds,rfl,O,T,nv⟩:=f;repeat(any_goals(first|assumption|wp_step))
      exact h _ _ _ O T nv
end
end
section
variable [Tabs]
end
end DL
namespace SI
open PySem
theorem GV {α:Type}(next:Nat->Nat):∀(a k:Nat) (left:List α) (b:Array α),left.length=a->(aGo next a k left b).toList.Perm (b.toList++left)
 |0,k,left,b,h=>by have:left=[]:=List.eq_nil_of_length_eq_zero h;subst this;simp[aGo]
 |a+1,k,left,b,h=>by
  unfold aGo;have d:0<left.length:=by lia
  have c:next k%left.length<left.length:=aFd _ d
  rw[aAg c];dsimp only;refine(GV next a (k+1) _ _ (by rw[List.length_eraseIdx_of_lt c];lia)).trans ?_;rw[Array.toList_push,aDY];refine List.Perm.append_left _ ?_;have:∀(l:List α) (i:Nat) (h:i<l.length),(l[i]::l.eraseIdx i).Perm l:=by
   intro l;induction l with
   |nil=>intro i h;simp at h
   |cons x l e=>
    intro i h;cases i with
    |zero=>simp
    |succ i=>
     have f:i<l.length:=by simpa using h
     rw[aFn,List.getElem_cons_succ];exact(List.Perm.swap _ _ _).trans ((e i f).cons _)
  exact this left _ c
def tY {α:Type}(next:Nat->Nat)(Y:Array α):(jd next Y).toList.Perm Y.toList:=by unfold jd;simpa using GV next Y.size 0 Y.toList #[] (by simp)
def walkL (w:cp)(S:bc)(es:Array (Int×af))(ep:Nat):List (Int×af):=if w.params.followText "set-order"=true then(jd (w.params.setOrder S ep) es).toList else es.toList
def walkL_perm (w:cp)(S:bc)(es:Array (Int×af))(ep:Nat):(walkL w S es ep).Perm es.toList:=by
 unfold walkL;split
 .exact tY _ _
 .exact List.Perm.refl _
def slotAt (w:cp)(t:fh):Nat->Nat
 |0=>0
 |i+1=>if w.params.followText "set-order"=true then 0 else t.place.getD i 0+1
def P8 (h:cq)(w:cp)(it S:bc)(t:fh)(i n ep:Nat):Prop:=
 h.get? it=some {cls:=.type "set_iterator",dict:=none,data:=.fields #[fb (slotAt w t i),fb i,.ref S,fb n,fb ep],slots:=#[]}
def IsSet (h:cq)(S:bc)(es:Array (Int×af))(ep:Nat)(t:fh):Prop:=∃o,h.get? S=some o/\o.cls=.type "set"/\o.data=.set es ep t
namespace F
def entry_set_iter:entryFor table "set.__iter__"=some Builtin.«frozenset.__iter__»:=entryFor_alias (id':= "frozenset.__iter__") (by kernel_rfl) rfl (by decide+kernel) (by kernel_rfl)
def slot_seti_next:Slot "set_iterator" "__next__" "set_iterator.__next__":=
 .of (owner:= "set_iterator") (n:= "__next__") (by rw[aDv,aCu];kernel_rfl) (by decide+kernel) (by decide+kernel) (by decide+kernel)
  (by first|exact .inl (by decide+kernel)|exact .inr (by decide+kernel)) (by rw[aEX];kernel_rfl)
def entry_seti_next:entryFor table "set_iterator.__next__"=some Builtin.«set_iterator.__next__»:=entryFor_of_tree (by kernel_rfl)
def args_seti_next (a:af):argsOk "set_iterator.__next__" ⟨[a],[]⟩:=by unfold argsOk;kernel_rfl
def slot_seti_iter:Slot "set_iterator" "__iter__" "set_iterator.__iter__":=
 .of (owner:= "set_iterator") (n:= "__iter__") (by rw[aDv,aCu];kernel_rfl) (by decide+kernel) (by decide+kernel) (by decide+kernel)
  (by first|exact .inl (by decide+kernel)|exact .inr (by decide+kernel)) (by rw[aEX];kernel_rfl)
def entry_seti_iter:entryFor table "set_iterator.__iter__"=some Builtin.«dict_keyiterator.__iter__»:=entryFor_alias (id':= "dict_keyiterator.__iter__") (by kernel_rfl) rfl (by decide+kernel) (by kernel_rfl)
def args_seti_iter (a:af):argsOk "set_iterator.__iter__" ⟨[a],[]⟩:=by unfold argsOk;kernel_rfl
end F
section
variable{s:a9} {t:fh}
def IY {α:Type}{M:je}{Q:α->a9->Prop}{c:Prop}[Decidable c]{a b:Sem α}(h:c)(k:bb M A a Q E s):bb M A (if c then a else b) Q E s:=by rw[ji h];exact k
def xR (es:Array (Int×af))(a:t.plain=true):(!t.plain&&decide (es.size>1))=false:=by rw[a];rfl
def DI {Q:xG}(h:Q (w.params.followText "set-order") s):bb (bo prog w) A setsByText Q E s:=by unfold setsByText;exact aAa (aFv<|aAb h)
def NY {Q:C7}(e:IsSet s.heap S es ep t)(b:t.fits es.size=true)(f:t.plain=true)
  (h:Q (.ref s.heap.objs.size) {s with heap:=s.heap.push {cls:=.type "set_iterator",dict:=none,data:=.fields #[fb (slotAt w t 0),fb (0:Nat),.ref S,fb es.size,fb ep],slots:=#[]}}):
  bb (bo prog w) A (pyIter (.ref S)) Q E s:=by
 obtain⟨o,a,g,c⟩:=e;have d:s.TypeIs (.ref S) "set":=⟨o,a,g⟩;refine aFk d PySem.F.slot_set_iter (aBy PySem.F.slot_set_iter d F.entry_set_iter ?_ (PySem.F.args_set_iter_1 _));unfold Builtin.«frozenset.__iter__»;show bb _ _ (aFq "__iter__" ⟨[.ref S],[]⟩>>=_) _ _ s;have i:aFq "__iter__" ⟨[.ref S],[]⟩=pure S:=rfl;rw[i];refine aAa (aAb ?_);unfold Builtin.Frozenset.sizeOf;refine aAa (aAa<|aEB a c b<|aAb ?_);refine aAa ?_;unfold setDrawn;refine aAa (aCk a c b<|aAa<|DI<|aAb ?_);show bb _ _ (if(!w.params.followText "set-order"&&(!t.plain&&decide (es.size>1)))=true then _ else _) _ _ s;rw[xR es f,aFU];simp only[aAn,if_false];refine aAa (aAb<|aAa<|wpAny_setEpoch_of a c b ?_);refine aAa (aBo<|aAb ⟨_,rfl, "set_iterator",_,⟨_,aAr _ rfl,rfl⟩,F.slot_seti_next.lookup,?_⟩);simpa[slotAt]using h
def DW (a:ST.IF Y):aDD Y 0=0:=by
 obtain⟨c,b,d⟩:=ST.aW a 0;by_cases h:aDD Y 0=0
 .exact h
 .exact absurd (b 0 (by lia) (by lia)) (by lia)
def EJ (b:ST.IF Y)(a:i<Y.size):aDD Y (Y.getD i 0+1)=i+1:=by
 have e:Y.getD i 0=Y[i]:=by simp[aFc,a]
 rw[e];obtain⟨g,d,f⟩:=ST.aW b (Y[i]+1);rcases Nat.lt_trichotomy (aDD Y<|Y[i]+1) (i+1)with q|q|q
 .have:=f i a (by lia);lia
 .exact q
 .have c:i+1<Y.size:=by lia
  have:=d (i+1) c q;have:=b i (i+1) a c (by lia)
  lia
def DS (t:fh)(a:ST.IF t.place)(b:¬w.params.followText "set-order"=true)(c:i<=t.place.size):aDD t.place (slotAt w t i)=i:=by
 cases i with
 |zero=>exact DW a
 |succ i=>show aDD t.place (if w.params.followText "set-order"=true then 0 else t.place.getD i 0+1)=i+1;rw[jn b];exact EJ a (by lia)
def xW {Q:Option (af×Nat)->a9->Prop}(n:IsSet s.heap S es ep t)(c:t.fits es.size=true)(p:t.plain=true)(q:¬w.params.followText "set-order"=true->t.led=true)(r:ST.IF t.place)(B:i<=es.size)(d:∀e,(walkL w S es ep)[i]?=some e->Q (some (e.2,slotAt w t (i+1))) s)(j:i=es.size->Q none s):bb (bo prog w) A (setNext S (slotAt w t i) i ep) Q E s:=by
 obtain⟨o,k,C,l⟩:=n;have H:t.place.size=es.size:=by simp only[aGe,aAJ,beq_iff_eq,decide_eq_true_eq]at c;exact c.1
 unfold setNext;refine aAa (aCk k l c ?_);refine aAa (DI ?_);by_cases a:w.params.followText "set-order"=true
 .rw[ji a,jn (by simp)];unfold setWalk;refine aAa (aAa<|aCk k l c<|aAa<|DI ?_);rw[ji a];refine aAa (aFv<|aAb ?_);refine aAb ?_;have g:(walkL w S es ep)=(jd (w.params.setOrder S ep) es).toList:=by unfold walkL;rw[ji a]
  have h:slotAt w t i=slotAt w t (i+1):=by
   cases i with
   |zero=>show 0=if w.params.followText "set-order"=true then 0 else _;rw[ji a]
   |succ i=>show(if w.params.followText "set-order"=true then 0 else _)=if w.params.followText "set-order"=true then 0 else _;rw[ji a,ji a]
  rw[g,aAC]at d;show Q (((jd (w.params.setOrder S ep) es)[i]?).map λe=>(e.2,slotAt w t i)) s;cases e:(jd (w.params.setOrder S ep) es)[i]? with
  |some x=>rw[h];exact d x e
  |none=>
   have m:(jd (w.params.setOrder S ep) es).size=es.size:=by have:=(tY (w.params.setOrder S ep) es).length_eq;simpa using this
   have:=Array.getElem?_eq_none_iff.mp e;exact j (by lia)
 .rw[jn a];have u:¬(!t.plain&&decide (es.size>1))=true:=by rw[p];simp
  show bb _ _ (if(!t.plain&&decide (es.size>1))=true then _ else _) _ _ s;rw[jn u];show bb _ _ ((if(!t.led&&!es.isEmpty)=true then _ else _)>>=_) _ _ s;rw[jn (by rw[q a];simp)];refine aAa (aAb<|aAb ?_);rw[DS t r a (by lia)];have g:(walkL w S es ep)=es.toList:=by unfold walkL;rw[jn a]
  rw[g,aAC]at d;by_cases v:i<es.size
  .have f:es[i]?=some es[i]:=aAH v;have b:i<t.place.size:=by lia
   have y:t.place[i]?=some t.place[i]:=aAH b;have:=d _ f;rw[f,y];have z:slotAt w t (i+1)=t.place[i]+1:=by show(if w.params.followText "set-order"=true then 0 else t.place.getD i 0+1)=_;rw[jn a];simp[aFc,b]
   rw[z]at this;exact this
  .have f:es[i]?=none:=aCN (by lia);rw[f];exact j (by lia)
def R1 (h:P8 s.heap w it S t i n ep):s.TypeIs (.ref it) "set_iterator":=⟨_,h,rfl⟩
def NU {Q:Option af->a9->Prop}(a:P8 s.heap w it S t i es.size ep)(b:IsSet s.heap S es ep t)(c:t.fits es.size=true)(g:t.plain=true)(j:¬w.params.followText "set-order"=true->t.led=true)(k:ST.IF t.place)(l:i<es.size)(h:∀e h',(walkL w S es ep)[i]?=some e->P8 h' w it S t (i+1) es.size ep->Heap.SameBut it s.heap h'->Q (some e.2) {s with heap:=h'}):bb (bo prog w) A (gv (.ref it)) Q E s:=by
 have d:=R1 a;obtain⟨o,m,y,n⟩:=id b;unfold gv;refine aAa (aEs (aCA (name:=aDu "__next__") d F.slot_seti_next
  (aBy F.slot_seti_next d F.entry_seti_next ?_ (F.args_seti_next _))))
 refine aAa (aAb ?_);refine aAa (wpAny_fieldsOf a rfl ?_);show bb _ _ (setEntries S>>=_) _ _ s;refine aAa (aEB m n c ?_);rw[jn (by simp)];show bb _ _ (setNext S (aEC (slotAt w t i:Int)) (aEC (i:Int)) (aEC (ep:Int))>>=_) _ _ s;rw[aCl,aCl,aCl];refine aAa (xW b c g j k (aDb l) (λe p=>?_) λe=>by lia);show bb _ _ (setField (.ref it) 0 (fb<|slotAt w t<|i+1)>>=_) _ _ s;refine aAa (aCb a (by simp) λq r u=>?_);show bb _ _ (setField (.ref it) 1 (fb<|(i:Int)+1)>>=_) _ _ _;refine aAa (aCb (s:={s with heap:=q}) r (by simp) λf v x=>?_);refine aAb ⟨_,rfl,aAb (h e f p ?_ (u.trans x))⟩;have:f.get? it=some _:=v;unfold P8;rw[this];simp
def VL {Q:Option af->a9->Prop}(j:A.handled=none)(c:P8 s.heap w it S t es.size es.size ep)(d:IsSet s.heap S es ep t)(f:t.fits es.size=true)(k:t.plain=true)(l:¬w.params.followText "set-order"=true->t.led=true)(n:ST.IF t.place)(h:∀h',Heap.ExtBut it s.heap h'->Q none {s with heap:=h'}):bb (bo prog w) A (gv (.ref it)) Q E s:=by
 have g:=R1 c;obtain⟨o,p,v,q⟩:=id d;unfold gv;refine aAa (aEs (aCA (name:=aDu "__next__") g F.slot_seti_next
  (aBy F.slot_seti_next g F.entry_seti_next ?_ (F.args_seti_next _))))
 refine aAa (aAb ?_);refine aAa (wpAny_fieldsOf c rfl ?_);show bb _ _ (setEntries S>>=_) _ _ s;refine aAa (aEB p q f ?_);rw[jn (by simp)];show bb _ _ (setNext S (aEC (slotAt w t es.size:Int)) (aEC (es.size:Int)) (aEC (ep:Int))>>=_) _ _ s;rw[aCl,aCl,aCl];refine aAa (xW d f k l n (aAh _) (λe r=>?_) λ_=>?_)
 .have u:=(walkL_perm w S es ep).length_eq;have i:=(aAB.mp r).1;rw[u]at i;simp at i
 .show bb _ _ (setField (.ref it) 2 .none>>=_) _ _ s;refine aAa (wpAny_setField c rfl (by simp) ?_);show bb _ _ (newExc (.type "StopIteration") []>>=_) _ _ _;refine aAa ?_;simp only[newExc,newTuple];refine aAa (aBo ?_ (by size_fits));refine aAa (m:=firstArgMember _ _) (wpAny_of_eq (a:=Value.none) (by first|rfl|(simp only[firstArgMember];rfl)) ?_);refine aBo ?_ (by size_fits);simp only[raiseNew];refine aAa (wpAny_handled ?_);rw[show A.in1.handled=none from j];refine aAa (aAb<|wpAny_throw ?_);refine aAa (aDG (T:= "StopIteration") (b:=true) ⟨_,aAr _ rfl,rfl⟩ isSubtype_stop ?_);exact aAb (h _<|((Heap.SameBut.update ..).extBut.push _).push _)
def dQ (x:IsSet h S es ep t)(e:∀o,h.get? S=some o->h'.get? S=some o):IsSet h' S es ep t:=let⟨o,a,r⟩:=x;⟨o,e o a,r⟩
end
section
def II (n:A.handled=none)(I S:bc)(p:S≠I)(f:t.fits es.size=true)(g:t.plain=true)(j:¬w.params.followText "set-order"=true->t.led=true)(k:ST.IF t.place):
  Walks prog w A I [I,S] [I] es.size (λi v=>∃e,(walkL w S es ep)[i]?=some e/\v=e.2) (λi h=>P8 h w I S t i es.size ep/\IsSet h S es ep t)where
 sub:=λb a=>by simp at a;simp[a]
 frame:=λ_ _ _ st l=>⟨l I (by simp) _ st.1,dQ st.2 λo e=>l S (by simp) o e⟩
 item:=λi s Q E r st c=>NU st.1 st.2 f g j k r λe d u x m=>c e.2 d s.toks ⟨e,u,rfl⟩ ⟨x,dQ st.2 λo q=>(m.2 S p).trans q⟩ λb o a q=>(m.2 b (λz=>a (by simp[z]))).trans q
 done:=λs Q E st c=>VL n st.1 st.2 f g j k λd y=>c d s.toks λb o a q=>y b o (λz=>a (by simp[z])) q
 self:=λi s Q E st c=>by refine aFk (R1 st.1) F.slot_seti_iter (aBy F.slot_seti_iter (R1 st.1) F.entry_seti_iter ?_ (F.args_seti_iter _));refine aAa (aAb<|aAb ⟨_,rfl, "set_iterator",_,R1 st.1,F.slot_seti_next.lookup,c⟩)
def collect_set {Q:List af->a9->Prop}(hh:A.handled=none)(hS:IsSet s.heap S es ep t)(hf:t.fits es.size=true)(hp:t.plain=true)(hl:¬w.params.followText "set-order"=true->t.led=true)(ha:ST.IF t.place)(hn:es.size<=sizeLine)
  (hQ:∀h' tk,(∀b o,s.heap.get? b=some o->h'.get? b=some o)->Q ((walkL w S es ep).map (·.2)) {s with heap:=h',toks:=tk}):bb (bo prog w) A (collect (.ref S)) Q E s:=by
 obtain⟨I,d,h,hdS⟩:=id hS;have hT:s.TypeIs (.ref S) "set":=⟨I,d,h⟩;have C:S<s.heap.objs.size:=aAf d;unfold collect;refine aAa (wpAny_runValue<|aBI PySem.F.entry_proto_collect ?_);rw[aBm PySem.F.plain_proto_collect _];show bb _ A.in1 (newList []>>=λl=>again (.builtin "list.__iadd__" ⟨[l,.ref S],[]⟩)) _ _ s;refine aAa (aBo ?_);refine aAb ⟨aCa PySem.F.plain_list_iadd _,aBI PySem.F.entry_list_iadd ?_⟩;rw[aBm PySem.F.plain_list_iadd _];generalize j:s.heap.push {cls:=.type "list",data:=.seq ([]:List af).toArray}=a;have f:∀b o,s.heap.get? b=some o->a.get? b=some o:=λb o e=>by rw[<-j];exact aAc _ e
 have c:a.objs.size=s.heap.objs.size+1:=by rw[<-j,aBE]
 have J:a.get? s.heap.objs.size=some {cls:=.type "list",data:=.seq ([]:List af).toArray}:=by rw[<-j];exact aAr _ rfl
 have n:IsSet a S es ep t:=dQ hS λo e=>f S o e;have L:Shared.TypeIs {s with heap:=a} (.ref S) "set":=⟨I,f _ _ d,h⟩;have p:aDa (.ref s.heap.objs.size) (.ref S)=false:=by simp[aDa,aDs C]
 show bb _ A.in1 (aCc (.ref s.heap.objs.size) (.ref S)<|.ref s.heap.objs.size) _ _ _;unfold aCc;refine aAa (aDI L ?_);rw[jn (by rw[p];decide)];refine aAa (NY (s:={s with heap:=a}) n hf hp ?_);refine aAa (aAP ?_);generalize q:a.push {cls:=.type "set_iterator",dict:=none,data:=.fields #[fb (slotAt w t 0),fb (0:Nat),.ref S,fb es.size,fb ep],slots:=#[]}=m;have g:∀b o,a.get? b=some o->m.get? b=some o:=λb o e=>by rw[<-q];exact aAc _ e
 have N:P8 m w a.objs.size S t 0 es.size ep:=by rw[<-q];exact aAr _ rfl
 have O:IsSet m S es ep t:=dQ n λo e=>g S o e;have k:Shared.TypeIs {s with heap:=m} (.ref S) "set":=⟨I,g _ _ (f _ _ d),h⟩;have r:=g _ _ J;unfold aCK;refine aAa (aBz k PySem.F.slot_set_len.lookup ?_)
 (generalize hid:("set.__len__":String)=u;(fail_if_success (clear hid u));wp_delta;rw[show splitId u=some ("set", "__len__")from by subst hid;decide+kernel];subst hid)
 refine aAa (aDG (b:=true) k (by rw[aEX];kernel_rfl) ?_);rw[jn (by decide)];refine IY (by decide+kernel) ?_
 .refine aAa (aDI k<|aAb ?_);rw[ji (by decide)];show bb _ A.in1 (rule "list.extend.makes-room">>=λ_=>aFA (.ref s.heap.objs.size)>>=λ_=>again (.builtin "list.extend.loop" ⟨[.ref s.heap.objs.size,.ref a.objs.size,.ref s.heap.objs.size],[]⟩)) _ _ _
  refine aAa (aDi ?_);refine aAa ?_;show bb _ A.in1 (iu s.heap.objs.size (·.push .none)>>=λ_=>iu s.heap.objs.size (·.pop)) _ _ _;refine aAa (aCd r rfl ?_);have v:=aBs (aBO (·.push Value.none)) r rfl;refine aCd v rfl ?_;have T:=aBs (aBO (·.pop)) v rfl;have U:∀b o,b≠s.heap.objs.size->m.get? b=some o->((m.update s.heap.objs.size (aBO (·.push Value.none))).update s.heap.objs.size (aBO (·.pop))).get? b=some o:=
   λb o x e=>(aAD _ _<|aCi x).trans ((aAD _ _<|aCi x).trans e)
  have y:a.objs.size≠s.heap.objs.size:=by rw[c];lia
  have W:=(II (prog:=prog) (w:=w) (A:=A.in1) (by simp[hh]) a.objs.size S (by rw[c];exact aAk (aBq C)) (es:=es) (ep:=ep) (t:=t) hf hp hl ha).toS;refine aAb ⟨aCa PySem.F.plain_extend_loop _,codeAny_extend_loopS W hn _ (by simp only[aAd,aAG,or_false,not_or];exact⟨aCi y,aDs C⟩) _ es.size 0 _ _ _ rfl (aBe _) ⟨U _ _ y N,dQ O λo e=>U S o (aAk C) e⟩ T (ItemsOf.nil _) λz km c' H ke Y=>?_⟩;show bb _ A (load s.heap.objs.size>>=_) _ _ z;refine aAa (wpAny_load ke ?_);refine aAb ?_;have g0:z.gens=s.gens:=H.gens;have d0:z.drawn=s.drawn:=H.drawn;have o0:z.os=s.os:=H.os;have ea:km.toList=(walkL w S es ep).map (·.2):=by
   have oa:=(walkL_perm w S es ep).length_eq;apply aFe;intro i;rw[aAM,aAC];by_cases hi:i<es.size
   .have B:i<km.size:=by rw[Y.1];exact hi
    obtain⟨e,he,hv⟩:=Y.2 i _ (aAH B);rw[he,aAH B,hv];rfl
   .rw[aCN (by rw[Y.1];lia),List.getElem?_eq_none (by rw[oa];simp;lia)];rfl
  obtain⟨h',g',d',zu,os'⟩:=z;subst g0 d0 o0;rw[ea];refine hQ h' zu λb o e=>?_;have x:b≠s.heap.objs.size:=aAk (aAf e);have hb2:b≠a.objs.size:=by rw[c];exact aAk (aBq<|aAf e)
  exact H.heap b o (by simp only[aAd,aAG,or_false,not_or];exact⟨x,hb2⟩) (U b o x<|g _ _<|f _ _ e)
end
end SI
namespace DL
open PySem PySem.Spec L2
open PyProof.Rows hiding St
def RJ:D->Bool
 |.int _=>true
 |_=>false
def aP:D->Bool
 |.tup Y=>!Y.isEmpty&&Y.all RJ
 |_=>false
def intD:D->Int
 |.int i=>i
 |_=>0
def flat:D->List Int
 |.tup Y=>Y.map intD
 |_=>[]
theorem KZ:∀{Y:List D},Y.all RJ=true->Y=(Y.map intD).map D.int
 |[],_=>rfl
 |x::Y,h=>by
  simp only[aGd,aAJ]at h;cases x with
  |int i=>show D.int i::Y=D.int i::(Y.map intD).map D.int;rw[<-KZ h.2]
  |_=>cases h.1
def gE (h:aP d=true):flat d≠[]/\d=.tup ((flat d).map .int):=by
 cases d with
 |tup Y=>simp only[aP,aAJ,Bool.not_eq_true',List.isEmpty_eq_false_iff]at h;refine⟨by simpa[flat]using h.1,?_⟩;show D.tup Y=D.tup ((Y.map intD).map D.int);rw[<-KZ h.2]
 |_=>cases h
def xX (h:aP d=true)(h':aP e=true)(q:flat d=flat e):d=e:=by rw[(gE h).2,(gE h').2,q]
theorem tU:∀l:List Int,cA (l.map D.int)=true
 |[]=>rfl
 |i::l=>by show(true&&cA (l.map D.int))=true;rw[tU l];rfl
def N5 (h:aP d=true):mL d=true:=by rw[(gE h).2];exact tU _
def FM (h:aP d=true):E9 d<8:=by
 rw[(gE h).2];have:∀l:List Int,A3 (l.map D.int)=0:=λl=>by
  induction l with
  |nil=>rfl
  |cons i l a=>show max 0 (A3<|l.map D.int)=0;rw[a];rfl
 show A3 _+1<8;rw[this];lia
def qV (d:D):List D->List D
 |[]=>[d]
 |x::Y=>if flat d=flat x then x::Y else if HT.lexLt (flat d) (flat x)=true then d::x::Y else x::qV d Y
def X8 (ds:List D):List D:=ds.foldr qV []
def SE (ds:List D):Prop:=ds.Pairwise λx y=>HT.lexLt (flat x) (flat y)=true
theorem iQ:∀{Y:List D},e∈qV d Y->e=d\/e∈Y
 |[],h=>by rcases aAd.mp h with h|h;exact .inl h;cases h
 |x::Y,h=>by
  unfold qV at h;split at h
  .exact .inr h
  .split at h
   .rcases aAd.mp h with h|h
    .exact .inl h
    .exact .inr h
   .rcases aAd.mp h with h|h
    .exact .inr (by rw[h];exact .head _)
    .rcases iQ h with h|h
     .exact .inl h
     .exact .inr (.tail _ h)
theorem yS:∀{Y:List D},e∈Y->e∈qV d Y
 |x::Y,h=>by
  unfold qV;split
  .exact h
  .split
   .exact .tail _ h
   .rcases aAd.mp h with h|h
    .rw[h];exact .head _
    .exact .tail _ (yS h)
theorem zC (a:aP d=true):∀{Y:List D},(∀x∈Y,aP x=true)->d∈qV d Y
 |[],_=>.head _
 |x::Y,h=>by
  unfold qV;split
  .rename_i q;rw[xX a (h x (.head _)) q];exact .head _
  .split
   .exact .head _
   .exact .tail _ (zC a λy b=>h y (.tail _ b))
theorem xZ:∀{Y:List D},SE Y->SE (qV d Y)
 |[],_=>aDK _ _
 |x::Y,h=>by
  have b:=aAy.mp h;unfold qV;split
  .exact h
  .rename_i ne;split
   .rename_i lt;refine aAy.mpr ⟨λy a=>?_,h⟩;rcases aAd.mp a with rfl|a
    .exact lt
    .exact TS.lex_trans _ _ _ lt (b.1 y a)
   .rename_i c;refine aAy.mpr ⟨λy a=>?_,xZ b.2⟩;rcases iQ a with rfl|a
    .cases q:HT.lexLt (flat x) (flat y)with
     |true=>rfl
     |false=>exact absurd (TS.lex_total _ _ (by simpa using c) q) ne
    .exact b.1 y a
theorem aI:∀ds:List D,SE (X8 ds)
 |[]=>.nil
 |_::ds=>xZ (aI ds)
theorem zN:∀{ds:List D},(∀d∈ds,aP d=true)->∀d∈X8 ds,aP d=true
 |[],_,d,h=>by cases h
 |e::ds,h,d,hd=>by
  rcases iQ hd with rfl|hd
  .exact h _ (.head _)
  .exact zN (λd hd=>h d (.tail _ hd)) d hd
theorem M1:∀{ds:List D},(∀d∈ds,aP d=true)->∀d,d∈X8 ds↔d∈ds
 |[],_,d=>Iff.rfl
 |e::ds,h,d=>by
  have a:∀d∈ds,aP d=true:=λd b=>h d (.tail _ b);constructor
  .intro q;rcases iQ q with rfl|q
   .exact .head _
   .exact .tail _ ((M1 a d).mp q)
  .intro q;rcases aAd.mp q with rfl|q
   .exact zC (h _<|.head _) (zN a)
   .exact yS ((M1 a d).mpr q)
theorem iZ:∀{Y b:List D},SE Y->SE b->(∀d,d∈Y↔d∈b)->Y=b
 |[],[],_,_,_=>rfl
 |[],y::b,_,_,h=>by have:=(h y).mpr (.head _);cases this
 |x::Y,[],_,_,h=>by have:=(h x).mp (.head _);cases this
 |x::Y,y::b,i,j,h=>by
  have c:=aAy.mp i;have e:=aAy.mp j;have a:∀d:D,HT.lexLt (flat d) (flat d)≠true:=λd q=>by rw[TS.lex_irrefl]at q;cases q
  have f:x=y:=by
   rcases aAd.mp ((h x).mp (.head _))with q|q
   .exact q
   .rcases aAd.mp ((h y).mpr (.head _))with g|g
    .exact g.symm
    .exact absurd (TS.lex_trans _ _ _ (e.1 x q)<|c.1 y g) (a y)
  subst f;congr 1;refine iZ c.2 e.2 λd=>?_;constructor
  .intro q;rcases aAd.mp ((h d).mp (.tail _ q))with z|z
   .subst z;exact absurd (c.1 d q) (a d)
   .exact z
  .intro q;rcases aAd.mp ((h d).mpr (.tail _ q))with z|z
   .subst z;exact absurd (e.1 d q) (a d)
   .exact z
def HQ (h:SE Y):Y.Nodup:=h.imp λ{x y} q z=>by subst z;rw[TS.lex_irrefl]at q;cases q
def ssR:D->R (List D)
 |.lst a=>if a.all aP=true/\(X8 a).length<=63 then .ok (X8 a)else .bad
 |_=>.bad
section
mutual
theorem Y9 (I:Inv X a σ H s):∀{v:V} {d:D} {u:af},Rep X.K H O v d->mL d=true->RelV v u->HV s.heap u d
 |_,_,_,.non,e,_=>by cases e
 |_,_,_,.bl,e,_=>by cases e
 |_,_,_,.str,e,_=>by cases e
 |_,_,_,.lst _ _ _,e,_=>by cases e
 |_,_,_,.dct _ _ _,e,_=>by cases e
 |_,_,_,.int,_,r=>by obtain⟨t,rfl⟩:=r;exact .int _ t
 |_,_,_,.tup h r,e,b=>by cases b;obtain⟨c,f,p,_⟩:=I.tuple h;exact .tup p (FK I r e f)
theorem FK (I:Inv X b σ H s):∀{v:List V} {d:List D} {u:List af},Reps X.K H O v d->cA d=true->n4 v u->HVs s.heap u d
 |_,_,_,.nil,_,.nil=>.nil
 |_,_,_,.cons r t,e,.cons c f=>by have a:(mL _&&cA _)=true:=e;rw[aAJ]at a;exact .cons (Y9 I r a.1 c) (FK I t a.2 f)
end
end
variable [Tabs]
def a0f (w:cp)(o:Obj)(es:List af):Prop:=o.ExactSet/\∃a b t,o.data=.set a b t/\t.fits a.size=true/\t.plain=true/\t.led=!w.params.followText "set-order"/\ST.IF t.place/\a.toList.map (·.2)=es
abbrev w6 (K:ka)(H:Hp)(O:bc->Prop):List af->List D->Prop:=Paired λu d=>∃v,RelV v u/\Rep K H O v d
theorem w6.of {K:ka}{H:Hp}{O:bc->Prop}:∀{vs:List V} {us:List af} {ds:List D},n4 vs us->Reps K H O vs ds->w6 K H O us ds
 |_,_,_,.nil,.nil=>.nil
 |_,_,_,.cons r t,.cons q u=>.cons ⟨_,r,q⟩ (w6.of t u)
theorem w6.ac6 {K:ka}{H:Hp}{O:bc->Prop}:∀{us:List af} {ds:List D},w6 K H O us ds->∃vs,n4 vs us/\Reps K H O vs ds
 |_,_,.nil=>⟨[],.nil,.nil⟩
 |_,_,.cons ⟨v,r,q⟩ t=>let⟨vs,a,b⟩:=w6.ac6 t;⟨v::vs,.cons r a,.cons q b⟩
def w6.same {K:ka}{H H':Hp}{O:bc->Prop}(s:Same H H'){us:List af}{ds:List D}(h:w6 K H O us ds):w6 K H' O us ds:=dP (by rintro _ _ ⟨v,r,q⟩;exact⟨v,r,q.same s⟩) h
theorem w6.get {K:ka}{H:Hp}{O:bc->Prop}:∀{us:List af} {ds:List D} {u:af},w6 K H O us ds->u∈us->∃d∈ds,∃v,RelV v u/\Rep K H O v d
 |_,_,_,.cons r t,h=>by
  rcases aAd.mp h with rfl|h
  .exact⟨_,.head _,r⟩
  .obtain⟨d,a,q⟩:=w6.get t h;exact⟨d,.tail _ a,q⟩
open Classical in
def Q1 (K:ka) (H:Hp) (h:cq):cq:=PySem.W.hideAll h ((aBK h.objs.size).filter λa=>decide (¬∃Y,X0 K H a Y))
def Y6 (K:ka)(H:Hp)(h:cq):Keeps (Q1 K H h) h:=λb o e=>PySem.W.of_hideAll _ e
open Classical in
def yO {K:ka}{H:Hp}{h:cq}{b:bc}{o:Obj}{Y:List V}(e:h.get? b=some o)(q:X0 K H b Y):(Q1 K H h).get? b=some o:=PySem.W.hideAll_get _ e λa=>by have:=(aBQ.mp a).2;exact(of_decide_eq_true this) ⟨Y,q⟩
open Classical in
def BU {K:ka}{H:Hp}{h:cq}{b:bc}{o:Obj}(e:(Q1 K H h).get? b=some o):∃Y,X0 K H b Y:=by refine aEY λn=>?_;have a:=Y6 K H h b o e;have:(Q1 K H h).get? b=none:=PySem.W.hideAll_none _ (aBQ.mpr ⟨aCE.mpr (aAf a),decide_eq_true n⟩);rw[this]at e;cases e
section
mutual
theorem KP (I:Inv X a σ H s):∀{v:V} {d:D} {u:af},Rep X.K H O v d->mL d=true->RelV v u->HV (Q1 X.K H s.heap) u d
 |_,_,_,.non,e,_=>by cases e
 |_,_,_,.bl,e,_=>by cases e
 |_,_,_,.str,e,_=>by cases e
 |_,_,_,.lst _ _ _,e,_=>by cases e
 |_,_,_,.dct _ _ _,e,_=>by cases e
 |_,_,_,.int,_,r=>by obtain⟨t,rfl⟩:=r;exact .int _ t
 |_,_,_,.tup h r,e,b=>by cases b;obtain⟨f,i,⟨o,g,c,n,d⟩,_⟩:=I.tuple h;exact .tup ⟨o,yO g h,c,n,d⟩ (HA I r e i)
theorem HA (I:Inv X b σ H s):∀{v:List V} {d:List D} {u:List af},Reps X.K H O v d->cA d=true->n4 v u->HVs (Q1 X.K H s.heap) u d
 |_,_,_,.nil,_,.nil=>.nil
 |_,_,_,.cons r t,e,.cons c f=>by have a:(mL _&&cA _)=true:=e;rw[aAJ]at a;exact .cons (KP I r a.1 c) (HA I t a.2 f)
end
mutual
theorem MF (I:Inv X b σ H s):∀{u:af} {d:D},HV (Q1 X.K H s.heap) u d->∃v,RelV v u/\Rep X.K H O v d
 |_,_,.int i t=>⟨.int i,⟨t,rfl⟩,.int⟩
 |_,_,.tup (a:=a) ⟨o,g,c,n,h⟩ r=>by obtain⟨Y,q⟩:=BU g;obtain⟨j,k,l⟩:=w6.ac6 (EW I r);obtain⟨m,p,⟨x,e,_,y,f⟩,_⟩:=I.tuple q;rw[Y6 _ _ _ _ _ g]at e;cases e;rw[h]at f;injection f with w _;subst w;have:j=Y:=k.inj (by simpa using p);subst this;exact⟨.ref a,rfl,.tup q l⟩
theorem EW (I:Inv X a σ H s):∀{u:List af} {d:List D},HVs (Q1 X.K H s.heap) u d->w6 X.K H O u d
 |_,_,.nil=>.nil
 |_,_,.cons r t=>.cons (MF I r) (EW I t)
end
end
section
def a0g (X:Cx)(B:D->Bool)(U:List D->List D)(f:Ev->R D):TE:=λσ H Q=>∃h i O ρ,EnvOk X.K h i H O σ ρ/\match f ρ with
 |.ok (.lst b)=>(b.all B=true/\(U b).length<=63)/\∀S o e c a,Same H a->a S=none->a0f X.w o e->w6 X.K a O e c->c.Nodup->(∀d,d∈c↔d∈b)->Q (.ref S) (upd a S<|.frz o (.own S))
 |.ex x=>∀g,Same H g->XW X x g
 |_=>False
def VM {B:D->Bool}{U:List D->List D}(hB:∀{d},B d=true->mL d=true/\E9 d<8/\∃N,d=.tup N)(hU:∀{ds:List D},(∀d∈ds,B d=true)->∀d,d∈U ds↔d∈ds)(ha:PB X e f)(hh:X.calm=true)(hu:X.A.units+300<dA)(hg:Gl X "set":=by rfl)(hm:X.mg "set"=none:=by assumption)(hv:dq "set"=some (.type "set"):=by decide+kernel)(he:a5 [e] X.env=(false,dz e X.env)::a5 [] X.env:=by rfl)(A8:(cv pos (a5 [] X.env)).any (·.1)=false:=by rfl):
  PE X (.Call (.Name "set" p) [e] [] pos) (a0g X B U f):=by
 refine rR λy s σ H Q I Ha O0 O ρ E q=>?_;refine aAK (N0 I hg hm hv ?_ (by decide) (by decide));have sv:PA X [e] _:=F9 ha Z8 he;refine aBp (C4 (sv pos y s σ H (λvs c=>∃v ds,vs=[v]/\f ρ=.ok (.lst ds)/\Same H c/\A7 X.K c O v (.lst ds)) I ⟨Ha,O0,O,ρ,E,?_⟩) λus g z9=>?_) he A8
 .cases b:f ρ with
  |ex z=>rw[b]at q;exact q
  |bad=>rw[b]at q;exact q.elim
  |ok d=>
   rw[b]at q;cases d with
   |lst ds=>exactλv c g r1=>⟨v,ds,rfl,rfl,g,r1⟩
   |_=>exact q.elim
 .obtain⟨vs,c,l,r1,v,ds,ev,ef,sm,rb⟩:=z9;subst ev;rw[ef]at q;obtain⟨⟨hp,xh⟩,q⟩:=q;obtain⟨a,ws,rfl,hS,rr⟩:=rb.aa4;obtain⟨u,rfl,ru⟩:=vals1 r1;cases ru;obtain⟨h,rv,⟨oL,nL,gL,cL,dL,sL⟩,zL⟩:=l.list hS;have pt:∀d∈ds,B d=true:=aBU.mp hp;have hlen:h.toArray.size=ds.length:=by rw[aAp,<-rv.length,rr.length]
  have st:w6 X.K c O h ds:=w6.of rv rr;have C:∀(i:Nat) (v:af),h.toArray[i]?=some v->UD (Q1 X.K c g.heap) v (ds.getD i .non):=λi v m=>by
   rw[aCQ]at m;obtain⟨d,n,w,ua,rp⟩:=G9 st m;have qm:ds.getD i .non=d:=by rw[aAq,n];rfl
   rw[qm];have hpt:=pt d (aAm n);obtain⟨T,hd8,N,rfl⟩:=hB hpt;have hv:=KP l rp T ua;cases hv with
   |tup p r=>exact⟨_,_,rfl,rfl,hd8,.tup p r⟩
  have vd:∀i<h.toArray.size,E9 (ds.getD i .non)<8/\∃N,ds.getD i .non=.tup N:=λi m=>by
   have J:i<ds.length:=by rw[<-hlen];exact m
   have b:ds.getD i .non=ds[i]:=by rw[aAq,aAg J];rfl
   rw[b];exact(hB<|pt _<|aCf J).2
  refine zW (Y6 X.K c g.heap) (val:=λi=>ds.getD i .non) (U:=U ds) (l.ok.hd hh) ⟨oL,gL,cL,nL,sL⟩ C vd (λi m=>?_) (by lia) hu λh' tk de ke ui kp=>?_
  .have J:i<ds.length:=by rw[<-hlen];exact m
   rw[hU pt];have b:ds.getD i .non=ds[i]:=by rw[aAq,aAg J];rfl
   show ds.getD i .non∈ds;rw[b];exact aCf J
  .obtain⟨⟨o,x,ep,t,T,hc,L,hsl,n,k,msk,pr,led,pl⟩,nd⟩:=ke;have mem:∀d,d∈de↔d∈ds:=λd=>by
    rw[ui];constructor
    .rintro⟨j,Y,b⟩;have wc:j<ds.length:=by rw[<-hlen];exact Y
     have e2:ds.getD j .non=ds[j]:=by rw[aAq,aAg wc];rfl
     rw[<-b,e2];exact aCf wc
    .intro n;obtain⟨j,Y,b⟩:=aBh n;refine⟨j,by rw[hlen];exact Y,?_⟩;show ds.getD j .non=d;rw[aAq,aAg Y,<-b];rfl
   have I2:=l.laid (a:=g.heap.objs.size) (o:=.frz o (.own g.heap.objs.size)) (h':=h') (t':=tk) kp (aAh _) ⟨T,o,T⟩;refine⟨.ref g.heap.objs.size,_,I2,rfl,q g.heap.objs.size o (x.toList.map (·.2)) de c sm (l.hok.fresh<|aAh _) ⟨⟨hc,L,hsl⟩,x,ep,t,n,?_,pl,led,k.tab.asc,rfl⟩ ?_ nd mem⟩
   .have h1:=k.len;have h2:=k.room;simp only[aGe,aAJ,beq_iff_eq,decide_eq_true_eq];exact⟨by simpa using h1,by show t.place.size+t.dummies.size<=t.mask;rw[k.tab.nod];simpa using h2⟩
   .have:∀{x:List (Int×af)} {ds:List D},Paired (EV<|Q1 X.K c g.heap) x ds->w6 X.K c O (x.map (·.2)) ds:=λ{x ds} p=>by
     induction p with
     |nil=>exact .nil
     |cons r _ ih=>exact .cons (MF l r.1) ih
    exact this pr
def IG (h:cq) (v:af):List Int:=open Classical in if p:∃d,aP d=true/\HV h v d then flat p.choose else[]
def eN (b:aP d=true)(a:HV h v d):IG h v=flat d:=by unfold IG;have q:∃d,aP d=true/\HV h v d:=⟨d,b,a⟩;rw[dif_pos q,HV.inj q.choose_spec.2 a]
def bB (e:aP d=true)(c:HV h v d):∃b items,v=.ref b/\IsTup h b items/\IntsAre items.toList (flat d):=by
 rw[(gE e).2]at c;cases c with
 |tup p r=>
  refine⟨_,_,rfl,p,?_⟩;have:∀{a:List af} {l:List Int},HVs h a (l.map D.int)->IntsAre a l:=λ{a l} r=>by
   induction l generalizing a with
   |nil=>cases r;exact .nil
   |cons i l f=>
    cases r with
    |cons r t=>cases r;exact .cons _ _ (f t)
  exact this r
def LW {prog:bu}{w:cp}{A:cf}{E:C7}{s:a9}{x y:af}{d e:D}{f:Bool}{Q:xG}(c:aP d=true)(g:aP e=true)(h:HV s.heap x d)(i:HV s.heap y e)(q:Q (HT.lexLt (flat d) (flat e)) s):bb (bo prog w) A (keyLt' (TS.tupK f) x y) Q E s:=by obtain⟨b,j,rfl,k,l⟩:=bB c h;obtain⟨o,a,rfl,m,n⟩:=bB g i;exact TS.lt_ints f k m l n q
def AF {prog:bu}{w:cp}{A:cf}{E:C7}{s:a9}{vs:List af}{Q:SortKind->a9->Prop}(h:∀x∈vs,∃d,aP d=true/\HV s.heap x d)(u:2<=vs.length)(q:Q (TS.tupK true) s):bb (bo prog w) A (keyKind' vs.toArray) Q E s:=by
 obtain⟨f,i⟩:∃f:af->af,∀x∈vs,∃b a k t,x=.ref b/\IsTup s.heap b a/\a[0]?=some (f x)/\f x=.int k t:=by
  refine⟨λx=>open Classical in if z:∃p,∃b a k t,x=.ref b/\IsTup s.heap b a/\a[0]?=some p/\p=aGr k t then z.choose else .none,λx j=>?_⟩;obtain⟨d,v,B⟩:=h x j;obtain⟨b,a,rfl,C,c⟩:=bB v B;have y:=(gE v).1;have z:∃p,∃g a k t,aCV b=.ref g/\IsTup s.heap g a/\a[0]?=some p/\p=aGr k t:=by
   cases e:a.toList with
   |nil=>rw[e]at c;generalize flat d=l at c y;cases c;exact absurd rfl y
   |cons p I=>
    rw[e]at c;generalize flat d=l at c;cases c with
    |cons k t J=>exact⟨_,b,a,k,t,rfl,C,by rw[<-aAC,e];rfl,rfl⟩
  dsimp only;rw[dif_pos z];obtain⟨g,H,k,t,m,n,o,r⟩:=z.choose_spec;exact⟨g,H,k,t,m,n,o,r⟩
 refine TS.kind_tuples (T:= "int") f (λx j=>?_) (λz=>by rw[z]at u;simp at u) (by decide) q;obtain⟨b,a,k,t,m,n,o,r⟩:=i x j;exact⟨b,a,m,n,o,by rw[r];exact typeIs_int s k t⟩
def iO {K:ka}{H:Hp}{O:bc->Prop}{us b:List af}{ds:List D}{key:af->List Int}(st:w6 K H O us ds)(A:b.Perm us)(B:b.Pairwise λx y=>HT.lexLt (key y) (key x)=false)(C:∀u d,(∃v,RelV v u/\Rep K H O v d)->d∈ds->key u=flat d)(pt:∀d∈ds,aP d=true)(E:ds.Nodup):
  ∃a,w6 K H O b a/\a.Perm ds/\SE a:=by
 obtain⟨a,i,j⟩:=cJ A st;refine⟨a,j,i,?_⟩;have k:a.Nodup:=i.nodup_iff.mpr E;have m:∀d∈a,aP d=true:=λd c=>pt d (i.mem_iff.mp c);have n:∀u d,(∃v,RelV v u/\Rep K H O v d)->d∈a->key u=flat d:=λu d h c=>C u d h (i.mem_iff.mp c);clear A i st E pt C;induction j with
 |nil=>exact .nil
 |@cons u d us ds r t o=>
  have p:=aAy.mp B;have s:=aAR.mp k;refine aAy.mpr ⟨λe f=>?_,o p.2 s.2 (λd c=>m d (.tail _ c)) λu d h c=>n u d h (.tail _ c)⟩;have:∃g∈us,∃v,RelV v g/\Rep K H O v e:=by
   clear o B p s k m n r;induction t with
   |nil=>cases f
   |cons r t o=>
    rcases aAd.mp f with rfl|f
    .exact⟨_,.head _,r⟩
    .obtain⟨g,w,q⟩:=o f;exact⟨g,.tail _ w,q⟩
  obtain⟨g,w,q⟩:=this;have l:=p.1 g w;rw[n g e q (.tail _ f),n u d r (.head _)]at l;cases z:HT.lexLt (flat d) (flat e)with
  |true=>rfl
  |false=>have:=xX (m _<|.head _) (m _<|.tail _ f) (TS.lex_total _ _ z l);subst this;exact absurd f s.1
def bF {p N ig:Pos}{f:Ev->R D}(ha:PB X e f)(hh:X.calm=true)(hu:X.A.units+300<dA)(hg:Gl X "set":=by rfl)(hm:X.mg "set"=none:=by assumption)(hg2:Gl X "sorted":=by rfl)(mr:X.mg "sorted"=none:=by assumption)
  (hv:dq "set"=some (.type "set"):=by decide+kernel) (hv2:dq "sorted"=some (.builtin "sorted"):=by decide+kernel)
  (he:a5 [e] X.env=(false,dz e X.env)::a5 [] X.env:=by rfl) (A8:(cv ig (a5 [] X.env)).any (·.1)=false:=by rfl)
  (jv:a5 [.Call (.Name "set" N) [e] [] ig] X.env=(false,dz (.Call (.Name "set" N) [e] [] ig) X.env)::a5 [] X.env:=by rfl) (yn:(cv pos (a5 [] X.env)).any (·.1)=false:=by rfl):
  PF X (.Call (.Name "sorted" p) [.Call (.Name "set" N) [e] [] ig] [] pos) (λρ=>(f ρ).bind ssR):=by
 refine rR λpins s σ H Q I Ha O0 O ρ E q=>?_;dsimp only at q;refine aAK (N0 I hg2 mr hv2 ?_ (by decide) (by decide));have sv:PA X [.Call (.Name "set" N) [e] [] ig] _:=F9 (VM (p:=N) (B:=aP) (U:=X8) (λh=>⟨N5 h,FM h,_,(gE h).2⟩) M1 ha hh hu hg hm hv he A8) Z8 jv;refine aBr (C4 (sv pos pins s σ H (λvs H2=>∃S o T g c J,vs=[.ref S]/\H2=upd J S (.frz o (.own S))/\f ρ=.ok (.lst c)/\(c.all aP=true/\(X8 c).length<=63)/\Same H J/\J S=none/\a0f X.w o T/\w6 X.K J O T g/\g.Nodup/\(∀d,d∈g↔d∈c)) I ⟨Ha,O0,O,ρ,E,?_⟩)
  λus Y z=>?_) jv yn
 .cases e1:f ρ with
  |ex z=>rw[e1]at q;exact q
  |bad=>rw[e1]at q;exact q.elim
  |ok d=>
   rw[e1,R.aa0]at q;cases d with
   |lst c=>
    simp only[ssR]at q;by_cases hc:c.all aP=true/\(X8 c).length<=63
    .exact⟨hc,λS o T g J sm hS so st nd i=>⟨S,o,T,g,c,J,rfl,rfl,rfl,hc,sm,hS,so,st,nd,i⟩⟩
    .rw[jn hc]at q;exact q.elim
   |_=>exact q.elim
 .obtain⟨vs,H2,I2,r1,S,o,T,g,c,J,ev,eH,ef,⟨hp,xh⟩,sm,hS1,so,st,nd,i⟩:=z;subst ev eH;obtain⟨u,rfl,ru⟩:=vals1 r1;cases ru;rw[ef,R.aa0]at q;simp only[ssR]at q;rw[ji ⟨hp,xh⟩]at q;have pt:∀d∈c,aP d=true:=aBU.mp hp;have zv:∀d∈g,aP d=true:=λd r=>pt d ((i d).mp r);have s12:Same J (upd J S<|.frz o (.own S)):=j3 hS1 _;have og:=st.same s12;obtain⟨hc,ea,ep,t,r,hf,hpln,led,asc,ees⟩:=so;have goS:=(I2.hok S _ j2).1;have hS2:SI.IsSet Y.heap S ea ep t:=⟨o,goS,hc.1,r⟩;have hsl:(X8 c).Perm g:=by
   letI:DecidableEq D:=λa b=>aDU _
   exact(aDz (HQ<|aI c) nd).mpr λd=>by rw[M1 pt,i]
  have jf:ea.size=g.length:=by have:=st.length;rw[<-ees]at this;simpa using this
  have h63':g.length<=63:=by rw[<-hsl.length_eq];exact xh
  have wp:=SI.walkL_perm X.w S ea ep;have wpv:((SI.walkL X.w S ea ep).map (·.2)).Perm T:=by rw[<-ees];exact wp.map _
  have j:∀u∈(SI.walkL X.w S ea ep).map (·.2),∃d,d∈g/\aP d=true/\HV Y.heap u d:=λu hu=>by obtain⟨d,r,v,rv,rp⟩:=og.get (wpv.mem_iff.mp hu);exact⟨d,r,zv d r,Y9 I2 rp (N5<|zv d r) rv⟩
  refine TS.sorted_keys (vs:=(SI.walkL X.w S ea ep).map (·.2)) (f:=true) (key:=IG Y.heap) (C:=λs'=>∃h' L,s'={Y with heap:=h',toks:=L}/\∀b o,Y.heap.get? b=some o->h'.get? b=some o)
   (λ{Q'} hq=>SI.collect_set (by simp[I2.ok.hd hh]) hS2 hf hpln (λnb=>by rw[led];simpa using nb) asc (by rw[jf];exact aAw h63' (by decide)) λh' L k=>hq _ ⟨h',L,rfl,k⟩)
   (λs' ⟨h',L,m,k⟩ s6 k6 x hx y hy prog w A E hA {Q} qq=>?_) (λh2 s' ⟨h',L,m,k⟩ s6 k6 A {Q} qq=>?_) (by rw[aAj,wp.length_eq,aBd,jf];lia) λs' ja h' l ⟨h1,L,m,k⟩ pm srt k2 hl ⟨n,gl⟩=>?_
  .subst m;obtain⟨d,_,pd,vt⟩:=j x hx;obtain⟨d',_,pd',yo⟩:=j y hy;rw[eN pd vt,eN pd' yo]at qq;exact LW pd pd' (vt.keeps λb o e _=>k6 b o (k b o e)) (yo.keeps λb o e _=>k6 b o (k b o e)) qq
  .subst m;refine AF (λx hx=>?_) h2 qq;obtain⟨d,_,pd,vt⟩:=j x hx;exact⟨d,pd,vt.keeps λb o e _=>k6 b o (k b o e)⟩
  .subst m;obtain⟨uc,st3,N,yp⟩:=iO (key:=IG Y.heap) og (pm.trans wpv) srt (by rintro u d ⟨v,rv,rp⟩ r;exact eN (zv d r) (Y9 I2 rp (N5<|zv d r) rv)) zv nd;have e2:uc=X8 c:=iZ yp (aI c) λd=>by rw[N.mem_iff,i,M1 pt]
   subst e2;obtain⟨wv,ua,rr⟩:=st3.ac6;have I2':=I2.kept (h':=h1) (t':=L) k;have I3:=I2'.laid (a:=l) (o:=.lst wv) (h':=h') (t':=L) k2 hl ⟨by rw[rr.length];exact aAw xh (by decide),ja,n,ua,gl⟩;exact⟨.ref l,_,I3,rfl,q wv _ l (sm.trans s12) (I2'.hok.fresh hl) rr⟩
end
end DL
namespace SZ
open PySem
abbrev Zs (h:cq)(z TI TO:bc)(a b:af):Prop:=h.get? z=some {cls:=.type "zip",dict:=none,data:=.fields #[a,b,.bool false,.ref TI,.ref TO],slots:=#[]}
def zE (b:af):Prop:=b=.none\/∃a:Nat,b=fb a
section
def alive {Q:Option Obj->a9->Prop}(h:Q (s.heap.get? c) s):bb (bo prog w) A (loadIfAlive c) Q E s:=λΓ p _=>by unfold loadIfAlive;rw[Sem.wp_loadIfAlive];simpa using h
def nE {Q:xG}(hz:Zs s.heap z TI TO b c)(i:zE b)(e:Q true s)(f:∀h' d,Zs h' z TI TO b d->Heap.SameBut z s.heap h'->Q false {s with heap:=h'}):bb (bo prog w) A (aBV (.ref z)) Q E s:=by
 unfold aBV;refine aAa (aCT hz rfl (x:=b) rfl ?_);rcases i with rfl|⟨a,rfl⟩
 .exact aAb e
 .show bb _ _ (loadIfAlive (aEC (a:Int))>>=_) _ _ _;refine aAa (alive ?_);by_cases g:(s.heap.get?<|aEC (a:Int)).isNone=true
  .rw[ji g];exact aAb e
  .rw[jn g];refine aAa (aCT hz rfl (x:=c) rfl ?_);by_cases h:(c !=aDw true)=true
   .rw[ji h];refine aAa (aCb hz (by simp) λh' j k=>aAb (f h' (.bool true) j k))
   .rw[jn h];exact aAb (f s.heap c hz ⟨rfl,λ_ _=>rfl⟩)
def NM {Q:C7}(D:ZipApart z TI TO q r U l2)(hz:Zs s.heap z TI TO f0 f1)(ho:zE f0)(xi:gA s.heap TI (.ref q) (.ref r))(vv:gA s.heap TO a b)(h1:s.heap.IsListIter q U k)(h2:s.heap.IsListIter r l2 k)(uo:s.heap.IsList U Y)(oa:s.heap.IsList l2 ys)(hx:Y[k]?=some x)(hy:ys[k]?=some y)(hQ:∀h' T f0' H a' b',Zs h' z TI TO f0' H->zE f0'->gA h' TO a' b'->h'.IsListIter q U (k+1)->h'.IsListIter r l2 (k+1)->s.heap.objs.size<=T->gA h' T x y->
   (∀c o,c≠z->c≠TO->c≠q->c≠r->s.heap.get? c=some o->h'.get? c=some o)->Q (.ref T) {s with heap:=h'}):
  bb (bo prog w) A (Builtin.«zip.__next__» ⟨[.ref z],[]⟩) (λfin s'=>∃v,fin=.done (.ret v)/\Q v s') E s:=by
 show bb _ _ (field (.ref z) 2>>=_) _ _ _;refine aAa (aCT hz rfl (x:=.bool false) rfl ?_);show bb _ _ (field (.ref z) 3>>=_) _ _ _;refine aAa (aCT hz rfl (x:=.ref TI) rfl ?_);refine aAa (aBR xi rfl ?_);show bb _ _ (aBV (.ref z)>>=_) _ _ _;refine aAa (nE hz ho ?_ λu H l d=>?_)
 .simp only[if_true];refine aAa (aDi ?_);refine aAa (aCT hz rfl (x:=.ref TO) rfl ?_);refine aAa (aCb hz (by simp) λu l d=>?_);replace l:Zs u z TI TO .ellipsis f1:=l;refine aAa ?_;simp only[aEn,aEA,aCZ,aEb];refine aAa (aAa<|wpAny_onRaise ?_);show bb _ _ (aBS (.ref q)>>=_) _ _ _;refine aAa (aDk (h1.extBut d.extBut D.i1z) (uo.extBut d.extBut D.l1z) hx λjo I i=>aAb ?_);have B:gA jo TO a b:=i.extBut _ _ D.TOi1 (d.extBut _ _ D.TOz vv);refine aAa (aBR B rfl ?_);refine aAa (wpAny_updateSeq_pair B λaA m j=>?_);replace m:gA aA TO x b:=m;refine aAa (aDZ<|aAb ?_);refine aAa (aAa<|wpAny_onRaise ?_);show bb _ _ (aBS (.ref r)>>=_) _ _ _;refine aAa (aDk (((h2.extBut d.extBut D.i2z).extBut i.extBut D.i12.symm).extBut j.extBut D.TOi2.symm)
   (((oa.extBut d.extBut D.l2z).extBut i.extBut D.l2i1).extBut j.extBut D.l2TO) hy λJ L n=>aAb ?_)
  have f:gA J TO x b:=n.extBut _ _ D.TOi2 m;refine aAa (aBR f rfl ?_);refine aAa (wpAny_updateSeq_pair f λg h p=>?_);replace h:gA g TO x y:=h;refine aAa (aDZ<|aAb<|aAb ?_);refine aAa (aBR h rfl ?_);refine aAa (aFS ?_);have jf:g.objs.size=s.heap.objs.size:=by rw[p.1,n.1,j.1,i.1,d.1]
  have hz3:Zs g z TI TO .ellipsis f1:=p.extBut _ _ D.TOz.symm (n.extBut _ _ D.i2z.symm<|j.extBut _ _ D.TOz.symm<|i.extBut _ _ D.i1z.symm l);have hk3:∀c o,c≠z->c≠TO->c≠q->c≠r->s.heap.get? c=some o->g.get? c=some o:=λc o t c2 c3 c4 e=>p.extBut _ _ c2 (n.extBut _ _ c4<|j.extBut _ _ c2<|i.extBut _ _ c3<|d.extBut _ _ t e)
  have h12:g.IsListIter q U (k+1):=((I.extBut j.extBut D.TOi1.symm).extBut n.extBut D.i12).extBut p.extBut D.TOi1.symm;have h21:g.IsListIter r l2 (k+1):=L.extBut p.extBut D.TOi2.symm;have C:z<g.objs.size:=aAf hz3;show bb _ _ (aDE (.ref z) (.ref g.objs.size)>>=_) _ _ _;refine aAa ?_;unfold aDE;have hz5:Zs (g.push {cls:=.type "tuple",data:=.seq #[x,y]}) z TI TO .ellipsis f1:=aAc _ hz3;refine aAa (aCb hz5 (by simp) λaC N hs8=>?_);replace N:Zs aC z TI TO (fb g.objs.size) f1:=N;refine aCb N (by simp) λaB O hs9=>?_;replace O:Zs aB z TI TO (fb g.objs.size) (.bool false):=O;have up:∀c o,c≠z->g.get? c=some o->aB.get? c=some o:=λc o t e=>hs9.extBut _ _ t (hs8.extBut _ _ t<|aAc _ e);have hT0:gA aB g.objs.size x y:=hs9.extBut _ _ (aDs C) (hs8.extBut _ _ (aDs C)<|aAr _ rfl);refine aAb ⟨_,rfl,?_⟩;exact hQ aB g.objs.size _ _ x y O (.inr ⟨_,rfl⟩) (up _ _ D.TOz h) (h12.at λo e=>up _ o D.i1z e) (h21.at λo e=>up _ o D.i2z e) (aEi jf.symm) hT0 λc o t c2 c3 c4 e=>up c o t (hk3 c o t c2 c3 c4 e)
 .simp only[aAn,if_false];refine aAa ?_;show bb _ _ (forIn (#[.ref q,.ref r]:Array af) _ _) _ _ _;rw[<-aCw];simp only[aCZ,aEb];refine aAa (aAa<|aAP ?_);show bb _ _ (aBS (.ref q)>>=_) _ _ _;refine aAa (aDk (h1.extBut d.extBut D.i1z) (uo.extBut d.extBut D.l1z) hx λjo I i=>aAb ?_);refine aAb ?_;refine aAa (aAa<|aAP ?_);show bb _ _ (aBS (.ref r)>>=_) _ _ _;refine aAa (aDk ((h2.extBut d.extBut D.i2z).extBut i.extBut D.i12.symm) ((oa.extBut d.extBut D.l2z).extBut i.extBut D.l2i1) hy λJ L n=>aAb ?_);refine aAb (aAb ?_);have jf:J.objs.size=s.heap.objs.size:=by rw[n.1,i.1,d.1]
  have hz6:Zs J z TI TO f0 H:=n.extBut _ _ D.i2z.symm (i.extBut _ _ D.i1z.symm l);have f:gA J TO a b:=n.extBut _ _ D.TOi2 (i.extBut _ _ D.TOi1<|d.extBut _ _ D.TOz vv);have h13:J.IsListIter q U (k+1):=I.extBut n.extBut D.i12;show bb _ _ (newTuple [x,y]>>=_) _ _ _;refine aAa (aFS ?_);refine aAb ⟨_,rfl,?_⟩;exact hQ _ J.objs.size _ _ a b (aAc _ hz6) ho (aAc _ f) (h13.at λo e=>aAc _ e) (L.at λo e=>aAc _ e) (aEi jf.symm) (aAr _ rfl)
   λc o t c2 c3 c4 e=>aAc _ (n.extBut _ _ c4<|i.extBut _ _ c3<|d.extBut _ _ t e)
def UN {Q:Fin->a9->Prop}(y:A.handled=none)(D:ZipApart z TI TO i n B C)(hz:Zs s.heap z TI TO O H)(T:zE O)(U:gA s.heap TI (.ref i) (.ref n))(vv:gA s.heap TO a b)
  (I:s.heap.IsListIter i B k) (h2:s.heap.IsListIter n C k) (J:s.heap.IsList B Y) (oa:s.heap.IsList C ys) (L:Y[k]?=none)
  (N:∀h' e,(∀c o,c≠z->c≠TO->c≠i->c≠n->s.heap.get? c=some o->h'.get? c=some o)->(∃o,h'.get? e=some o/\o.cls=.type "StopIteration")->E (.ref e) {s with heap:=h'}):
  bb (bo prog w) A (Builtin.«zip.__next__» ⟨[.ref z],[]⟩) Q E s:=by
 show bb _ _ (field (.ref z) 2>>=_) _ _ _;refine aAa (aCT hz rfl (x:=.bool false) rfl ?_);show bb _ _ (field (.ref z) 3>>=_) _ _ _;refine aAa (aCT hz rfl (x:=.ref TI) rfl ?_);refine aAa (aBR U rfl ?_);show bb _ _ (aBV (.ref z)>>=_) _ _ _;refine aAa (nE hz T ?_ λf f1' d g=>?_)
 .simp only[if_true];refine aAa (aDi ?_);refine aAa (aCT hz rfl (x:=.ref TO) rfl ?_);refine aAa (aCb hz (by simp) λf d g=>?_);replace d:Zs f z TI TO .ellipsis H:=d;refine aAa ?_;simp only[aEn,aEA,aCZ,aEb];refine aAa (aAa<|wpAny_onRaise ?_);show bb _ _ (aBS (.ref i)>>=_) _ _ _;refine aAa (wpAny_nextOf_list_end y (I.extBut g.extBut D.i1z) (J.extBut g.extBut D.l1z) L λr e p t=>?_);obtain⟨oe,h,j⟩:=t;have l:Zs r z TI TO .ellipsis H:=p _ _ D.i1z.symm d;have u:e≠z:=λx=>by subst x;rw[l]at h;cases h;simp at j
  exact aCb l (by simp) λaA _ m=>N aA e (λc o q _ v _ x=>m.extBut _ _ q (p _ _ v<|g.extBut _ _ q x)) ⟨oe,m.extBut _ _ u h,j⟩
 .simp only[aAn,if_false];refine aAa ?_;show bb _ _ (forIn (#[.ref i,.ref n]:Array af) _ _) _ _ _;rw[<-aCw];simp only[aCZ,aEb];refine aAa (aAa<|aAP ?_);show bb _ _ (aBS (.ref i)>>=_) _ _ _;exact aAa (wpAny_nextOf_list_end y (I.extBut g.extBut D.i1z) (J.extBut g.extBut D.l1z) L λr e p t=>N r e (λc o q _ v _ x=>p _ _ v (g.extBut _ _ q x)) t)
end
def KT (z TI TO c d e f:bc)(Y j:Array af)(i:Nat)(h:cq):Prop:=
 (∃g k,Zs h z TI TO g k/\zE g)/\gA h TI (.ref c) (.ref d)/\(∃a b,gA h TO a b)/\h.IsListIter c e i/\h.IsListIter d f i/\h.IsList e Y/\h.IsList f j
section
variable{s:a9}
def KT.type (h:KT z TI TO b c d e Y f i s.heap):s.TypeIs (.ref z) "zip":=by obtain⟨⟨g,j,a,_⟩,_⟩:=h;exact⟨_,a,rfl⟩
def KT.keeps (x:KT z TI TO c d f g Y j i h)(k:∀b o,b∈[z,TI,TO,c,d,f,g]->h.get? b=some o->h'.get? b=some o):KT z TI TO c d f g Y j i h':=by obtain⟨⟨l,m,n,p⟩,q,⟨a,b,r⟩,t,u,v,w⟩:=x;exact⟨⟨l,m,k z _ (by simp) n,p⟩,k TI _ (by simp) q,⟨a,b,k TO _ (by simp) r⟩,t.at λo e=>k c o (by simp) e,u.at λo e=>k d o (by simp) e,v.at λo e=>k f o (by simp) e,w.at λo e=>k g o (by simp) e⟩
def NB {Q:Option af->a9->Prop}(D:ZipApart z TI TO h j m n)(hl:Y.size=d.size)(st:KT z TI TO h j m n Y d i s.heap)(B:i<Y.size)(C:∀h' T x y,Y[i]?=some x->d[i]?=some y->KT z TI TO h j m n Y d (i+1) h'->s.heap.objs.size<=T->gA h' T x y->(∀c o,c∉[z,TO,h,j]->s.heap.get? c=some o->h'.get? c=some o)->Q (some (.ref T)) {s with heap:=h'}):
  bb (bo prog w) A (gv (.ref z)) Q E s:=by
 have p:=st.type;obtain⟨⟨f0,f1,H,I⟩,q,⟨a,b,J⟩,L,N,r,t⟩:=st;have u:Y[i]?=some Y[i]:=aAH B;have v:d[i]?=some (d[i]'(by lia)):=aAH (by lia);unfold gv;refine aAa (aEs (aCA (name:=aDu "__next__") p aDV
  (aBy aDV p F.entry_zip_next (NM D H I q J L N r t u v λh' T k l O U e1 e2 e3 e4 e5 e6 e7 g=>aAb ?_)<|F.args_zip_next_1 _)))
 refine C h' T _ _ u v ⟨⟨k,l,e1,e2⟩,g _ _ D.TIz D.TITO D.TIi1 D.TIi2 q,⟨O,U,e3⟩,e4,e5,r.at λo e=>g _ o D.l1z D.l1TO D.l1i1 D.l1i2 e,t.at λo e=>g _ o D.l2z D.l2TO D.l2i1 D.l2i2 e⟩ e6 e7 λc o f e=>?_;simp only[aAd,aAG,or_false,not_or]at f;exact g c o f.1 f.2.1 f.2.2.1 f.2.2.2 e
def LF {Q:Option af->a9->Prop}(i:A.handled=none)(D:ZipApart z TI TO f g j k)(st:KT z TI TO f g j k Y C Y.size s.heap)
  (l:∀h',(∀c o,c∉[z,TO,f,g]->s.heap.get? c=some o->h'.get? c=some o)->Q none {s with heap:=h'}):bb (bo prog w) A (gv (.ref z)) Q E s:=by
 have h:=st.type;obtain⟨⟨H,I,m,n⟩,p,⟨a,b,q⟩,r,t,u,v⟩:=st;unfold gv;refine aAa (aEs (aCA (name:=aDu "__next__") h aDV
  (aBy aDV h F.entry_zip_next (UN (by simpa using i) D m n p q r t u v (aCN<|aAh _) λh' e x y=>?_)<|F.args_zip_next_1 _)))
 obtain⟨o,B,d⟩:=y;refine aAa (aDG (T:= "StopIteration") (b:=true) ⟨o,B,d⟩ isSubtype_stop ?_);refine aAb (l _ λc o d e=>?_);simp only[aAd,aAG,or_false,not_or]at d;exact x c o d.1 d.2.1 d.2.2.1 d.2.2.2 e
def Pairs (h0:cq)(Y a B:Array af)(i:Nat)(h:cq)(off:List bc):Prop:=B.size=i/\∀(j:Nat) (v:af),B[j]?=some v->∃T x y,v=.ref T/\Y[j]?=some x/\a[j]?=some y/\gA h T x y/\T∉off/\h0.get? T=none
def PZ (hh:A.handled=none)(D:ZipApart z TI TO g l O Q)(hl:Y.size=U.size)(hn:Y.size<=sizeLine)(S:bc)(ue:S∉[z,TI,TO,g,l,O,Q])(res:af)(h0:cq):
  ∀(k i:Nat) (s:a9) (B:Array af) (c:Nat),Y.size-i=k->i<=Y.size->(∀b o,b∉[z,TO,g,l,S]->h0.get? b=some o->s.heap.get? b=some o)->KT z TI TO g l O Q Y U i s.heap->s.heap.get? S=some {cls:=.type "list",dict:=none,data:=.seq B c,slots:=#[]}->Pairs h0 Y U B i s.heap [z,TO,g,l,S]->
  (∀h' L c',(∀b o,b∉[z,TO,g,l,S]->s.heap.get? b=some o->h'.get? b=some o)->h'.get? S=some {cls:=.type "list",dict:=none,data:=.seq L c',slots:=#[]}->Pairs h0 Y U L Y.size h' [z,TO,g,l,S]->R (.ok (.ret res)) {s with heap:=h'})->
  f7 (bo prog w) A (.builtin "list.extend.loop" ⟨[.ref S,.ref z,res],[]⟩) R s:=by
 have C:S∉[z,TO,g,l]:=λh=>ue (by simp only[aAd,aAG,or_false]at h⊢;rcases h with h|h|h|h<;>simp[h]);have m:∀b,b∉[z,TO,g,l,S]->b∉[z,TO,g,l]:=λb h q=>h (by simp only[aAd,aAG,or_false]at q⊢;rcases q with q|q|q|q<;>simp[q]);intro k;induction k with
 |zero=>
  intro i s B c hk hi p N E n hR;have qo:i=Y.size:=by lia
  subst qo;refine aBI F.entry_extend_loop ?_;rw[aBm aDd _];show bb _ A.in1 (gv (.ref z)>>=_) _ _ s;refine aAa (LF (by simpa using hh) D N λh' kp=>?_);refine aAb (hR h' B c (λb o d e=>kp b o (m b d) e) (kp S _ C E) ⟨n.1,λj v t=>?_⟩);obtain⟨T,x,y,e1,e2,e3,e4,u,e6⟩:=n.2 j v t;exact⟨T,x,y,e1,e2,e3,kp T _ (m T u) e4,u,e6⟩
 |succ k ih=>
  intro i s B c hk hi p N E n hR;have bg:i<Y.size:=by lia
  refine aBI F.entry_extend_loop ?_;rw[aBm aDd _];show bb _ A.in1 (gv (.ref z)>>=_) _ _ s;refine aAa (NB D hl N bg λh' T x y hx hy nu hT hP kp=>?_);have ke:=kp S _ C E;have f:∀b o,s.heap.get? b=some o->T≠b:=λb o e q=>absurd (aAs (aAf e) hT) (by rw[q];exact aBl _);obtain⟨⟨f0,f1,hz,_⟩,_,⟨a,b,vv⟩,⟨o1,g1,_⟩,⟨o2,g2,_⟩,_⟩:=id N;have H:T∉[z,TO,g,l,S]:=by simp only[aAd,aAG,or_false,not_or];exact⟨f _ _ hz,f _ _ vv,f _ _ g1,f _ _ g2,f _ _ E⟩
  show bb _ A.in1 (iu S (·.push (.ref T))>>=_) _ _ _;refine aAa ?_;have I:∀b o,b≠S->h'.get? b=some o->(h'.update S (aBO (·.push (.ref T)))).get? b=some o:=λb o d e=>(aAD _ _<|aCi d).trans e;have neS:∀b,b∈[z,TI,TO,g,l,O,Q]->b≠S:=λb d q=>ue (q▸d);refine aCd ke rfl (aAb ⟨aCa aDd _,ih (i+1) _ (B.push<|.ref T) _ (by lia) bg (λb o d e=>I b o (λq=>d (by simp[q])) (kp b o (m b d)<|p b o d e)) (nu.keeps λb o d e=>I b o (neS b d) e) (aBs _ ke rfl) ⟨by rw[Array.size_push,n.1],λj v t=>?_⟩ λh'' L c' kp' yi r=>?_⟩)
   (by rw[n.1];lia) (by show(B.push<|.ref T).size<=sizeLine+1;rw[Array.size_push,n.1];lia)
  .rw[Array.getElem?_push]at t;split at t
   .rename_i q;cases t;rw[n.1]at q;subst q;refine⟨T,x,y,rfl,hx,hy,I T _ (f _ _ E) hP,H,?_⟩;cases q0:h0.get? T with
    |none=>rfl
    |some o=>exact absurd rfl (f T o<|p T o H q0)
   .obtain⟨J,x',y',e1,e2,e3,e4,u,e6⟩:=n.2 j v t;have n5:J≠S:=λq=>u (by simp[q]);exact⟨J,x',y',e1,e2,e3,I J _ n5 (kp J _ (m J u) e4),u,e6⟩
  .refine hR h'' L c' (λb o d e=>kp' b o d (I b o (λq=>d (by simp[q]))<|kp b o (m b d) e)) yi r
end
section
def dM {Q:C7}(St:cq->Prop)(O:∀d:a9,St d.heap->d.TypeIs (.ref I) T)(C:∀h h',St h->(∀b o,b≠s.heap.objs.size->h.get? b=some o->h'.get? b=some o)->St h')(t:I≠s.heap.objs.size)
  (n1:(aCv T==aCv "list")=false) (n2:(aCv T==aCv "tuple")=false) (U:∀{M:je} {A:cf} {E:C7} {s:a9} {Q:Fin->a9->Prop} {a b:Sem Fin},(room=true->bb M A a Q E s)->(room=false->bb M A b Q E s)->bb M A (if(room||["set", "frozenset", "dict", "dict_keys", "dict_values", "dict_items"].any (aCv T==aCv ·))=true then a else b) Q E s)
  (j:∀(d:a9) (Q:C7) (E:C7),St d.heap->Q (.ref I) d->bb (bo prog w) A.in1.in1 (pyIter (.ref I)) Q E d)
  (hint:∀(d:a9) (Q:xG) (E:C7),St d.heap->Q room d->bb (bo prog w) A.in1.in1 (aCK (.ref I)) Q E d) (Y:St s.heap)
  (f:∀(p:cq) (c:Nat) (R:Result->a9->Prop),(∀b o,s.heap.get? b=some o->p.get? b=some o)->St p->p.get? s.heap.objs.size=some {cls:=.type "list",dict:=none,data:=.seq #[] c,slots:=#[]}->(∀s',Q (.ref s.heap.objs.size) s'->R (.ok (.ret .none)) s')->
   f7 (bo prog w) A.in1 (.builtin "list.extend.loop" ⟨[.ref s.heap.objs.size,.ref I,.none],[]⟩) R {s with heap:=p}):
  bb (bo prog w) A (call (.type "list") [.ref I]) Q E s:=by
 refine callType_codes (Q₁:=λk H=>k=.ref s.heap.objs.size/\H={s with heap:=s.heap.push {cls:=.type "list",data:=.seq #[]}}) F.called_list (F.typeCall_list_1 _) F.entry_list_init
  (code_list_new _ ⟨rfl,rfl⟩) λk H l=>?_
 obtain⟨rfl,rfl⟩:=l;have r:(s.heap.push {cls:=.type "list",data:=.seq #[]}).get? s.heap.objs.size=some {cls:=.type "list",data:=.seq #[]}:=aAr _ rfl;have J:∀b o,s.heap.get? b=some o->b≠s.heap.objs.size:=λb o e=>aAk (aAf e);refine⟨⟨_,r,rfl⟩,F.args_list_init_2 _ _,?_⟩;show bb _ A.in1.in1 (do let u<-aCM (.ref s.heap.objs.size);Builtin.List.listUpdate (.ref s.heap.objs.size) (λ_=>#[]);letGo u.toList.reverse;aCc (.ref s.heap.objs.size) (.ref I) .none) _ _ _;refine aAa ?_;unfold aCM;refine aAa (aBR r rfl<|aAb ?_);show bb _ A.in1.in1 (iu s.heap.objs.size (λ_=>#[])>>=λ_=>letGo (#[]:Array af).toList.reverse>>=λ_=>aCc (.ref s.heap.objs.size) (.ref I) .none) _ _ _;refine aAa (aCd r rfl ?_);have i:=aBs (aBO<|λ_=>(#[]:Array af)) r rfl;refine aAa (aDZ ?_);generalize v:(s.heap.push {cls:=.type "list",data:=.seq #[]}).update s.heap.objs.size (aBO<|λ_=>(#[]:Array af))=g at*
 have x:∀b o,s.heap.get? b=some o->g.get? b=some o:=λb o e=>by rw[<-v];exact(aAD _ _<|aCi<|J b o e).trans (aAc _ e)
 have m:St g:=C s.heap g Y λb o _ e=>x b o e;have y:aDa (.ref s.heap.objs.size) (.ref I)=false:=by simp[aDa,aCi t]
 have z:Shared.TypeIs {s with heap:=g} (.ref I) T:=O {s with heap:=g} m;unfold aCc;refine aAa (aDI z ?_);simp only[y,n1,n2,Bool.or_false,aAn,if_false];refine aAa (j _ _ _ m ?_);refine aAa (aAP<|hint _ _ _ m ?_);refine U (λ_=>?_) (λ_=>?_)
 .show bb _ A.in1.in1 (rule "list.extend.makes-room">>=λ_=>aFA (.ref s.heap.objs.size)>>=λ_=>again (.builtin "list.extend.loop" ⟨[.ref s.heap.objs.size,.ref I,.none],[]⟩)) _ _ _;refine aAa (aDi ?_);refine aAa ?_;show bb _ A.in1.in1 (iu s.heap.objs.size (·.push .none)>>=λ_=>iu s.heap.objs.size (·.pop)) _ _ _;refine aAa (aCd i rfl ?_);have n:=aBs (aBO (·.push Value.none)) i rfl;refine aCd (hz:=by seq_fits) n rfl ?_;have B:=aBs (aBO (·.pop)) n rfl;have L:∀b o,b≠s.heap.objs.size->g.get? b=some o->((g.update s.heap.objs.size (aBO (·.push Value.none))).update s.heap.objs.size (aBO (·.pop))).get? b=some o:=
   λb o N e=>(aAD _ _<|aCi N).trans ((aAD _ _<|aCi N).trans e)
  exact aAb ⟨aCa aDd _,f _ _ _ (λb o e=>L b o (J b o e) (x b o e)) (C g _ m L) B λs' q=>⟨rfl,q⟩⟩
 .exact aAb ⟨aCa aDd _,f _ _ _ x m i λs' q=>⟨rfl,q⟩⟩
def KC:typeLookup (.type "zip") "__len__"=pure none:=by rw[aDv,aCu];kernel_rfl
def DO:typeLookup (.type "zip") "__length_hint__"=pure none:=by rw[aDv,aCu];kernel_rfl
def LX {Q:C7}(u:A.handled=none)(D:ZipApart z TI TO f g i l)(y:Y.size=m.size)(C:Y.size<=sizeLine)(st:KT z TI TO f g i l Y m 0 s.heap)(H:∀h' B c,(∀b o,b∉[z,TO,f,g]->s.heap.get? b=some o->h'.get? b=some o)->h'.get? s.heap.objs.size=some {cls:=.type "list",dict:=none,data:=.seq B c,slots:=#[]}->Pairs s.heap Y m B Y.size h' [z,TO,f,g,s.heap.objs.size]->Q (.ref s.heap.objs.size) {s with heap:=h'}):
  bb (bo prog w) A (call (.type "list") [.ref z]) Q E s:=by
 have lt:∀b∈[z,TI,TO,f,g,i,l],b≠s.heap.objs.size:=λb d=>by
  obtain⟨⟨I,J,p,_⟩,L,⟨a,b',N⟩,⟨o1,O,_⟩,⟨o2,U,_⟩,⟨o3,g3,_⟩,⟨o4,g4,_⟩⟩:=st;simp only[aAd,aAG,or_false]at d;rcases d with rfl|rfl|rfl|rfl|rfl|rfl|rfl
  .exact aAk (aAf p)
  .exact aAk (aAf L)
  .exact aAk (aAf N)
  .exact aAk (aAf O)
  .exact aAk (aAf U)
  .exact aAk (aAf g3)
  .exact aAk (aAf g4)
 refine dM (T:= "zip") (room:=true) (KT z TI TO f g i l Y m 0) (λn h=>h.type) (λh h' x k=>x.keeps λb o d e=>k b o (lt b d) e) (lt z (by simp)) (by decide) (by decide) (λr h2=>by rw[ji (by decide)];exact r rfl)
  (λn Q E x q=>?_) (λn Q E x q=>?_) st λr c R t XS hS hR=>?_
 .obtain⟨⟨I,J,p,_⟩,_⟩:=id x;refine aFk x.type F.slot_zip_iter (aBy F.slot_zip_iter x.type F.entry_zip_iter ?_ (F.args_zip_iter_1 _));show bb _ _ (ret<|.ref z) _ _ n;exact aAb ⟨_,rfl, "zip",_,x.type,aDV.lookup,q⟩
 .unfold aCK;refine aAa (aBz x.type KC ?_);show bb _ _ (specialOf (aCV z) (aDu "__length_hint__")>>=_) _ _ _;exact aAa (aBz x.type DO<|aAb q)
 .refine PZ (by simpa using u) D y C s.heap.objs.size (λh=>lt _ h rfl) .none s.heap Y.size 0 _ #[] c (by lia) (aBe _) (λb o _ e=>t b o e) XS hS ⟨rfl,λj v h=>by simp at h⟩ λh' km c' kp ke hP=>hR _ (H h' km c' (λb o d e=>kp b o ?_ (t b o e)) ke hP);have:=aAk (aAf e);simp only[aAd,aAG,or_false,not_or]at d⊢;exact⟨d.1,d.2.1,d.2.2.1,d.2.2.2,this⟩
def HP:typeLookup (.type "list_reverseiterator") "__len__"=pure none:=by rw[aDv,aCu];kernel_rfl
def LO:typeLookup (.type "list_reverseiterator") "__length_hint__"=pure (some (.builtin "list_reverseiterator.__length_hint__")):=by rw[aDv,aCu];kernel_rfl
def NL {Q:C7}(C:A.handled=none)(H:l≠r)(I:Y.size<=sizeLine)(t:s.heap.IsRevIter r l ((Y.size:Int)-1))(u:s.heap.IsList l Y)(J:∀h' tk c,(∀b o,b≠r->s.heap.get? b=some o->h'.get? b=some o)->h'.get? s.heap.objs.size=some {cls:=.type "list",dict:=none,data:=.seq Y.reverse c,slots:=#[]}->Q (.ref s.heap.objs.size) {s with heap:=h',toks:=tk}):
  bb (bo prog w) A (call (.type "list") [.ref r]) Q E s:=by
 have m:r≠s.heap.objs.size:=by obtain⟨o,g,_⟩:=t;exact aAk (aAf g)
 have v:l≠s.heap.objs.size:=by obtain⟨o,g,_⟩:=u;exact aAk (aAf g)
 refine dM (T:= "list_reverseiterator") (room:=false) (λh=>h.IsRevIter r l ((Y.size:Int)-1)/\h.IsList l Y) (λy h=>h.1.typeIs) (λh h' x k=>⟨x.1.at λo e=>k r o m e,x.2.at λo e=>k l o v e⟩) m (by decide) (by decide)
  (λL N=>by rw[jn (by decide)];exact N rfl) (λy Q E x q=>wpAny_pyIter_revIter x.1 q) (λy Q E x q=>?_) ⟨t,u⟩ λL c R O XS U hR=>?_
 .have n:=x.1.typeIs;unfold aCK;refine aAa (aBz n HP ?_);show bb _ _ (specialOf (aCV r) (aDu "__length_hint__")>>=_) _ _ _;refine aAa (aBz n LO ?_)
  (generalize hid:("list_reverseiterator.__length_hint__":String)=a;(fail_if_success (clear hid a));wp_delta;rw[show splitId a=some ("list_reverseiterator", "__length_hint__")from by subst hid;decide+kernel];subst hid)
  refine aAa (aDG (b:=true) n (by rw[aEX];kernel_rfl) ?_);exact aAb q
 .have W:=(Walks.listRev (prog:=prog) (w:=w) (A:=A.in1.in1) (by simp[C]) r l H Y).toS;refine codeAny_extend_loopS W I s.heap.objs.size (by simp only[aAd,aAG,or_false,not_or];exact⟨aCi m,aCi v⟩) .none Y.size 0 _ #[] c (by lia) (aBe _) ⟨aBe _,by simpa using XS.1,XS.2⟩ U (ItemsOf.nil _) λf z c' j ke p=>hR _ ?_;have ea:z=Y.reverse:=by
   apply Array.ext';apply aFe;intro i;rw[aAC,aAC];by_cases B:i<Y.size
   .have d:i<z.size:=by rw[p.1];exact B
    have:=p.2 i _ (aAH d);rw[aAH d,Array.getElem?_reverse B,this]
   .rw[aCN (by rw[p.1];lia),aCN (by simp;lia)]
  subst ea;have g0:f.gens=s.gens:=j.gens;have d0:f.drawn=s.drawn:=j.drawn;have o0:f.os=s.os:=j.os;obtain⟨h',g',d',zu,os'⟩:=f;subst g0 d0 o0;refine J h' zu c' (λb o hb e=>?_) ke;exact j.heap b o (by simp only[aAd,aAG,or_false,not_or];exact⟨aAk (aAf e),hb⟩) (O b o e)
end
end SZ
namespace DL
open PySem PySem.Spec L2
open PyProof.Rows hiding St
section
variable [Tabs]
section
def tx:D->R (List D)
 |.lst Y=>.ok Y.reverse
 |_=>.bad
def CH (ha:PB X e f)(hh:X.calm=true)(hg:Gl X "reversed":=by rfl)(hm:X.mg "reversed"=none:=by assumption)(A:Gl X "list":=by rfl)(mr:X.mg "list"=none:=by assumption)(hv:dq "reversed"=some (.type "reversed"):=by decide+kernel)(B:dq "list"=some (.type "list"):=by decide+kernel)(U:a5 [e] X.env=(false,dz e X.env)::a5 [] X.env:=by rfl)(A8:(cv j (a5 [] X.env)).any (·.1)=false:=by rfl)(Y:a5 [.Call (.Name "reversed" C) [e] [] j] X.env=(false,dz (.Call (.Name "reversed" C) [e] [] j) X.env)::a5 [] X.env:=by rfl)(yn:(cv pos (a5 [] X.env)).any (·.1)=false:=by rfl)(J:cv pos (a5 [] X.env)=[]:=by rfl):
  PF X (.Call (.Name "list" p) [.Call (.Name "reversed" C) [e] [] j] [] pos) (λρ=>(f ρ).bind tx):=by
 refine rR λk s σ H Q I Ha O0 O ρ E q=>?_;dsimp only at q;refine aAK (N0 I A mr B ?_ (by decide) (by decide));refine aBp ?_ Y yn;rw[Y];show bb _ _ (spliced ((false,dz (.Call (.Name "reversed" C) [e] [] j) X.env)::cv pos (a5 [] X.env))) _ _ s;refine aDQ (aAK (N0 I hg hm hv ?_ (by decide) (by decide)));have sv:PA X [e] _:=F9 ha Z8 U;refine aBp (C4 (sv j k s σ H (λi l=>∃v m,i=[v]/\f ρ=.ok (.lst m)/\Same H l/\A7 X.K l O v (.lst m)) I ⟨Ha,O0,O,ρ,E,?_⟩) λy h z9=>?_) U A8
 .cases L:f ρ with
  |ex z=>rw[L]at q;exact q
  |bad=>rw[L]at q;exact q.elim
  |ok d=>
   rw[L,R.aa0]at q;cases d with
   |lst m=>exactλv l h N=>⟨v,m,rfl,rfl,h,N⟩
   |_=>exact aAi q
 .obtain⟨i,l,n,N,v,m,ev,ef,sm,rb⟩:=z9;subst ev;rw[ef,R.aa0]at q;obtain⟨a,T,rfl,hS,rr⟩:=rb.aa4;obtain⟨u,rfl,ru⟩:=vals1 N;cases ru;obtain⟨g,rv,⟨oL,nL,gL,cL,dL,sL⟩,zL⟩:=n.list hS;have hl:h.heap.IsList a g.toArray:=⟨oL,gL,cL,nL,sL⟩;refine call_reversed_list hl ?_;rw[J];refine aFi ?_;have ge:a≠h.heap.objs.size:=aAk (aAf gL);have I2:=n.kept (h':=h.heap.push (revObj a<|(g.toArray.size:Int)-1)) (t':=h.toks) λb u e=>aAc _ e;refine SZ.NL (s:={h with heap:=h.heap.push (revObj a<|(g.toArray.size:Int)-1)}) (n.ok.hd hh) ge (by rw[aAp,<-rv.length];exact zL) ⟨_,aAr _ rfl,rfl,rfl⟩ (hl.push _) λh' tk c kp gl=>?_;have kk:∀b u,h.heap.get? b=some u->h'.get? b=some u:=λb u e=>kp b u (aAk<|aAf e) (aAc _ e);have w:h.heap.objs.size<=(h.heap.push<|revObj a<|(g.toArray.size:Int)-1).objs.size:=by rw[aBE];lia
  have x:n4 T.reverse g.reverse:=by
   have:∀{i:List V} {y:List af},n4 i y->n4 i.reverse y.reverse:=λ{i y} r=>by
    induction r with
    |nil=>exact .nil
    |cons r t ih=>rw[aAL,aAL];exact ih.append (.cons r .nil)
   exact this rv
  have I3:=n.laid (a:=(h.heap.push<|revObj a<|(g.toArray.size:Int)-1).objs.size) (o:=.lst T.reverse) (h':=h') (t':=tk) kk w ⟨by rw[aCm];exact zL,g.reverse,c,x,by rw[gl];simp⟩;exact⟨.ref _,_,I3,rfl,q T.reverse l _ sm (n.hok.fresh w) rr.reverse⟩
def _root_.L2.Inv.ae6 (I:Inv X d σ H s)(k:∀b u,s.heap.get? b=some u->h'.get? b=some u)(a:Same H Hn)(f:∀b u,H b=none->Hn b=some u->s.heap.get? b=none/\ObjOk X.prog X.w Hn h' b u):
  Inv X d σ Hn {s with heap:=h',toks:=t'}:=by
 refine I.un ⟨λb o e _ _ _=>k b o e,λb o e _ _ _=>⟨o.slots,k b o e⟩,λb o e n _=>?_,λb o e _=>⟨o,k b o e⟩,λb Y e=>a _ _ e,λb o u e=>a _ _ e,λb h e=>a _ _ e⟩ λb u e=>?_
 .cases q:Hn b with
  |none=>rfl
  |some u=>rw[(f b u n q).1]at e;cases e
 .cases q:H b with
  |none=>exact(f b u q e).2
  |some g=>have:=a b g q;rw[e]at this;cases this;exact(I.hok b u q).ab4 (λc v _ z=>k c v z) (λc z=>a _ _ z) λc u _ z=>a _ _ z
def lI (Y c:List D):List D:=List.zipWith (λa b=>D.tup [a,b]) Y c
def SN:List D->R (List D)
 |[.lst Y,.lst a]=>if Y.length=a.length then .ok (lI Y a)else .bad
 |_=>.bad
def JV {K:ka}{i:Hp}{O:bc->Prop}{h0 h':cq}{l:bc}(hf:∀b,h0.get? b=none->i b=none):∀{Y h:List D} {m p B:List af},w6 K i O m Y->w6 K i O p h->Y.length=h.length->
  (∀(j:Nat) (v:af),B[j]?=some v->∃T x y,v=.ref T/\m[j]?=some x/\p[j]?=some y/\gA h' T x y/\T≠l/\h0.get? T=none)->B.length=Y.length->
  ∃(vs:List V) (Hn:Hp),n4 vs B/\Same i Hn/\(∀b u,i b=none->Hn b=some u->h0.get? b=none/\b≠l/\∃ws c,u=.tup ws/\ws.length<=2/\n4 ws c/\IsTup h' b c.toArray)/\Reps K Hn O vs (lI Y h):=by
 intro Y h m p B;induction B generalizing Y h m p with
 |nil=>
  intro s t z _ A;cases Y with
  |nil=>cases h with
   |nil=>exact⟨[],i,.nil,Same.refl _,λb u n q=>(by rw[n]at q;cases q),.nil⟩
   |cons _ _=>cases z
  |cons _ _=>cases A
 |cons v B ih=>
  intro s t z hP A;cases s with
  |nil=>cases A
  |@cons u d m Y rx s=>
   cases t with
   |nil=>cases z
   |@cons J d' p h ry t=>
    obtain⟨T,x,y,rfl,ex,ey,hp,nl,r⟩:=hP 0 v rfl;cases ex;cases ey;obtain⟨vs,Hn,r1,k,L,rr⟩:=ih s t (by simpa using z) (λj v hj=>by obtain⟨T,x,y,e1,N,e3,e4⟩:=hP (j+1) v (by simpa using hj);exact⟨T,x,y,e1,by simpa using N,by simpa using e3,e4⟩) (by simpa using A)
    obtain⟨C,Q,e⟩:=rx;obtain⟨E,U,f⟩:=ry;have v2:n4 [C,E] [u,J]:=.cons Q (.cons U .nil);cases q:Hn T with
    |none=>
     have H:Same Hn (upd Hn T<|.tup [C,E]):=j3 q _;refine⟨.ref T::vs,upd Hn T (.tup [C,E]),.cons rfl r1,k.trans H,λb w n I=>?_,.cons (.tup (X0.of j2) (.cons ((e.same k).same H) (.cons ((f.same k).same H) .nil))) (rr.same H)⟩;by_cases hb:b=T
     .subst hb;rw[j2]at I;cases I;exact⟨r,nl,_,_,rfl,by simp,v2,⟨_,hp,rfl,0,rfl⟩⟩
     .rw[k7 hb]at I;exact L b w n I
    |some w=>
     obtain⟨_,_,ws,c,rfl,_,vw,⟨o,g,_,n,dd⟩⟩:=L T w (hf T r) q;have hp':h'.get? T=some {cls:=.type "tuple",data:=.seq #[u,J]}:=hp;rw[hp']at g;cases g;have N:c=[u,J]:=by have:=jr (λd=>match d with|Data.seq a _=>a.toList|_=>[]) dd;simpa using this.symm
     subst N;have:ws=[C,E]:=vw.inj v2;subst this;exact⟨.ref T::vs,Hn,.cons rfl r1,k,L,.cons (.tup (X0.of q) (.cons (e.same k) (.cons (f.same k) .nil))) rr⟩
def BO {e1 e2:cu}{p p2 C:Pos}{J L:Ev->R D}(ha1:PB X e1 J)(ha2:PB X e2 L)(hh:X.calm=true)(hg:Gl X "zip":=by rfl)(hm:X.mg "zip"=none:=by assumption)(hg2:Gl X "list":=by rfl)(mr:X.mg "list"=none:=by assumption)
  (hv:dq "zip"=some (.type "zip"):=by decide+kernel) (hv2:dq "list"=some (.type "list"):=by decide+kernel)
  (he1:a5 [e2] X.env=(false,dz e2 X.env)::a5 [] X.env:=by rfl) (he:a5 [e1,e2] X.env=(false,dz e1 X.env)::a5 [e2] X.env:=by rfl) (A8:(cv C (a5 [e2] X.env)).any (·.1)=false:=by rfl)
  (jv:a5 [.Call (.Name "zip" p2) [e1,e2] [] C] X.env=(false,dz (.Call (.Name "zip" p2) [e1,e2] [] C) X.env)::a5 [] X.env:=by rfl) (yn:(cv pos (a5 [] X.env)).any (·.1)=false:=by rfl) (hnl:cv pos (a5 [] X.env)=[]:=by rfl):
  PF X (.Call (.Name "list" p) [.Call (.Name "zip" p2) [e1,e2] [] C] [] pos) (λρ=>(t8 J (t8 L X1) ρ).bind SN):=by
 refine rR λN s σ H Q I Ha O0 O ρ E q=>?_;dsimp only at q;refine aAK (N0 I hg2 mr hv2 ?_ (by decide) (by decide));refine aBp ?_ jv yn;rw[jv];show bb _ _ (spliced ((false,dz (.Call (.Name "zip" p2) [e1,e2] [] C) X.env)::cv pos (a5 [] X.env))) _ _ s;refine aDQ (aAK (N0 I hg hm hv ?_ (by decide) (by decide)));have sv:ZE X [e1,e2] (t8 J<|t8 L X1):=G6 ha1 (G6 ha2 Q7 he1) he;refine aBp (C4 (sv C N s σ H (λk m=>∃v1 v2 Y f,k=[v1,v2]/\t8 J (t8 L X1) ρ=.ok [.lst Y,.lst f]/\Y.length=f.length/\Same H m/\A7 X.K m O v1 (.lst Y)/\A7 X.K m O v2 (.lst f)) I ⟨Ha,O0,O,ρ,E,?_⟩) λus d z9=>?_) he A8
 .cases e1:t8 J (t8 L X1) ρ with
  |ex z=>rw[e1]at q;exact q
  |bad=>rw[e1]at q;exact q.elim
  |ok ds=>
   rw[e1,R.aa0]at q;match ds,q with
   |[.lst Y,.lst f],q=>
    simp only[SN]at q;by_cases hc:Y.length=f.length
    .intro k m d r;cases r with
     |cons ra r=>cases r with
      |cons rb r=>cases r with
       |nil=>exact⟨_,_,Y,f,rfl,rfl,hc,d,ra,rb⟩
    .rw[jn hc]at q;exact aAi q
 .obtain⟨k,m,U,r,v1,v2,Y,f,ev,ef,t,sm,rb1,rb2⟩:=z9;subst ev;rw[ef,R.aa0]at q;simp only[SN]at q;rw[ji t]at q;obtain⟨a,wx,rfl,hSx,rx⟩:=rb1.aa4;obtain⟨b,wy,rfl,hSy,ry⟩:=rb2.aa4;obtain⟨u1,u2,rfl,ru1,ru2⟩:=vals2 r;cases ru1;cases ru2;obtain⟨w,g,⟨oX,nX,gX,cX,dX,sX⟩,zX⟩:=U.list hSx;obtain⟨A,rvy,⟨oY,nY,gY,cY,dY,sY⟩,zY⟩:=U.list hSy;have hlx:d.heap.IsList a w.toArray:=⟨oX,gX,cX,nX,sX⟩;have hly:d.heap.IsList b A.toArray:=⟨oY,gY,cY,nY,sY⟩;refine call_zip_2 hlx hly λh z1 z2 z3 z4 z5 zsz k1=>?_;rw[hnl];refine aFi ?_;have lx:w.length=Y.length:=by rw[<-g.length,rx.length]
  have ly:A.length=f.length:=by rw[<-rvy.length,ry.length]
  have I2:=U.kept (h':=h) (t':=d.toks) k1;have D:=zipApart_new (n:=d.heap.objs.size) (aAf gX) (aAf gY);refine SZ.LX (s:={d with heap:=h}) (U.ok.hd hh) D (by rw[aAp,aAp,lx,ly,t]) (by rw[aAp,<-g.length];exact zX) ⟨⟨_,_,z1,.inl rfl⟩,z2,⟨_,_,z3⟩,z4,z5,hlx.at λo e=>k1 _ o e,hly.at λo e=>k1 _ o e⟩ λh' B c kp gl hP=>?_;have k12:∀b u,d.heap.get? b=some u->h'.get? b=some u:=λb u e=>kp b u (by have i:=aAf e;simp only[aAd,aAG,or_false,not_or];exact⟨aAk (aAs i<|aFw _ _),aAk (aAs i<|aFw _ _),aAk i,aAk (aAs i<|aFw _ _)⟩) (k1 b u e)
  have sx:w6 X.K m O w Y:=w6.of g rx;have sy:w6 X.K m O A f:=w6.of rvy ry;obtain⟨k,Hn,rva,smn,qg,rr⟩:=JV (h0:=h) (h':=h') (l:=h.objs.size) (λb i=>by
   cases q:m b with
   |none=>rfl
   |some u=>exact absurd i ((I2.hok b u q).live)) (B:=B.toList) sx sy t (λj v hj=>by
   obtain⟨T,x,y,e1,e2,e3,e4,e5,e6⟩:=hP.2 j v (by rw[<-aAC];exact hj);exact⟨T,x,y,e1,by simpa using e2,by simpa using e3,e4,λz=>e5 (by simp[z]),e6⟩) (by rw[aBd,hP.1,aAp,lx])
  have hls:Hn h.objs.size=none:=by
   cases q:Hn h.objs.size with
   |none=>rfl
   |some u=>have:=(qg _ u (I2.hok.fresh<|aAh _) q).2.1;exact absurd rfl this
  have hlen:k.length<=sizeLine:=by rw[rva.length,aBd,hP.1,aAp,<-g.length];exact zX
  have s3:Same Hn (upd Hn h.objs.size<|.lst k):=j3 hls _;have I3:=U.ae6 (Hn:=upd Hn h.objs.size (.lst k)) (h':=h') (t':=d.toks) k12 (smn.trans s3) (λb u n qb=>by
   by_cases i:b=h.objs.size
   .subst i;rw[j2]at qb;cases qb;refine⟨aEq (by rw[zsz];lia),hlen,B.toList,c,rva,by rw[gl]⟩
   .rw[k7 i]at qb;obtain⟨h0b,_,ws,its,rfl,l2,vw,tt⟩:=qg b u n qb;refine⟨?_,aAw l2 (by decide),its,vw,tt⟩;cases z:d.heap.get? b with
    |none=>rfl
    |some o=>rw[k1 b o z]at h0b;cases h0b)
  exact⟨.ref _,_,I3,rfl,q k Hn _ (sm.trans smn) hls rr⟩
end
mutual
def jW:D->Nat
 |.tup Y=>K6 Y+1
 |_=>1
def K6:List D->Nat
 |[]=>0
 |x::Y=>jW x+K6 Y
end
theorem cU:∀Y a:List D,K6 (Y++a)=K6 Y+K6 a
 |[],a=>by simp[K6]
 |x::Y,a=>by rw[aAI,K6,K6,cU Y a];lia
section
variable{prog:bu} {w:cp}
def PHe (prog:bu)(w:cp)(h:cq)(v:af)(d:D):Prop:=∀(A:cf) (E:C7) (s:a9) (Q:Int->a9->Prop),s.heap=h->A.units+8*E9 d<dA->Q (n9 d) {s with toks:=s.toks+jW d}->bb (bo prog w) A (pyHash v) Q E s
mutual
theorem OF:∀{v:af} {d:D},HV h v d->PHe prog w h v d
 |_,_,.int i t=>λA E s Q B C q=>(intKind prog w).pyHash (k:=i) (intKind_is _ _ _ _) q
 |_,_,.tup (a:=a) (items:=items) (ds:=ds) p r=>λA E s Q B C q=>by
  have fs:=GU r;subst B;obtain⟨o,H,L,n,N⟩:=p;have g:s.TypeIs (.ref a) "tuple":=⟨o,H,L⟩;have u:A.units<dA:=by lia
  rw[E9]at C;unfold pyHash;first|unfold pyHashByItsType|skip
  first|refine aAa (wpAny_cRoomFor_or (.inr u) ?_)|skip
  refine aAa (aBz g PySem.F.slot_tuple_hash.lookup ?_);show bb _ _ (if(some (aDy "tuple.__hash__")==some Value.none)=true then _ else _) Q E s;rw[jn (by rw[aFu];exact aAV)];refine aAa (aBz g PySem.F.slot_tuple_hash.lookup ?_);show bb _ _ (callSpecialIfBoundUnlessNone? (.ref a) "__hash__" _>>=_) Q E s;refine aAa (aDo g PySem.F.slot_tuple_hash<|aBy PySem.F.slot_tuple_hash g PySem.F.entry_tuple_hash ?_ (PySem.F.args_tuple_hash_1 _));show bb _ _ (aDA (.ref a)>>=_) _ _ s;refine aAa (wpAny_tupleItemsOf H N ?_);refine aAa ?_;rw[<-aCw];refine aCx _
   (λrest (b:Array Int) y=>∃done left,ds=done++left/\Paired (PHe prog w s.heap) rest left/\b.toList=done.map n9/\y={s with toks:=s.toks+K6 done})
   _ ?_ ?_ _ _ ⟨[],ds,rfl,fs,rfl,rfl⟩
  .rintro x rest b y ⟨done,left,e,z,l,rfl⟩;cases z with
   |@cons _ d _ c O I=>
    refine aAa (O _ _ _ _ rfl ?_ ?_)
    .have:E9 d<=A3 ds:=by rw[e];exact nI (j:=done.length) (by simp)
     rw[o8];lia
    have J:s.toks+K6 done+jW d=s.toks+K6 (done++[d]):=by rw[cU];simp[K6];lia
    first
     |exact aAb ⟨done++[d],c,by simp[e],I,by simp[l],by rw[<-J]⟩
     |exact aAa (aAb (aAb ⟨done++[d],c,by simp[e],I,by simp[l],by rw[<-J]⟩))
  .rintro b y ⟨done,left,e,z,l,rfl⟩;cases z;rw[aBG]at e;subst e;show bb _ _ (retInt<|aAN b.toList) _ _ _;rw[l];refine wpAny_ret_mkInt ?_;show bb _ _ (if(decide (-(2:Int)^63<=aAN (ds.map n9))&&decide (aAN (ds.map n9)<2^63))=true then _ else _) Q E _;have f:=q;rw[n9,fZ,jW]at f;unfold reduceHash at f;by_cases m:(decide (-(2:Int)^63<=aAN (ds.map n9))&&decide (aAN (ds.map n9)<2^63))=true
   .rw[ji m];rw[ji m]at f;exact aAb f
   .rw[jn m];rw[jn m]at f;exact aAa (aDi<|aAb f)
theorem GU:∀{v:List af} {d:List D},HVs h v d->Paired (PHe prog w h) v d
 |_,_,.nil=>.nil
 |_,_,.cons r t=>.cons (OF r) (GU t)
end
end
theorem mZ:∀{n:Nat} {d:D},S8 n d=true->mL d=true/\E9 d<=n
 |n,.int i,_=>⟨rfl,by simp[E9]⟩
 |0,.tup Y,h=>by simp[S8]at h
 |n+1,.tup Y,h=>by
  have f:Y.all (S8 n)=true:=by simpa[S8]using h
  have c:∀a:List D,a.all (S8 n)=true->cA a=true/\A3 a<=n:=λa=>by
   induction a with
   |nil=>intro _;exact⟨rfl,aBe _⟩
   |cons y a g=>intro e;simp only[aGd,aAJ]at e;obtain⟨j,m⟩:=mZ e.1;obtain⟨k,o⟩:=g e.2;exact⟨by show(mL y&&cA a)=true;rw[j,k];rfl,by show max (E9 y) (A3 a)<=n;lia⟩
  obtain⟨l,p⟩:=c Y f;exact⟨l,by show A3 Y+1<=n+1;lia⟩
 |n,.non,h=>by cases n<;>simp[S8]at h
 |n,.dct,h=>by cases n<;>simp[S8]at h
 |n,.bl b,h=>by cases n<;>simp[S8]at h
 |n,.str x,h=>by cases n<;>simp[S8]at h
 |n,.lst Y,h=>by cases n<;>simp[S8]at h
mutual
theorem HV.ac0 (k:∀b o,h.get? b=some o->(∃a n,o.data=.seq a n)->h'.get? b=some o):∀{v:af} {d:D},HV h v d->HV h' v d
 |_,_,.int i t=>.int i t
 |_,_,.tup p r=>.tup (by obtain⟨o,e,c,n,d⟩:=p;exact⟨o,k _ _ e ⟨_,n,d⟩,c,n,d⟩) (HVs.ac0 k r)
theorem HVs.ac0 (k:∀b o,h.get? b=some o->(∃a n,o.data=.seq a n)->h'.get? b=some o):∀{v:List af} {d:List D},HVs h v d->HVs h' v d
 |_,_,.nil=>.nil
 |_,_,.cons r t=>.cons (HV.ac0 k r) (HVs.ac0 k t)
end
instance decD:DecidableEq D:=λa b=>aDU _
def rW (prog:bu) (w:cp):HeapKind prog w D where
 is:=λh d a=>HV h (.ref a) d/\E9 d<8
 hash:=n9
 draws:=jW
 room:=λA=>A.units+128<dA
 inj:=λx y=>HV.inj x.1 y.1
 keeps:=λ{h t k a d o u v} x i j l=>⟨x.1.ac0<|by rintro b B e ⟨m,n,q⟩;exact(l.2 b (λz=>by subst z;rw[i]at e;cases e;rw[j]at q;cases q)).trans e,x.2⟩
 pyHash:=λ{A E s k a Q} p c q=>OF c.1 A E s Q rfl (by have:=c.2;lia) q
 eqBool:=λ{A E s x y a b Q} p f g q=>by
  have r:=FR (A:=A) f.1 g.1 (by have:=f.2;lia);refine r prog w E Q ?_;have e:u7 x y=decide (x=y):=by
   by_cases h:x=y
   .subst h;rw[N7,decide_eq_true rfl]
   .rw[decide_eq_false h];cases z:u7 x y with
    |false=>rfl
    |true=>exact absurd (eJ f.1.ok g.1.ok z) h
  rw[e];exact q
 quiet:=λ{A E s k a Q} c q=>iM 8 c.1 c.2 _ A E s Q rfl q
open Classical in
def fE (N:List (D×D)) (k v:D):List (D×D):=if k∈N.map (·.1)then N.map (λp=>if p.1=k then(p.1,v)else p)else N++[(k,v)]
def KE (N:List (D×D))(k v:D)(h:(N.map (·.1)).Nodup):((fE N k v).map (·.1)).Nodup:=by
 unfold fE;split
 .rw[aCr];have:((λx=>x.1)∘λp:D×D=>if p.1=k then(p.1,v)else p)=λp=>p.1:=by funext p;simp only[Function.comp];split<;>rfl
  rw[this];exact h
 .rename_i n;rw[aBJ,aCH];refine⟨h,by simp,λa d b c=>?_⟩;simp at c;subst c;exactλe=>n (e▸d)
section
theorem FN (I:Inv X c σ H s):∀{es:List DictEntry} {N:List (D×D)},pT X.K H O es N->∃Y:List (D×bc×af),es=Y.map (entryOfKey (rW X.prog X.w))/\Y.map (·.1)=N.map (·.1)/\(∀x∈Y,(rW X.prog X.w).is s.heap x.1 x.2.1)/\
  Paired (λ(x:D×bc×af) (p:D×D)=>x.1=p.1/\Rep X.K H O (.ref x.2.1) p.1/\(∃v,RelV v x.2.2/\Rep X.K H O v p.2)/\S8 7 p.1=true) Y N
 |_,_,.nil=>⟨[],rfl,rfl,λx h=>(by cases h),.nil⟩
 |e::_,p::_,.cons ⟨⟨a,d,f⟩,i,g,k⟩ t=>by
  obtain⟨Y,j,l,m,n⟩:=FN I t;obtain⟨ok,q⟩:=mZ k;refine⟨(p.1,a,e.val)::Y,?_,by rw[aAt,aAt,l],λx b=>?_,.cons ⟨rfl,f,i,k⟩ n⟩
  .rw[aAt,<-j];congr 1;obtain⟨o,r,u⟩:=e;simp only at d g;subst d g;rfl
  .rcases aAd.mp b with rfl|b
   .exact⟨Y9 I f ok rfl,by show E9 p.1<8;lia⟩
   .exact m x b
theorem EL {P:bu}{w:cp}{K:ka}{H:Hp}{O:bc->Prop}:∀{Y:List (D×bc×af)} {N:List (D×D)},Paired (λ(x:D×bc×af) (p:D×D)=>x.1=p.1/\Rep K H O (.ref x.2.1) p.1/\(∃v,RelV v x.2.2/\Rep K H O v p.2)/\S8 7 p.1=true) Y N->pT K H O (Y.map (entryOfKey (rW P w))) N
 |_,_,.nil=>.nil
 |_,_,.cons ⟨e,a,b,k⟩ t=>.cons ⟨⟨_,rfl,a⟩,b,by rw[<-e];rfl,k⟩ (EL t)
def aV {Y:List (D×bc×af)}{k:D}:(atKey Y k).isSome=true↔k∈Y.map (·.1):=by unfold atKey;rw[Option.isSome_map,List.find?_isSome];simp only[decide_eq_true_eq,aAo]
def FW (I:Inv X b σ H s)(h:H a=some (.ext λh=>h.get? a=some o))(d:OY a o es)(r:pT X.K H O es N)(e:(N.map (·.1)).Nodup):
  ∃Y,s.heap.DictOfH (rW X.prog X.w) a Y/\Y.map (·.1)=N.map (·.1)/\Paired (λ(x:D×bc×af) (p:D×D)=>x.1=p.1/\Rep X.K H O (.ref x.2.1) p.1/\(∃v,RelV v x.2.2/\Rep X.K H O v p.2)/\S8 7 p.1=true) Y N:=by
 obtain⟨Y,f,c,i,j⟩:=FN I r;obtain⟨_,k,l,m,n,q⟩:=d;have g:s.heap.get? a=some o:=(I.hok a _ h).1;exact⟨Y,⟨o,l,m,g,k,n,by rw[q,f],i,by rw[c];exact e⟩,c,j⟩
def KD {K:ka}{Y:List (D×bc×af)}{N:List (D×D)}{k d:D}{b:bc}{u:af}{v:V}(f:Paired (λ(x:D×bc×af) (p:D×D)=>x.1=p.1/\Rep K H O (.ref x.2.1) p.1/\(∃v,RelV v x.2.2/\Rep K H O v p.2)/\S8 7 p.1=true) Y N)(a:Y.map (·.1)=N.map (·.1))
  (j:Rep K H O (.ref b) k) (kk:S8 7 k=true) (g:RelV v u) (i:Rep K H O v d):
  Paired (λ(x:D×bc×af) (p:D×D)=>x.1=p.1/\Rep K H O (.ref x.2.1) p.1/\(∃v,RelV v x.2.2/\Rep K H O v p.2)/\S8 7 p.1=true) (storedH Y k b u) (fE N k d):=by
 unfold storedH fE;by_cases h:k∈N.map (·.1)
 .rw[ji h,ji (aV.mpr (by rw[a];exact h))];clear a h;induction f with
  |nil=>exact .nil
  |@cons x p Y N r t c=>
   rw[aAt,aAt];refine .cons ?_ c;unfold putAt;by_cases e:p.1=k
   .rw[ji (r.1.trans e),ji e];exact⟨r.1,r.2.1,⟨v,g,i⟩,r.2.2.2⟩
   .rw[jn (λz=>e (r.1.symm.trans z)),jn e];exact r
 .rw[jn h,jn (λz=>h (by rw[<-a];exact aV.mp z))];clear a h;induction f with
  |nil=>exact .cons ⟨rfl,j,⟨v,g,i⟩,kk⟩ .nil
  |cons r t c=>exact .cons r c
end
section
variable{K:Type} [DecidableEq K] {knd:HeapKind prog w K}
def qQ {Q:xG}(f:knd.room A.in1)(b:knd.is s.heap k a)(g:(d==sysModules)=false)(c:s.heap.DictOfH knd d Y)
  (h:Q (atKey Y k).isSome {s with toks:=s.toks+knd.draws k}):bb (bo prog w) A (contains (.ref d) (.ref a)) Q E s:=by
 unfold contains;try with_reducible refine aAP ?_
 refine aAa (aBz c.typeIs aEV.lookup ?_);show bb _ _ (if(some (aDy "dict.__contains__")==some Value.none)=true then _ else _) _ E s;rw[jn (by rw[aFu];exact aAV)];refine aAa (wpAny_callSpecialUnlessNone?_slot (name:=aDu "__contains__") c.typeIs aEV
  (aBy aEV c.typeIs entry_dict_contains ?_ (args_dict_contains _ _)))
 show bb _ _ (dictGet d (.ref a)>>=_) _ _ s;refine aAa (wpAny_dictGet_heap f b c ?_);cases e:atKey Y k with
 |some p=>rw[e]at h;show bb _ _ (ret<|.bool true) _ _ _;exact aAb ⟨_,rfl,aBD h⟩
 |none=>rw[e]at h;show bb _ _ (Builtin.Dict.pendingKey? d (.ref a)>>=_) _ _ _;exact aAa (wpAny_pendingKey_other g<|aAb ⟨_,rfl,aBD h⟩)
end
def JF:D->Bool
 |.tup _=>true
 |_=>false
open Classical in
def nS (i:Nat) (ρ:Ev) (k:D):R Bool:=match ρ[i]? with
 |some (.d N)=>if S8 7 k=true/\JF k=true then .ok (!decide (k∈N.map (·.1)))else .bad
 |_=>.bad
section
def qF {K:ka}{H:Hp}{O:bc->Prop}{v:V}{k:D}(r:Rep K H O v k)(h:JF k=true):∃a,v=.ref a:=by
 cases r with
 |tup h r=>exact⟨_,rfl⟩
 |_=>cases h
def IJ (i:Nat){x:Str}{p:Pos}{f:Ev->R D}(ha:PD X e f)(hu:X.A.units+130<dA)(hN:X.N[i]?=some x:=by rfl)(hv:xH X.env.scope x:=by first|exact aCG rfl|exact aBL (aCG rfl)|exact aBL (aBL rfl))
  (hd:(x==kb)=false:=by decide) (gr:(x==kc)=false:=by decide) (hm:hF .NotIn (.Name x p)=false:=by first|rfl|with_unfolding_all rfl):
  CP X (.Compare e [.NotIn] [.Name x p] pos) (λρ=>(f ρ).bind (nS i ρ)):=by
 refine rR λU s σ H Q I Ha O0 O ρ E q=>?_;dsimp only at q;refine aEk (RE (ta:=tD X f) (tb:=ww i) ha (S1 hN hv hd gr) (R:=λy x g=>∃a b o l N k,x=.ref a/\y=.ref b/\g a=some (.ext λh=>h.get? a=some o)/\OY a o l/\pT X.K g O l N/\(N.map (·.1)).Nodup/\Rep X.K g O (.ref b) k/\S8 7 k=true/\Q (!(open Classical in decide (k∈N.map (·.1)))) g) I ⟨Ha,O0,O,ρ,E,?_⟩ λu w s2 y x g t ry rx h=>?_) hm
 .cases B:f ρ with
  |ex z=>rw[B]at q;exact q
  |bad=>rw[B]at q;exact q.elim
  |ok k=>
   rw[B,R.aa0]at q;intro v H1 sm r;unfold nS at q;cases C:ρ[i]? with
   |none=>rw[C]at q;exact aAi q
   |some sl=>
    rw[C]at q;cases sl with
    |d N=>
     dsimp only at q;by_cases j:S8 7 k=true/\JF k=true
     .rw[ji j]at q;obtain⟨a,o,l,h1,_,_,J,m,L,T⟩:=(E.grow sm).slot i _ C;obtain⟨b,rfl⟩:=qF r j.2;exact⟨_,h1,a,b,o,l,N,k,rfl,rfl,J,m,L,T,r,j.1,q H1 sm⟩
     .rw[jn j]at q;exact aAi q
    |_=>exact aAi q
 .obtain⟨a,b,o,l,N,k,rfl,rfl,J,m,L,T,rk,j,qq⟩:=h;cases ry;cases rx;obtain⟨Y,hD,vf,hp⟩:=FW t J m L T;obtain⟨ok,dp⟩:=mZ j;show bb _ _ (contains (.ref a) (.ref b)>>=λc=>pure (aDw (!c))) _ _ s2;refine aAa (qQ (knd:=rW X.prog X.w) (by show X.A.in1.units+128<dA;rw[o8];lia) ⟨Y9 t rk ok rfl,by lia⟩ m.1 hD (aAb ?_));refine aBD ⟨g,t.tok _,?_⟩;have e3:(atKey Y k).isSome=(open Classical in decide (k∈N.map (·.1))):=by
   by_cases n:k∈N.map (·.1)
   .rw[decide_eq_true n];exact aV.mpr (by rw[vf];exact n)
   .rw[decide_eq_false n];cases z:(atKey Y k).isSome with
    |false=>rfl
    |true=>exact absurd (by rw[<-vf];exact aV.mp z) n
  rw[e3];exact qq
def LV (i:Nat)(v:X.N.Nodup)(w:X.N[i]?=some x:=by rfl)(y:Loc X.env.scope x:=by first|exact aCG rfl|exact aBL rfl)(A:et (.Dict [] [] c) (some (.Name x f)) pos.line X.env=pure false:=by rfl)(B:X.fn x=true\/X.env.scope.names.lookup x=some .local:=by first|exact .inl rfl|exact .inr rfl|assumption):mU X (.Assign [.Name x f] (.Dict [] [] c) pos) (λρ=>.ok (.nx (ρ.set i (.d [])))):=by
 rintro Q T p s σ H D I ⟨O,ρ,E,U,q⟩;refine aFh (wpAny_Dict_empty ?_) A;have r:(s.heap.push {cls:=.type "dict",data:=.dict #[]}).get? s.heap.objs.size=some {cls:=.type "dict",data:=.dict #[]}:=aAr _ rfl;have g:=I.hok.fresh (aAh s.heap.objs.size);have j:=I.laid (a:=s.heap.objs.size) (o:=.ext λh=>h.get? s.heap.objs.size=some {cls:=.type "dict",data:=.dict #[]}) (h':=s.heap.push {cls:=.type "dict",data:=.dict #[]}) (t':=s.toks) (λ_ _ q=>aAc _ q) (aAh _)
  ⟨r,⟨_,r⟩,λY h2 e k=>k _ e⟩
 have C:=QC j (j2 (H:=H) (a:=s.heap.objs.size));have l:sysModules<s.heap.objs.size:=aGm (by decide) (I.mod.glob.keeps I.bk).lt;refine F1 j v w y (show RelV (.ref s.heap.objs.size) _ from rfl) (λs3 J=>⟨_,_,J,?_⟩) B;have t:=E.ae5 (u:=.ext λh=>h.get? s.heap.objs.size=some {cls:=.type "dict",data:=.dict #[]}) (sl:=.d []) i g C trivial λL=>⟨s.heap.objs.size,_,[],rfl,.inr rfl,L,j2,⟨by simp[aDs l],⟨rfl,rfl,rfl⟩,#[],0,rfl,rfl⟩,.nil,aDh⟩;exact q _ _ _ t (qZ j _ t.trk) λb o m n=>⟨by rw[k7 (t5 m g)];exact m,λz=>z.elim n (t5 m g)⟩
def a1p (X:Cx):SY:=λx y v H Q=>∃O a b o e N k d,x=.ref a/\y=.ref b/\H a=some (.ext λh=>h.get? a=some o)/\OY a o e/\pT X.K H O e N/\(N.map (·.1)).Nodup/\e.length<=sizeLine/\Rep X.K H O (.ref b) k/\S8 7 k=true/\Rep X.K H O v d/\
 ∀f c,OY a f c->pT X.K H O c (fE N k d)->Q (upd H a<|.ext λh=>h.get? a=some f)
def UW (hu:X.A.units+130<dA):tq X (a1p X):=by
 intro B s σ H x y v ov iv u Q I U ry ru z;obtain⟨O,a,b,o,es,N,k,d,C,ey,j,l,h6,h7,hz,E,J,rv,q⟩:=z;subst C ey;cases U;cases ry;obtain⟨Y,L,vf,hp⟩:=FW I j l h6 h7;obtain⟨ok,dp⟩:=mZ J;have c:Y.length<=sizeLine:=by
  obtain⟨_,C,ea,ep,hd,he⟩:=l;obtain⟨o2,ud,ep2,T,_,f,jv,_⟩:=L;have g:s.heap.get? a=some o:=(I.hok a _ j).1;rw[g]at T;cases T;rw[hd]at f;cases f;have:=jr List.length (he.symm.trans jv);rw[aAj]at this
  lia
 refine wpAny_setItem_heap (knd:=rW X.prog X.w) (by show X.A.in1.units+128<dA;rw[o8];lia) ⟨Y9 I E ok rfl,by lia⟩ L (λh' m hs=>?_) c;obtain⟨i,n,p,r,t,qm,zc,is',nd'⟩:=m;have I1:=I.write (x:=a) (e:=a) (o:=.ext λh=>h.get? a=some i) (h':=h') (t':=s.toks+jW k) (by rw[j];trivial) (.inl rfl) (λb u hb e=>(hs.2 b hb).trans e) ⟨i,r⟩ ⟨r,⟨i,r⟩,λh1 h2 e k=>k _ e⟩;exact⟨_,I1,q i _ ⟨l.1,t,n,p,qm,rfl⟩ (by rw[zc];exact EL (KD hp vf E J ru rv))⟩
def zJ (i:Nat) (ρ:Ev) (k d:D):R Out:=match ρ[i]? with
 |some (.d N)=>if S8 7 k=true/\JF k=true/\N.length<=sizeLine then .ok (.nx (ρ.set i<|.d (fE N k d)))else .bad
 |_=>.bad
def BP (i:Nat){x:Str}{k:cu}{f g:Ev->R D}{p ps:Pos}(he:PD X e f)(c:PD X k g)(hu:X.A.units+130<dA)(hN:X.N[i]?=some x:=by rfl)(hv:xH X.env.scope x:=by first|exact aCG rfl|exact aBL (aCG rfl)|exact aBL (aBL rfl))(hd:(x==kb)=false:=by decide)
  (gr:(x==kc)=false:=by decide) (ha:∀v,il (.Subscript (.Name x p) k ps) X.env v=(do
   let n<-i3 [v] (dz (.Name x p) X.env)
   let y<-i3 [v,n] (dz k X.env)
   standAt ps
   i3 [v,n,y] (setItem n y v)
   release [v,n,y] []):=by intro _;rfl)
  (hs:gC [.Subscript (.Name x p) k ps] e pos.line X.env=pure false:=by rfl) (hw:gW [.Subscript (.Name x p) k ps] e X.env=pure none:=by rfl) (t:(eR [.Subscript (.Name x p) k ps] X.env).map (·.2)=[il (.Subscript (.Name x p) k ps) X.env]:=by rfl):
  mU X (.Assign [.Subscript (.Name x p) k ps] e pos) (λρ=>(f ρ).bind λd=>(g ρ).bind λj=>zJ i ρ j d):=λQ T=>
 CF (LI he (ZT (S1 hN hv hd gr) c (UW hu) ha) hs hw t) λD σ H O ρ E fk q=>⟨Q,T,O,ρ,E,by
  cases B:f ρ with
  |ex z=>rw[B]at q;exactλH' s=>q H' (E.same.trans s)
  |bad=>rw[B]at q;exact q
  |ok d=>
   rw[B,R.aa0]at q;intro v H1 U r1;have C:=E.grow U;cases u:g ρ with
   |ex z=>rw[u]at q;exact(q H<|E.same.trans<|Same.refl _).elim
   |bad=>rw[u]at q;exact aAi q
   |ok j=>
    rw[u,R.aa0]at q;unfold zJ at q;cases w:ρ[i]? with
    |none=>rw[w]at q;exact aAi q
    |some sl=>
     rw[w]at q;cases sl with
     |d N=>
      dsimp only at q;by_cases c:S8 7 j=true/\JF j=true/\N.length<=sizeLine
      .rw[ji c]at q;obtain⟨a,o,Y,t,h2,h3,I,h5,h6,h7⟩:=C.slot i _ w;refine⟨_,t,Q,T,O,ρ,C,?_⟩;rw[u];intro kv H2 l r2;have E2:=C.grow l;obtain⟨b,rfl⟩:=qF r2 c.2.1;have J:pT X.K H2 O Y N:=h6.mono λr=>r.same l;refine⟨O,a,b,o,Y,N,j,d,rfl,rfl,l _ _ I,h5,J,h7,by rw[h6.length];exact c.2.2,r2,c.1,r1.same l,λo' L d' r'=>?_⟩;obtain⟨E3,k3⟩:=E2.ad9 (sl':=.d (fE N j d)) (u':=.ext λh=>h.get? a=some o') w trivial t (l _ _ I) trivial trivial λhO h0 m=>⟨a,o',L,rfl,h2,h3,j2,d',r'.mono λr=>r.upd (l _ _ I) trivial h2,KE N j d h7⟩;exact q _ _ _ E3 fk (((Kp.of U).trans (Kp.of l)).trans k3)
      .rw[jn c]at q;exact aAi q
     |_=>exact aAi q⟩
end
end
section
variable [Tabs]
end
end DL
namespace MM
open PySem
def LU (prog:bu)(w:cp)(A:cf)(op:CmpOp)(c:cq->Prop)(P:Nat->af->Prop)(d:Nat->Nat->Bool):Prop:=
 ∀i j a b (s:a9) (Q:C7) (E:C7),c s.heap->P i a->P j b->Q (.bool (d i j)) s->bb (bo prog w) A (richCompare op a b) Q E s
section
def JM (W:WalksS prog w A.in1 I fp r G n P St){N:cq->Prop}(hH:∀i s,St i s->N s.heap)(p:Nat->Nat->Bool)(yu:LU prog w A.in1 .Lt N P p)(S:bc)(O:S∉fp):
  ∀(k j:Nat) (s:a9) (d:af) (c:Nat),n-(j+1)=k->j+1<=n->St (j+1) s->P (gs p j) d->
  s.heap.get? S=some {cls:=.type "list",dict:=none,data:=.seq #[d,d] c,slots:=#[]}->
  (∀v s',P (gs p (n-1)) v->Moved (S::r) G s s'->R (.ok (.ret v)) s')->f7 (bo prog w) A (.builtin "min.loop" ⟨[.ref I,.none,.ref S],[]⟩) R s:=by
 have t:S∉r:=λh=>O (W.sub _ h);have z:∀b∈r,b∈S::r:=λb a=>aAe _ a;have Q:(toString "min"++toString ".loop":String)= "min.loop":=by decide
 have g:∀{b:bc},b∉S::r->S≠b:=λa h=>a (by rw[h];exact aBg);intro k;induction k with
 |zero=>
  intro j s d c hk hj B f u y;have T:j+1=n:=by omega
  refine aBI aFx ?_;rw[aBm aCO _];show bb _ A.in1 (seqItems? (.ref S)>>=_) _ _ s;refine aAa (aBR u rfl ?_);show bb _ A.in1 (tryCatch (gv<|.ref I) _>>=_) _ _ s;refine aAa (aEZ<|W.done s _ _ (T▸B) λs' q=>?_);have x:=q.heap S _ t u;show bb _ A.in1 (iu S (λ_=>#[])>>=_) _ _ _;refine aAa ?_;refine aCd x rfl (aAa<|aDZ<|aAb ?_);exact y d _ (by rw[<-T];exact f) ((q.mono z).then_heap (tk:=s'.toks) (aAh _) λb o a e=>(aAD _ _<|g a).trans e)
 |succ k U=>
  intro j s d c hk hj B f u y;have C:j+1<n:=by omega
  refine aBI aFx ?_;rw[aBm aCO _];show bb _ A.in1 (seqItems? (.ref S)>>=_) _ _ s;refine aAa (aBR u rfl ?_);show bb _ A.in1 (tryCatch (gv<|.ref I) _>>=_) _ _ s;refine aAa (aEZ<|W.item (j+1) s _ _ C B λv s' Y E q=>?_);have x:=q.heap S _ t u;show bb _ A.in1 (tryCatch (i3 [v,v]<|richCompare .Lt v d>>=_) _>>=_) _ _ _;refine aAa (aEZ<|aAP<|aAa<|yu (j+1) (gs p j) v d _ _ _ (hH _ _ E) Y f ?_);refine aAa (aAP<|aBD ?_);refine aAa (aDZ<|aAb ?_);cases a:p (j+1) (gs p j)with
  |true=>
   simp only[if_true];refine aAa ?_;refine aCd x rfl (aAa<|aDZ ?_);rw[Q];refine aAb ⟨aCa aCO _,U (j+1) _ v _ (by omega) C (W.frame _ s' _ s'.toks E (aAh _) λb H o e=>?_) (by simp only[gs,a,if_true];exact Y) (aBs _ x rfl)
    λJ l m L=>?_⟩
   .exact(aAD _ _ (λh:S=b=>O (by rw[h];exact H))).trans e
   .exact y J l m (aFp W.gtrans ((q.mono z).then_heap (aAh _) λb o a e=>(aAD _ _<|g a).trans e) L)
  |false=>simp only[aAn,if_false];refine aAa (aDZ ?_);rw[Q];refine aAb ⟨aCa aCO _,U (j+1) _ d c (by omega) C E (by simp only[gs,a,aAn,if_false];exact f) x λJ l m L=>?_⟩;exact y J l m (aFp W.gtrans (q.mono z) L)
def EF (W:WalksS prog w A.in1 I y a G n P St){q:cq->Prop}(z:∀i s,St i s->q s.heap)(g:Nat->Nat->Bool)(B:LU prog w A.in1 .Lt q P g)(S:bc)(j:S∉y)(r:0<n)(C:St 0 s)(t:s.heap.get? S=some {cls:=.type "list",dict:=none,data:=.seq #[] c,slots:=#[]})(E:∀v s',P (gs g (n-1)) v->Moved (S::a) G s s'->R (.ok (.ret v)) s'):f7 (bo prog w) A (.builtin "min.loop" ⟨[.ref I,.none,.ref S],[]⟩) R s:=by
 have k:S∉a:=λh=>j (W.sub _ h);have H:∀b∈a,b∈S::a:=λb d=>aAe _ d;have J:(toString "min"++toString ".loop":String)= "min.loop":=by decide
 have f:∀{b:bc},b∉S::a->S≠b:=λd h=>d (by rw[h];exact aBg);refine aBI aFx ?_;rw[aBm aCO _];show bb _ A.in1 (seqItems? (.ref S)>>=_) _ _ s;refine aAa (aBR t rfl ?_);show bb _ A.in1 (tryCatch (gv<|.ref I) _>>=_) _ _ s;refine aAa (aEZ<|W.item 0 s _ _ r C λv s' L N u=>?_);have x:=u.heap S _ k t;show bb _ A.in1 (iu S (λ_=>#[v,v])>>=_) _ _ _;refine aAa ?_;refine aCd x rfl ?_;rw[J];refine aAb ⟨aCa aCO _,JM W z g B S j _ 0 _ v _ rfl r (W.frame _ s' _ s'.toks N (aAh _) λb l o e=>?_) L (aBs _ x rfl) λO m p Q=>?_⟩
 .exact(aAD _ _ (λh:S=b=>j (by rw[h];exact l))).trans e
 .exact E O m p (aFp W.gtrans ((u.mono H).then_heap (aAh _) λb o d e=>(aAD _ _<|f d).trans e) Q)
def call_minH {E:C7}{Q:C7}(h:bb (bo prog w) A.in1 (pyIter x) (λit a=>∃I c f G n P St g d,it=.ref I/\WalksS prog w A.in1 I c f G n P St/\St 0 a/\(∀b∈c,b<a.heap.objs.size)/\0<n/\(∀i s,St i s->g s.heap)/\LU prog w A.in1 .Lt g P d/\
   ∀v s',P (gs d (n-1)) v->Moved f G a s'->Q v s') E s):
  bb (bo prog w) A (call (.builtin "min") [x]) Q E s:=by
 have k:(toString "min"++toString ".loop":String)= "min.loop":=by decide
 refine call_function_tree F.kind_min F.plain_min F.entry_min (F.args_min1 _) ?_;show bb _ A.in1 (aED "min" ["key", "default"] 0 ⟨[],[]⟩>>=_) _ _ s;refine aAa (wpAny_of_eq (show aED "min" ["key", "default"] 0 ⟨[],[]⟩=pure [none,none]from rfl) ?_);refine aAa (aAb ?_);refine aAa (aBP h (λit a l=>?_) λ_ _ e=>e);obtain⟨I,c,f,G,n,P,St,g,d,rfl,W,m,p,q,r,t,u⟩:=l;refine aAa (aBo ?_);have y:a.heap.objs.size∉c:=λj=>aBl _ (p _ j);rw[k];refine aAb ⟨aCa aCO _,EF W r d t a.heap.objs.size y q (W.frame 0 a _ a.toks m (aAh _) λb _ o e=>aAc _ e) (aAr _ rfl) λv s' z j=>?_⟩;exact u v s' z (Moved.drop_new (tk:=a.toks) j<|aAh _)
end
def walks_more {P:Nat->af->Prop}{St:Nat->cq->Prop}(W:Walks prog w A I l g n P St)(more:N9)(m:∀p∈more,p.1∉g):
  Walks prog w A I (l++more.map (·.1)) g n P (λi h=>St i h/\∀p∈more,h.get? p.1=some p.2)where
 sub:=λb d=>aBF _ (W.sub b d)
 frame:=λi h f st k=>⟨W.frame i h f st.1 λb d o e=>k b (aBF _ d) o e,λp a=>k p.1 (aAE _<|aAX a) _ (st.2 p a)⟩
 item:=λi s Q E q st c=>W.item i s Q E q st.1 λv f r t u j=>c v f r t ⟨u,λp a=>j p.1 p.2 (m p a) (st.2 p a)⟩ j
 done:=λs Q E st c=>W.done s Q E st.1 c
 self:=λi s Q E st c=>W.self i s Q E st.1 c
end MM
namespace DL
open PySem PySem.Spec L2
open PyProof.Rows hiding St
section
variable [Tabs]
section
def JK {x:Str}{a:bc}{dd:Option bc}{b:Array af}{n:Nat}{sl:Array (Option af)}{ns:List Int}(c:X.mg x=some (.ref a))(d:X.K.lookup a=some ⟨.type "tuple",dd,.seq b n,sl⟩)(e:n4 (ns.map V.int) b.toList)(hz:b.size<=sizeLine)(f:Gl X x:=by rfl)(g:(x==kb)=false:=by decide):
 PD X (.Name x pos) (TM (.tup (ns.map D.int))):=pN (FY f c (show RelV (.ref a) _ from rfl) g) λH O=>.tup (.inr ⟨_,b,n,d,rfl,rfl,hz,e⟩) (Reps.ints ns)
def OE:D->D->R D
 |.non,.non=>.ok (.bl true)
 |_,.non=>.ok (.bl false)
 |_,_=>.bad
def RO:mD X (eQ .Is) OE:=by
 intro H O x y d e Q h c f q;refine⟨_,jx,?_⟩;cases e with
 |non=>
  refine⟨f.ac2,?_⟩;cases d with
  |non=>rw[c.ac2];exact q _ H (Same.refl _) .bl
  |bl b=>rw[c.blI];exact q _ H (Same.refl _) .bl
  |int i=>rw[c.aa7];exact q _ H (Same.refl _) .bl
  |str z=>rw[c.ac4];exact q _ H (Same.refl _) .bl
  |tup g=>obtain⟨a,_,rfl,_⟩:=c.tupI;exact q _ H (Same.refl _) .bl
  |lst g=>obtain⟨a,_,rfl,_⟩:=c.aa4;exact q _ H (Same.refl _) .bl
  |dct=>obtain⟨a,_,rfl,_⟩:=c.af8;exact q _ H (Same.refl _) .bl
 |_=>cases d<;>exact aAi q
def NS (c:PD X e f)(g:et e none pos.line X.env=pure false:=by rfl):mU X (.Expr e pos) (λρ=>(f ρ).bind λ_=>.ok (.nx ρ)):=λh i=>
 CF (nC c g) λD σ H O ρ E j q=>⟨h,i,O,ρ,E,by
  cases a:f ρ with
  |ok d=>rw[a]at q;exactλv b s r=>q _ b O (E.grow s) j (Kp.of s)
  |ex x=>rw[a]at q;exactλb s=>q b (E.same.trans s)
  |bad=>rw[a]at q;exact q⟩
def cT:List D->Option (List Bool)
 |[]=>some []
 |.bl b::a=>(cT a).map (b::·)
 |_::_=>none
theorem oR:∀{ds:List D} {bs:List Bool},cT ds=some bs->ds=bs.map D.bl
 |[],bs,h=>by cases h;rfl
 |.bl b::ds,bs,h=>by
  unfold cT at h;cases e:cT ds with
  |none=>rw[e]at h;cases h
  |some l=>rw[e]at h;have a:b::l=bs:=aAl h;subst a;rw[oR e];rfl
 |.non::_,_,h|.int _::_,_,h|.str _::_,_,h|.tup _::_,_,h|.lst _::_,_,h|.dct::_,_,h=>by cases h
def anyR:List D->R D
 |[.lst a]=>match cT a with
  |some bs=>.ok (.bl (bs.any id))
  |none=>.bad
 |_=>.bad
def BK {K:ka}{H:Hp}{O:bc->Prop}{ws:List V}{bs:List Bool}{a:List af}(r:Reps K H O ws (bs.map D.bl))(v:n4 ws a):a=bs.map aDw:=by
 induction bs generalizing ws a with
 |nil=>cases r;cases v;rfl
 |cons b bs c=>
  cases r with
  |cons r t=>
   cases v with
   |cons d e=>cases r;have:_=aDw b:=d;rw[this,c t e];rfl
def JP (bs:List Bool):(aBK bs.length).any (λi=>bs.getD i false)=bs.any id:=by
 rw[aDR,aDe,aDe];constructor
 .rintro⟨i,a,e⟩;have c:i<bs.length:=by simpa using a
  refine⟨bs[i],aCf c,?_⟩;simpa[aAq,aAg c]using e
 .rintro⟨b,d,e⟩;obtain⟨i,a,rfl⟩:=aBh d;exact⟨i,by simpa using a,by simpa[aAq,aAg a]using e⟩
def ZP (x:X.calm=true):fJ X (.builtin "any") anyR:=by
 intro H O h y Q fr r q;match y,q with
 |[.lst Y],q=>
  obtain⟨v,rfl,z⟩:=KJ r;obtain⟨p,ws,rfl,A,j⟩:=z.aa4;simp only[anyR]at q;cases e:cT Y with
  |none=>rw[e]at q;exact q.elim
  |some bs=>
   rw[e]at q;rw[oR e]at j;refine⟨λh k l=>h=[.ref p]/\k=H/\l=Q,λm s σ k Y us l I B ⟨C,J,L⟩=>?_,rfl,rfl,rfl⟩;subst C J L;obtain⟨u,rfl,N⟩:=vals1 B;cases N;obtain⟨a,f,⟨T,U,n,cL,dL,sL⟩,zL⟩:=I.list A;have t:=BK j f;have w:s.heap.IsList p a.toArray:=⟨T,n,cL,U,sL⟩;refine call_any_walk (aDx w ⟨s.heap.objs.size,_,_,a.toArray.size,_,_,λi=>bs.getD i false,rfl,Walks.list (by simp[I.ok.hd x]) s.heap.objs.size p (aAk<|aAf n) a.toArray,⟨⟨_,aAr _ rfl,rfl,rfl⟩,w.push _⟩,λi v s' Q E c d=>?_,λh' tk kp=>?_⟩)
   .have c:a.toArray[i]?=some v:=c;have d:Q (bs.getD i false) s':=d;rw[aCQ,t,aAM]at c;cases g:bs[i]? with
    |none=>rw[g]at c;cases c
    |some b=>rw[g]at c;have:aDw b=v:=aAl c;subst this;rw[aAq,g]at d;exact aBD d
   .have I2:=I.kept (h':=h') (t':=tk) λb o e=>kp b o (by simp only[aBb];exact aAk (aAf e)) (aAc _ e);refine⟨.bl (bs.any id),_,I2,?_,q _ _ (Same.refl _) .bl⟩;show aDw _=aDw _;rw[aAp,t,aAj,JP]
end
def gy (ds:List D)(i j:Nat):Bool:=HT.lexLt (flat<|ds.getD i .non) (flat<|ds.getD j .non)
def OO:List D->R D
 |[.lst a]=>if a≠[]/\a.all aP=true then .ok (a.getD (gs (gy a) (a.length-1)) .non)else .bad
 |_=>.bad
def uO (h:cq)(a:List af):List (bc×Obj):=a.filterMap λv=>match v with
 |.ref b=>(h.get? b).map λo=>(b,o)
 |_=>none
def DC (c:aCV b∈a)(e:h.get? b=some o):(b,o)∈uO h a:=
 aBM.mpr ⟨_,c,by show(h.get? b).map _=_;rw[e];rfl⟩
def iD (a:p∈uO h c):h.get? p.1=some p.2:=by
 obtain⟨v,_,e⟩:=aBM.mp a;cases v with
 |ref b=>
  have e:(h.get? b).map (λo=>(b,o))=some p:=e;cases q:h.get? b with
  |none=>rw[q]at e;cases e
  |some o=>rw[q]at e;cases e;exact q
 |_=>cases e
section
def WB (hc:X.calm=true)(hu:X.A.units+300<dA):fJ X (.builtin "min") OO:=by
 intro H O vs ds Q fr r q;match ds,q with
 |[.lst Y],q=>
  obtain⟨v,rfl,z⟩:=KJ r;obtain⟨p,ws,rfl,h1,h2⟩:=z.aa4;simp only[OO]at q;by_cases x:Y≠[]/\Y.all aP=true
  .rw[ji x]at q;obtain⟨ba,x⟩:=x;have pt:∀d∈Y,aP d=true:=aBU.mp x;refine⟨λvs N Q'=>vs=[.ref p]/\N=H/\Q'=Q,λpins s σ N uu us Q' I rv z9=>?_,rfl,rfl,rfl⟩;obtain⟨e1,e2,e3⟩:=z9;subst e1 e2 e3;obtain⟨u,rfl,ru⟩:=vals1 rv;cases ru;obtain⟨f,y,⟨oL,nL,T,cL,dL,sL⟩,zL⟩:=I.list h1;have hl:s.heap.IsList p f.toArray:=⟨oL,T,cL,nL,sL⟩;have st:w6 X.K N O f Y:=w6.of y h2;have l:f.toArray.size=Y.length:=by rw[aAp,<-y.length,h2.length]
   have uf:0<Y.length:=aEE.mpr ba;have W:=MM.walks_more (Walks.list (prog:=X.prog) (w:=X.w) (A:=X.A.in1) (by simp[I.ok.hd hc]) s.heap.objs.size p (aAk<|aAf T) f.toArray) (uO s.heap f)
    (λq t=>by simp only[aBb];exact aAk (aAf<|iD t))
   refine MM.call_minH (aDx hl ⟨s.heap.objs.size,_,_,_,f.toArray.size,_,_,λh=>∀q∈uO s.heap f,h.get? q.1=some q.2,gy Y,rfl,W.toS,⟨⟨⟨_,aAr _ rfl,rfl,rfl⟩,hl.push _⟩,λq t=>aAc _ (iD t)⟩,λb k=>?_,by rw[l];exact uf,λi s h=>h.2,λi j vi vj m Q2 E2 hh B hj t=>?_,λv m E J=>?_⟩)
   .rw[aBE];rcases aAQ.mp k with k|k
    .rcases aAd.mp k with rfl|k
     .exact aDg _
     .rcases aAd.mp k with rfl|k
      .exact aBq (aAf T)
      .cases k
    .obtain⟨q,t,rfl⟩:=aAo.mp k;exact aBq (aAf<|iD t)
   .have one:∀i v,f.toArray[i]?=some v->∃b a,v=.ref b/\IsTup m.heap b a/\IntsAre a.toList (flat<|Y.getD i .non):=λi v B=>by
     rw[aCQ]at B;obtain⟨d,L,w,U,rp⟩:=G9 st B;have qm:Y.getD i .non=d:=by rw[aAq,L];rfl
     rw[qm];have C:=pt d (aAm L);obtain⟨b,a,rfl,⟨o,g,c,n,dd⟩,hia⟩:=bB C (Y9 I rp (N5 C) U);exact⟨b,a,rfl,⟨o,hh _ (DC (aAm B) g),c,n,dd⟩,hia⟩
    obtain⟨b,a,rfl,t1,i1⟩:=one i vi B;obtain⟨b',ym,rfl,t2,i2⟩:=one j vj hj;exact HT.lt_tupInts t1 t2 i1 i2 (by rw[o8];lia) t
   .have E:f.toArray[gs (gy Y) (f.toArray.size-1)]?=some v:=E;rw[aCQ,l]at E;obtain⟨d,L,w,U,rp⟩:=G9 st E;have qm:Y.getD (gs (gy Y)<|Y.length-1) .non=d:=by rw[aAq,L];rfl
    rw[qm]at q;have I2:=I.kept (h':=m.heap) (t':=m.toks) λb o e=>J.heap b o (by simp only[aBb];exact aAk (aAf e)) (aAc _ e);have es:m={s with heap:=m.heap,toks:=m.toks}:=by have g1:=J.gens;have g2:=J.drawn;have g3:=J.os;cases m;simp only at g1 g2 g3;subst g1 g2 g3;rfl
    rw[es];exact⟨w,_,I2,U,q _ _ (Same.refl _) rp⟩
  .rw[jn x]at q;exact q.elim
def VO (h:SE ds)(n:Nat)(a:n<ds.length):gs (gy ds) n=0:=by
 induction n with
 |zero=>rfl
 |succ k b=>
  have e:=b (by lia);unfold gs;rw[e];have:gy ds (k+1) 0=false:=by
   unfold gy;rw[aAq,aAq,aAg a,aAg (by lia:0<ds.length)];have:=aCo.mp h 0 (k+1) (by lia) a (by lia);cases q:HT.lexLt (flat<|(some ds[k+1]).getD .non) (flat ((some (ds[0]'(by lia))).getD .non))with
   |false=>rfl
   |true=>have z:HT.lexLt (flat (ds[0]'(by lia))) (flat (ds[0]'(by lia)))=true:=TS.lex_trans _ _ _ this q;rw[TS.lex_irrefl]at z;cases z
  rw[this];rfl
end
end
section
variable [Tabs]
end
end DL
namespace DL
open PySem PySem.Spec L2
open PyProof.Rows hiding St sub_tuple_tuple sub_list_list sub_tuple_list sub_list_tuple
section
open PySem.MeetsSeq PySem.MeetsSeq2 PySem.MeetsSeq3 PySem.AutoSeq1
def OW (l:bc)(Y:Array af)(n:Nat)(b:bc)(a:Array af)(n2:Nat)(sl:Array (Option af))(h:¬(!Y.isEmpty&&aCY (Y.size+a.size))=true)(i:Y.size<=sizeLine)(c:Y.size+a.size<=sizeLine+1):
  Meets (Builtin.«list.extend» ⟨[.ref l,.ref b],[]⟩) (λ_ R s=>s.heap.get? l=some ⟨.type "list",none,.seq Y n,#[]⟩/\s.heap.get? b=some ⟨.type "list",none,.seq a n2,sl⟩/\R (.ok (.ret Value.none)) {s with heap:=s.heap.update l (aBO λx=>x++a),toks:=s.toks}):=
 .of_wp λe w A R s q=>by
  obtain⟨m,g,d,o,os⟩:=s;obtain⟨f,j,k⟩:=q;have p:=idx_int;have r:=sub_tuple_tuple;have t:=sub_list_list;have u:=sub_tuple_list;have v:=sub_list_tuple;have z:(Y++a).size<=sizeLine+1:=by rw[Array.size_append];exact c
  wp_walk using(aCd f rfl (hz:=i) (_hz':=z)),aEy f,aEy j
  exact⟨_,rfl,k⟩
end
section
def xw (K:ka):V->List V->Hp->VK->Prop:=λx c H Q=>∃l b Y a,x=.ref l/\c=[.ref b]/\H l=some (.lst Y)/\O5 K H b a/\Y.length+a.length<=sizeLine/\Q .non (upd H l<|.lst (Y++a))
def ZU:MtM X "list.extend" (xw X.K):=by
 intro f s σ H x L v N Q I o p h;obtain⟨l,b,Y,O,rfl,rfl,g,t,T,q⟩:=h;cases o;obtain⟨u,rfl,w⟩:=p.one;cases w;obtain⟨z,a,n,r,U,e⟩:=I.af5 g;obtain⟨d,i,⟨⟨y,xo,A,B⟩,C,E,j,k,m⟩,z2⟩:=I.list t;simp only at j k m;subst j k m;have oa:=i.length;have J:a.toArray.size+d.toArray.size<=sizeLine:=by rw[aAp,aAp];lia
 have c:¬(!a.toArray.isEmpty&&aCY (a.toArray.size+d.toArray.size))=true:=by rw[ON J,aFU];exact aAV
 refine call_meets F.slot_list_extend ⟨_,e,rfl⟩ F.entry_list_extend (F.args_list_extend_2 _ _) (OW l a.toArray n b d.toArray C B c (by rw[aAp];lia) (by lia)) ⟨e,E,?_⟩;refine⟨.non,_,I.af4 (its':=a++d) g e (by simp) (r.append i) ?_,rfl,q⟩;rw[aAF]
 lia
end
variable [Tabs]
section
def AY (i:Nat)(z:PD X e f)(A:X.N[i]?=some x:=by rfl)(B:xH X.env.scope x:=by first|exact aCG rfl|exact aBL (aCG rfl)|exact aBL (aBL rfl))(I:(x==kb)=false:=by decide)(J:(x==kc)=false:=by decide)(L:hV (.Name x p) "extend" X.env (dz (.Name x p) X.env)=dz (.Name x p) X.env:=by rfl)(Q:((cv g (a5 [e] X.env)).all (λx=>!x.1)&&(backToKw g (keywordEach [] X.env)).all (λx=>x.1.isSome)
   &&decide ([e].length+([]:List Keyword).length+(if([]:List Keyword).isEmpty then 0 else 1)<30))=true:=by rfl) (T:(b.endLine==g.line)=true:=by rfl) (n:a5 [e] X.env=(false,dz e X.env)::a5 [] X.env:=by rfl) (U:(cv g (a5 [] X.env)).any (·.1)=false:=by rfl) (yd:et (.Call (.Attribute (.Name x p) "extend" b) [e] [] g) none pos.line X.env=pure false:=by rfl):
  mU X (.Expr (.Call (.Attribute (.Name x p) "extend" b) [e] [] g) pos) (λρ=>(f ρ).bind (ZO i ρ)):=λHa O0=>
 CF (nC (YG PySem.F.plainAttrs_list PySem.F.slot_list_extend PySem.F.type_list_extend ZU (S1 A B I J) (d5 z j4 n) L Q T n U) yd) λD σ H O ρ E fk q=>by
 cases j:f ρ with
 |ok d=>
  rw[j,R.aa0]at q;unfold ZO at q;cases h:ρ[i]? with
  |none=>rw[h]at q;exact aAi q
  |some r=>
   rw[h]at q;cases r with
   |x C=>exact aAi q
   |c m φ=>exact aAi q
   |d N=>exact aAi q
   |no=>exact aAi q
   |v d=>exact aAi q
   |o Y=>
    cases d with
    |lst ys=>
     dsimp only at q;split at q
     .rename_i hz;obtain⟨a,s,t,h2,h3,u,w⟩:=E.own i Y h;refine⟨_,t,.inl ⟨rfl,s,O5.of u⟩,Ha,O0,O,ρ,E,?_⟩;show JZ X H O ((f ρ).bind λd=>(R.ok []).bind λds=>.ok (d::ds)) _;rw[j];intro us H1 k l;cases l with
      |cons l rn=>
       cases rn;have E1:=E.grow k;cases l with
       |lst hb nb y=>refine⟨a,_,s,_,rfl,rfl,k _ _ u,hb,by rw[w.length,y.length];exact hz,?_⟩;obtain⟨E2,k2⟩:=E1.write h t ((w.same k).append y);exact q σ _ O E2 fk ((Kp.of k).trans k2)
     .exact aAi q
    |_=>exact aAi q
 |ex x=>
  rw[j]at q;cases h:ρ[i]? with
  |none=>exact(q H E.same).elim
  |some r=>exact(q H E.same).elim
 |bad=>rw[j]at q;exact aAi q
end
end DL
namespace TS
open PySem PyProof.Rows HT
section
def HE (A:cf)(s:a9)(x y:af)(b:Bool):Prop:=∀(a:bu) (w:cp) (E:C7) (Q:xG),Q b s->bb (bo a w) A (oneLt' false x y) Q E s
def lt_two {Q:xG}(e:IsTup s.heap l #[p,r])(g:IsTup s.heap b #[a,c])(h:f=false)(i:SeqAt.EqAt A s p a e1)(j:e1=false->HE A s p a b1)(k:e1=true->SeqAt.EqAt A s r c e2)(m:e1=true->e2=false->HE A s r c b2)(q:Q (bif e1 then(bif e2 then false else b2)else b1) s):bb (bo prog w) A (keyLt' (tupK f) (.ref l) (.ref b)) Q E s:=by
 obtain⟨o,t,x,n,u⟩:=e;obtain⟨y,v,z,B,d⟩:=g;subst h;rw[sK];refine aAa (aEh t u<|aAa<|aEh v d ?_);show bb _ _ (forIn [((p,a),0),((r,c),1)] _ _>>=_) _ _ _;rw[aCZ];refine aAa (aAa ?_);refine aAa (i _ _ _ _ ?_);cases e1 with
 |false=>refine aAa (j rfl _ _ _ _ ?_);exact aAb (aAb<|aAb q)
 |true=>
  refine aAb ?_;dsimp only;rw[aCZ];refine aAa ?_;refine aAa (k rfl _ _ _ _ ?_);cases e2 with
  |false=>refine aAa (m rfl rfl _ _ _ _ ?_);exact aAb (aAb<|aAb q)
  |true=>refine aAb ?_;dsimp only;rw[aEb];exact aAb (aAb q)
def MN (h:∀(prog:bu) (w:cp) (E:C7) (Q:C7),Q (.bool b) s->bb (bo prog w) A (richCompare .Lt x y) Q E s):HE A s x y b:=λprog w E Q q=>by rw[oneLt'_eq];simp only[aAn,if_false];exact aAa (h prog w _ _<|aBD q)
def oneLt_tup (c:IsTup s.heap l items)(d:IsTup s.heap b e)(f:IntsAre items.toList ns)(g:IntsAre e.toList h)(i:A.units<dA):HE A s (.ref l) (.ref b) (HT.lexLt ns h):=
 MN λa w E Q q=>HT.lt_tupInts c d f g i q
end
end TS
namespace DL
open PySem PySem.Spec L2
open PyProof.Rows hiding St
section
def vL (k:D->List Int)(d:D):List D->List D
 |[]=>[d]
 |x::Y=>if HT.lexLt (k d) (k x)=true then d::x::Y else x::vL k d Y
def oC (k:D->List Int)(ds:List D):List D:=ds.foldr (vL k) []
def wO (k:D->List Int)(ds:List D):Prop:=ds.Pairwise λx y=>HT.lexLt (k x) (k y)=true
theorem kQ (k:D->List Int)(d:D):∀Y:List D,(vL k d Y).Perm (d::Y)
 |[]=>.refl _
 |x::Y=>by
  unfold vL;split
  .exact .refl _
  .exact((kQ k d Y).cons x).trans (.swap d x Y)
theorem W0 (k:D->List Int):∀ds:List D,(oC k ds).Perm ds
 |[]=>.refl _
 |d::ds=>(kQ k d (oC k ds)).trans ((W0 k ds).cons d)
theorem AR:∀{Y:List D},wO k Y->(∀x∈Y,k x≠k d)->wO k (vL k d Y)
 |[],_,_=>aDK _ _
 |x::Y,h,n=>by
  have b:=aAy.mp h;unfold vL;split
  .rename_i lt;refine aAy.mpr ⟨λy a=>?_,h⟩;rcases aAd.mp a with rfl|a
   .exact lt
   .exact TS.lex_trans _ _ _ lt (b.1 y a)
  .rename_i c;refine aAy.mpr ⟨λy a=>?_,AR b.2 λz e=>n z (.tail _ e)⟩;rcases aAd.mp ((kQ k d Y).mem_iff.mp a)with rfl|a
   .cases q:HT.lexLt (k x) (k y)with
    |true=>rfl
    |false=>exact absurd (TS.lex_total _ _ q (by simpa using c)) (n x<|.head _)
   .exact b.1 y a
theorem lK:∀{ds:List D},(ds.map k).Nodup->wO k (oC k ds)
 |[],_=>.nil
 |d::ds,h=>by rw[aAt,aAR]at h;refine AR (lK h.2) λx a e=>h.1 ?_;rw[<-e];exact aAX ((W0 k ds).mem_iff.mp a)
theorem kM:∀{Y a:List D},wO k Y->wO k a->Y.Perm a->Y=a
 |[],a,_,_,p=>(List.nil_perm.mp p).symm
 |x::Y,[],_,_,p=>by have:=p.length_eq;simp at this
 |x::Y,y::a,f,g,p=>by
  have d:=aAy.mp f;have e:=aAy.mp g;have b:x=y:=by
   rcases aAd.mp (p.mem_iff.mp<|.head _)with q|q
   .exact q
   .rcases aAd.mp (p.mem_iff.mpr<|.head _)with c|c
    .exact c.symm
    .have:=TS.lex_trans _ _ _ (e.1 x q) (d.1 y c);rw[TS.lex_irrefl]at this;cases this
  subst b;rw[kM d.2 e.2 ((List.perm_cons x).mp p)]
def VZ [Tabs]{R:af->D->Prop}{key:af->List Int}{k:D->List Int}{us:List af}{ds:List D}(st:Paired R us ds)(b:us.Pairwise λx y=>HT.lexLt (key y) (key x)=false)(n:(ds.map k).Nodup)(c:∀u d,R u d->d∈ds->key u=k d):wO k ds:=by
 induction st with
 |nil=>exact .nil
 |@cons u d us ds r t o=>
  have f:=aAR.mp n;have g:=aAy.mp b;refine aAy.mpr ⟨λe p=>?_,o g.2 f.2 λu d h q=>c u d h (.tail _ q)⟩;obtain⟨j,a,rfl⟩:=aBh p;have i:j<us.length:=by rw[t.length];exact a
  obtain⟨v,m,s⟩:=G9 t (aAg i);rw[aAg a]at m;cases m;have l:=g.1 us[j] (aCf i);rw[c _ _ s (.tail _ (aCf a)),c u d r (.head _)]at l;cases z:HT.lexLt (k d) (k ds[j])with
  |true=>rfl
  |false=>exact absurd (aAo.mpr ⟨ds[j],aCf a,(TS.lex_total _ _ z l).symm⟩) f.1
def oz:D->Bool
 |.tup [p,.lst _]=>aP p
 |_=>false
def S4:D->List Int
 |.tup (p::_)=>flat p
 |_=>[]
def jz (h:oz d=true):∃p r,d=.tup [p,.lst r]/\aP p=true/\S4 d=flat p:=by
 unfold oz at h;split at h
 .exact⟨_,_,rfl,h,rfl⟩
 .cases h
def zy:D->R (List D)
 |.lst a=>if a.all oz=true/\(a.map S4).Nodup/\a.length<=63 then .ok (oC S4 a)else .bad
 |_=>.bad
variable [Tabs]
def FV (h:cq)(u:af)(l:List Int):Prop:=∃b p r d,u=.ref b/\IsTup h b #[p,r]/\aP d=true/\HV h p d/\flat d=l
def FV.inj (x:FV h u l)(y:FV h u j):l=j:=by obtain⟨b,p,r,d,rfl,⟨o,g,_,n,k⟩,_,m,rfl⟩:=x;obtain⟨s,t,v,w,e,⟨z,f,_,A,a⟩,_,c,rfl⟩:=y;cases e;rw[g]at f;cases f;rw[k]at a;injection a with q _;have i:=jr aFE q;simp only[aFG]at i;obtain⟨rfl,_⟩:=i;rw[HV.inj m c]
def HG (h:cq) (u:af):List Int:=open Classical in if p:∃l,FV h u l then p.choose else[]
def iL (x:FV h u l):HG h u=l:=by unfold HG;rw[dif_pos ⟨l,x⟩];exact FV.inj (Exists.choose_spec (⟨l,x⟩:∃l,FV h u l)) x
section
def QM (I:Inv X c σ H s)(r:Rep X.K H O v d)(h:oz d=true)(f:RelV v u):FV s.heap u (S4 d):=by
 obtain⟨p,ring,rfl,e,g⟩:=jz h;cases r with
 |tup q a=>
  cases f;obtain⟨i,b,j,_⟩:=I.tuple q;cases a with
  |cons k a=>
   cases a with
   |cons l a=>
    cases a;cases b with
    |cons v1 b=>
     cases b with
     |cons m b=>cases b;exact⟨_,_,_,p,rfl,j,e,Y9 I k (N5 e) v1,g.symm⟩
end
section
def CZ (ha:PB X e f)(hh:X.calm=true)(hu:X.A.units+300<dA)(hg:Gl X "sorted":=by rfl)(hm:X.mg "sorted"=none:=by assumption)(hv:dq "sorted"=some (.builtin "sorted"):=by decide+kernel)(he:a5 [e] X.env=(false,dz e X.env)::a5 [] X.env:=by rfl)(A8:(cv pos (a5 [] X.env)).any (·.1)=false:=by rfl):
  PF X (.Call (.Name "sorted" p) [e] [] pos) (λρ=>(f ρ).bind zy):=by
 refine rR λpins s σ H Q I Ha O0 O ρ E q=>?_;dsimp only at q;refine aAK (N0 I hg hm hv ?_ (by decide) (by decide));have sv:PA X [e] _:=F9 ha Z8 he;refine aBr (C4 (sv pos pins s σ H (λvs H1=>∃v t,vs=[v]/\f ρ=.ok (.lst t)/\Same H H1/\A7 X.K H1 O v (.lst t)) I ⟨Ha,O0,O,ρ,E,?_⟩) λus J z9=>?_) he A8
 .cases e1:f ρ with
  |ex z=>rw[e1]at q;exact q
  |bad=>rw[e1]at q;exact q.elim
  |ok d=>
   rw[e1,R.aa0]at q;cases d with
   |lst t=>exactλv H1 J r1=>⟨v,t,rfl,rfl,J,r1⟩
   |_=>exact aAi q
 .obtain⟨vs,H1,I1,r1,v,t,ev,ef,sm,rb⟩:=z9;subst ev;rw[ef,R.aa0]at q;obtain⟨a,ws,rfl,hS,rr⟩:=rb.aa4;obtain⟨u,rfl,ru⟩:=vals1 r1;cases ru;obtain⟨m,rv,⟨oL,nL,gL,cL,dL,sL⟩,zL⟩:=I1.list hS;have hl:J.heap.IsList a m.toArray:=⟨oL,gL,cL,nL,sL⟩;simp only[zy]at q;by_cases hc:t.all oz=true/\(t.map S4).Nodup/\t.length<=63
  .rw[ji hc]at q;obtain⟨qc,nd,xh⟩:=hc;have fc:∀d∈t,oz d=true:=aBU.mp qc;have st:w6 X.K H1 O m t:=w6.of rv rr;have hlen:m.length=t.length:=st.length;have B:∀u∈m,∃i d,m[i]?=some u/\t[i]?=some d/\FV J.heap u (S4 d):=λu hu=>by obtain⟨i,hi,rfl⟩:=aBh hu;obtain⟨d,Y,w,ua,rp⟩:=G9 st (aAg hi);exact⟨i,d,aAg hi,Y,QM I1 rp (fc d<|aAm Y) ua⟩
   have keq:∀u∈m,∀u'∈m,HG J.heap u=HG J.heap u'->u=u':=λu hu u' br e=>by
    obtain⟨i,d,hi,Y,fv⟩:=B u hu;obtain⟨j,d',hj,qm,fv'⟩:=B u' br;rw[iL fv,iL fv']at e;have eij:i=j:=by obtain⟨li,ei⟩:=aAB.mp Y;obtain⟨lj,ej⟩:=aAB.mp qm;refine(List.getElem_inj (xs:=t.map S4) (i:=i) (j:=j) (h₀:=by simpa using li) (h₁:=by simpa using lj) nd).mp ?_;rw[aEo,aEo,ei,ej];exact e
    subst eij;rw[hi]at hj;cases hj;rfl
   refine TS.sorted_keys (vs:=m) (f:=false) (key:=HG J.heap) (C:=λs'=>∃h',s'={J with heap:=h'}/\∀b o,J.heap.get? b=some o->h'.get? b=some o)
    (λ{Q'} hq=>collect_list hl (hq _ ⟨_,rfl,λb o e=>?_⟩) (by rw[hlen];exact aAw xh (by decide)))
    (λs' ⟨h',U,k⟩ s6 k6 x hx y hy prog w A E hA {Q} qq=>?_) (λh2 s' ⟨h',U,k⟩ s6 k6 A {Q} qq=>?_) (by rw[hlen];lia) λs' ja h' l ⟨h1,U,k⟩ pm srt k2 hl ⟨n,gl⟩=>?_
   .exact(aAD _ _<|aCi<|aAk<|aAf e).trans (aAc _ e)
   .subst U;have kk:∀b o,J.heap.get? b=some o->s6.heap.get? b=some o:=λb o e=>k6 b o (k b o e);obtain⟨i,d,hi,Y,fv⟩:=B x hx;obtain⟨j,d',hj,qm,fv'⟩:=B y hy;have kx:=iL fv;have ky:=iL fv';have eqk:=keq x hx y hy;rw[kx,ky]at qq;rw[kx,ky]at eqk;obtain⟨b,p1,r1,d1,rfl,⟨o,g,c,n,dd⟩,N,hv1,e1⟩:=fv;obtain⟨b',p2,r2,d2,rfl,⟨o',g',c',n',dd'⟩,hp2,hv2,e2⟩:=fv';have L:HV s6.heap p1 d1:=hv1.keeps λb o e _=>kk b o e;have hv2':HV s6.heap p2 d2:=hv2.keeps λb o e _=>kk b o e;have hA':A.units+8<dA:=by lia
    obtain⟨c1,i1,rfl,t1,ia1⟩:=bB N L;obtain⟨c2,i2,rfl,t2,ia2⟩:=bB hp2 hv2';rw[<-e1,<-e2]at qq eqk;refine TS.lt_two (e1:=u7 d1 d2) (e2:=true) (b1:=HT.lexLt (flat d1) (flat d2)) (b2:=false) ⟨o,kk _ _ g,c,n,dd⟩ ⟨o',kk _ _ g',c',n',dd'⟩ rfl (FR L hv2' (by have:=FM N;lia)) (λ_=>TS.oneLt_tup t1 t2 ia1 ia2 (by lia)) (λeq=>?_) (λ_ z=>by cases z) ?_
    .have ed:=eJ (N5 N) (N5 hp2) eq;have er:=eqk (by rw[ed]);cases er;rw[g]at g';cases g';rw[dd]at dd';injection dd' with e3 _;have e4:=jr aFE e3;simp only[aFG]at e4;rw[e4.2.1];exact aDS _
    .cases z:u7 d1 d2 with
     |false=>exact qq
     |true=>have ed:=eJ (N5 N) (N5 hp2) z;rw[ed,TS.lex_irrefl]at qq;exact qq
   .subst U;have kk:∀b o,J.heap.get? b=some o->s6.heap.get? b=some o:=λb o e=>k6 b o (k b o e);have sg:∀x∈m,∃p,∃b r,x=.ref b/\IsTup s6.heap b r/\r[0]?=some p/\s6.TypeIs p "tuple":=λx hx=>by obtain⟨i,d,hi,Y,fv⟩:=B x hx;obtain⟨b,p1,r1,d1,rfl,⟨o,g,c,n,dd⟩,N,hv1,e1⟩:=fv;have L:HV s6.heap p1 d1:=hv1.keeps λb o e _=>kk b o e;obtain⟨c1,i1,rfl,⟨o1,g1,cc1,_⟩,ia1⟩:=bB N L;exact⟨_,b,_,rfl,⟨o,kk _ _ g,c,n,dd⟩,rfl,⟨o1,g1,cc1⟩⟩
    obtain⟨gf,hgf⟩:∃gf:af->af,∀x∈m,∃b r,x=.ref b/\IsTup s6.heap b r/\r[0]?=some (gf x)/\s6.TypeIs (gf x) "tuple":=by refine⟨λx=>open Classical in if z:x∈m then(sg x z).choose else .none,λx hx=>?_⟩;dsimp only;rw[dif_pos hx];exact(sg x hx).choose_spec
    exact TS.kind_tuples (T:= "tuple") gf hgf (λz=>by rw[z]at h2;simp at h2) (by decide) qq
   .subst U;obtain⟨uc,p2,og⟩:=cJ pm st;have hk:∀u d,(∃v,RelV v u/\Rep X.K H1 O v d)->d∈t->HG J.heap u=S4 d:=by rintro u d ⟨v,rv,rp⟩ Y;exact iL (QM I1 rp (fc d Y) rv)
    have vm:(uc.map S4).Nodup:=(p2.map S4).nodup_iff.mpr nd;have yp:wO S4 uc:=VZ (R:=λu d=>∃v,RelV v u/\Rep X.K H1 O v d) og srt vm λu d h Y=>hk u d h (p2.mem_iff.mp Y);have e2:uc=oC S4 t:=kM yp (lK nd) (p2.trans (W0 S4 t).symm);subst e2;obtain⟨wv,ua,qd⟩:=w6.ac6 og;have I2':=I1.kept (h':=h1) (t':=J.toks) k;have I3:=I2'.laid (a:=l) (o:=.lst wv) (h':=h') (t':=J.toks) k2 hl ⟨by rw[qd.length,(W0 S4 t).length_eq];exact aAw xh (by decide),ja,n,ua,gl⟩;exact⟨.ref l,_,I3,rfl,q wv _ l sm (I2'.hok.fresh hl) qd⟩
  .rw[jn hc]at q;exact q.elim
end
end
section
def wA:List Int->Int
 |[]=>0
 |a::l=>l.foldl max a
theorem T9:∀(l:List Int) (a:Int),(l.foldl max a=a\/l.foldl max a∈l)/\a<=l.foldl max a/\∀b∈l,b<=l.foldl max a
 |[],a=>⟨.inl rfl,aCJ _,λb h=>by cases h⟩
 |c::l,a=>by
  obtain⟨d,g,f⟩:=T9 l (max a c);rw[aEx];refine⟨?_,by lia,λb e=>?_⟩
  .rcases d with d|d
   .rw[d];rcases Int.le_total a c with q|q
    .exact .inr (by rw[Int.max_eq_right q];exact .head _)
    .exact .inl (Int.max_eq_left q)
   .exact .inr (.tail _ d)
  .rcases aAd.mp e with rfl|e
   .lia
   .exact f b e
def zO (h:ns≠[]):wA ns∈ns:=by
 cases ns with
 |nil=>exact absurd rfl h
 |cons a l=>
  rcases(T9 l a).1 with q|q
  .show l.foldl max a∈_;rw[q];exact .head _
  .exact .tail _ q
def vM (h:a∈ns):a<=wA ns:=by
 cases ns with
 |nil=>cases h
 |cons b l=>
  rcases aAd.mp h with rfl|h
  .exact(T9 l a).2.1
  .exact(T9 l b).2.2 a h
def GY:List D->R D
 |[.lst Y]=>match pW Y with
  |some a=>if a≠[]then .ok (.int (wA a))else .bad
  |none=>.bad
 |_=>.bad
variable [Tabs]
section
def QB (d:IntsAre a ns)(e:a.toArray=intItems c):∀i,numAt c i=ns.getD i 0:=λi=>by have b:=nums_intItems c;rw[<-e]at b;have f:=d.numsOf;rw[show a.toArray.toList=a from rfl,f]at b;rw[b];unfold numAt;rw[aAq,aAM,<-aAC]
def VV (B:X.calm=true):fJ X (.builtin "max") GY:=by
 intro H O h C Q fr r q;match C,q with
 |[.lst Y],q=>
  obtain⟨v,rfl,z⟩:=KJ r;obtain⟨p,ws,rfl,k,l⟩:=z.aa4;simp only[GY]at q;cases e:pW Y with
  |none=>rw[e]at q;exact q.elim
  |some c=>
   rw[e]at q;dsimp only at q;by_cases d:c≠[]
   .rw[ji d]at q;rw[sJ e]at l;rw[tJ l]at k;refine⟨λh m n=>h=[.ref p]/\m=H/\n=Q,λo s σ m uu us n I E ⟨J,L,N⟩=>?_,rfl,rfl,rfl⟩;subst J L N;obtain⟨u,rfl,T⟩:=vals1 E;cases T;obtain⟨U,r',pl,hz⟩:=I.list k;have f:=DL.aG r';obtain⟨a,g⟩:=f.allInts.items;have w:=pl.isList;rw[g]at w;have x:a.size=c.length:=by have:=jr Array.size g;rw[aAp,f.length]at this;simpa[intItems]using this.symm
    have uf:0<c.length:=aEE.mpr d;refine max_intList (I.ok.hd B) w (by lia) λv h' tk hv hk=>?_;obtain⟨t,rfl⟩:=intItems_at hv;obtain⟨g1,y⟩:=argBest_gt (numAt a) (a.size-1);have em:numAt a (gs (λi j=>decide (numAt a i>numAt a j))<|a.size-1)=wA c:=by
     generalize gs (λi j=>decide (numAt a i>numAt a j)) (a.size-1)=b at g1 y;have m1:numAt a b∈c:=by rw[QB f g,aAq,aAg (by lia)];exact aCf _
     have m2:=vM m1;obtain⟨j,hj,ej⟩:=aBh (zO d);have A:=y j (by lia);rw[QB f g j,aAq,aAg hj]at A;have m4:c[j]<=numAt a b:=A
     lia
    rw[em];exact⟨.int (wA c),_,I.kept hk,⟨t,rfl⟩,q _ _ (Same.refl _) .int⟩
   .rw[jn d]at q;exact q.elim
def LH (K:ka)(mg:Y1)(x:Str)(ns:List Int):Prop:=∃a c b n d,mg x=some (.ref a)/\K.lookup a=some ⟨.type "tuple",c,.seq b n,d⟩/\n4 (ns.map V.int) b.toList/\b.size<=sizeLine
omit [Tabs]in
def YY {K:ka}{mg:Y1}{x:Str}{a:bc}{dd:Option bc}{n:Nat}{sl:Array (Option af)}{i j k:Int}{t u v:Tok}(b:mg x=some (.ref a))(c:K.lookup a=some ⟨.type "tuple",dd,.seq #[.int i t,.int j u,.int k v] n,sl⟩):LH K mg x [i,j,k]:=
 ⟨a,dd,_,n,sl,b,c,.cons ⟨t,rfl⟩ (.cons ⟨u,rfl⟩ (.cons ⟨v,rfl⟩ .nil)),show 3<=sizeLine by decide⟩
def vC (c:LH X.K X.mg x ns)(b:Gl X x:=by rfl)(d:(x==kb)=false:=by decide):PD X (.Name x pos) (TM (.tup (ns.map D.int))):=by obtain⟨a,j,e,n,k,f,g,h,i⟩:=c;exact JK f g h i b d
end
end
section
variable [Tabs]
section
variable{K:ka}
structure FunC (K:PySem.W.Frag)(x qual:Str)(st:Stmt)(f:Addr)(fd:FuncData)(cd:Addr):Prop where
 ex:∃(oc:Value) (od:Option Addr) (kV doc pm:Value) (an:Option Addr) (ct:Value) (osl:Array (Option Value)),
  fd=PySem.W.fnOf x qual (E6 st) (o6 st) (c6 st) .none kV doc pm an (.ref cd) ct/\K.lookup f=some ⟨oc,od,.func fd,osl⟩/\PySem.W.codeIn K (.ref cd) qual=true
 kp:PySem.W.keepIn K (.ref f)=true
omit [Tabs]in
def FunC.fn {x qual:Str}{st:dm}{f:bc}{fd:dC}{cd:bc}(F:FunC K x qual st f fd cd):Fun K x qual st f fd:=
 let⟨c,d,kV,a,e,g,h,b,i,j,k⟩:=F.ex
 ⟨⟨c,d,kV,a,e,g,.ref cd,h,b,i,j,k⟩,F.kp⟩
omit [Tabs]in
def UX {x qual:Str}{st:dm}{f cd:bc}{h:af}{i d:Option bc}{b:Array (Option af)}{kV a g T ct:af}(l:K.lookup f=some ⟨h,i,.func (PySem.W.fnOf x qual (E6 st) (o6 st) (c6 st) .none kV a g d T ct),b⟩)
  (e:T=.ref cd) (c:PySem.W.codeIn K T qual=true) (k:PySem.W.keepIn K (.ref f)=true):FunC K x qual st f (PySem.W.fnOf x qual (E6 st) (o6 st) (c6 st) .none kV a g d T ct) cd:=by
 subst e;exact⟨⟨h,i,kV,a,g,d,ct,b,rfl,l,c⟩,k⟩
def a1m {x qual:Str}{st:dm}{f cd:bc}{fd:dC}{N ps:List Str}{k:Nat}{m:List D->R D}{F:Ev->R Out}(i:FunC K x qual st f fd cd)(S:FnScope N ps (c6 st))
  (j:∀(A:cf) (a:List Env) (s:a9) (H:Hp) (E:XK),Room k (A.deeper (envOfC qual (c6 st) s.heap.objs.size f (.ref cd)))->X4 (SF P w K mg base N qual (c6 st) f (.ref cd) A a s H E) (o6 st) F)
  (l:∀ds d,ds.length=ps.length->m ds=.ok d->M5 (F (j0 N ds))=.ok d):FnOk P w K mg base rV (k+1) f fd ps (qj K ps.length m):=by
 obtain⟨T,U,kV,n,Y,an,ct,p,rfl,lk,t⟩:=i.ex;refine PN lk t S (by rintro u H Q E ⟨O,ds,d,r,c,_⟩;rw[r.length];exact c) λA a s H u Q E v y=>?_;obtain⟨O,ds,d,r,c,z,B,C,e,q⟩:=y;refine⟨_,uA.nox (j A a s H E v H O),O,_,eT r z B,C,?_⟩;have h:=l ds d c e;cases g:F (j0 N ds)with
 |ok o=>
  rw[g]at h;cases o with
  |rt I=>have b:R.ok I=R.ok d:=h;injection b with b;subst b;exact q
  |nx ρ=>have b:R.ok D.non=R.ok d:=h;injection b with b;subst b;exactλar J O' L _ _=>q .non J L.same .non
  |bk ρ=>cases h
  |ct ρ=>cases h
 |ex x=>rw[g]at h;cases h
 |bad=>rw[g]at h;cases h
def UF {x qual:Str}{st:dm}{f cd:bc}{fd:dC}{N ps:List Str}{k:Nat}{m:List D->R D}{F:Ev->R Out}(b:FunC K x qual st f fd cd)(S:FnScope N ps (c6 st))(c:Binds K fd ps [])(e:mg x=some (.ref f))
  (g:∀(A:cf) (a:List Env) (s:a9) (H:Hp) (E:XK),Room k (A.deeper (envOfC qual (c6 st) s.heap.objs.size f (.ref cd)))->X4 (SF P w K mg base N qual (c6 st) f (.ref cd) A a s H E) (o6 st) F)
  (h:∀ds d,ds.length=ps.length->m ds=.ok d->M5 (F (j0 N ds))=.ok d):v7 P w K mg base (k+1) x ps.length m:=
 ⟨f,fd,ps,a1m b S g h,c,b.kp,e⟩
def WY (P:bu)(w:cp)(K:ka)(mg:Y1)(base:cq)(k c:Nat)(x:Str)(M:D->(List D->R D)->(List D->R D)->R D):Prop:=
 ∃g b a,FnOk P w K mg base rV k g b a (spF K (KG P w K mg base c 1) M)/\Binds K b a []/\PySem.W.keepIn K (.ref g)=true/\mg x=some (.ref g)/\a.length=3
def WD {x qual:Str}{st:dm}{f:bc}{fd:dC}{N ps:List Str}{k b:Nat}{M:D->(List D->R D)->(List D->R D)->R D}{F:Ev->R Out}(c:Fun K x qual st f fd)(S:FnScope N ps (c6 st))(e:ps.length=3)(j:Binds K fd ps [])(l:mg x=some (.ref f))
  (m:∀(T:af) (A:cf) (a:List Env) (s:a9) (H:Hp) (E:XK),Room k (A.deeper (envOfC qual (c6 st) s.heap.objs.size f T))->X4 (SF P w K mg base N qual (c6 st) f T A a s H E) (o6 st) F)
  (n:∀g h i d,M g h i=.ok d->M5 (F (kN N (KG P w K mg base b 1) g h i))=.ok d):WY P w K mg base (k+1) b x M:=
 ⟨f,fd,ps,fnF c S e m n,j,c.kp,l,e⟩
end
section
def yT (i:Nat){Φ:(List D->R D)->Hp->(bc->Prop)->bc->Prop}(a:KG X.prog X.w X.K X.mg X.base k n=Φ)(b:xF X (e::es) f)(c:uS f n)(d:Room k X.A)(g:X.N[i]?=some x:=by rfl)(h:xH X.env.scope x:=by first|exact aCG rfl|exact aBL (aCG rfl)|exact aBL (aBL rfl))(j:(x==kb)=false:=by decide)(l:(x==kc)=false:=by decide)(m:a5 (e::es) X.env=(false,dz e X.env)::a5 es X.env:=by rfl)(A8:(cv pos (a5 es X.env)).any (·.1)=false:=by rfl):
  PD X (.Call (.Name x p) (e::es) [] pos) (callC Φ i f):=by
 subst a;exact RH i b c d g h j l m A8
def DP (s:NstOk X k n1)(t:NstOk X k n2)(u:ClosOk X n1 clos1)(v:ClosOk X n2 clos2)(z:∀x b,(x,b)∈clos1++clos2->X.env.cells.lookup x=some b)(B:jC X.mg X.base)(C:X.env.code=.ref c)(E:PySem.W.codeHdIn X.K c H=true)(j:(H,tb)∈Tabs.tbs)(l:(n1.pos,n1.qual)∈tb)(I:(n2.pos,n2.qual)∈tb)(J:∀p∈tb,p.1.line=n1.pos.line->p.1.col=n1.pos.col->p.2=n1.qual)(m:∀p∈tb,p.1.line=n2.pos.line->p.1.col=n2.pos.col->p.2=n2.qual)(L:n1.i≠n2.i)(O:X.N.Nodup)(Q:WY X.prog X.w X.K X.mg X.base T (k+1) x M)(U:Room T X.A)(Y:PD X e f)(zg:∀y,X.fn y=true)(hg:Gl X x:=by rfl)(eu:(x==kb)=false:=by decide)(n:a5 [e,.Name n1.name h,.Name n2.name a] X.env=(false,dz e X.env)::a5 [.Name n1.name h,.Name n2.name a] X.env:=by rfl)(o:a5 [.Name n1.name h,.Name n2.name a] X.env=(false,dz (.Name n1.name h) X.env)::a5 [.Name n2.name a] X.env:=by rfl)(q:a5 [.Name n2.name a] X.env=(false,dz (.Name n2.name a) X.env)::a5 [] X.env:=by rfl)(A8:(cv pos (a5 [.Name n1.name h,.Name n2.name a] X.env)).any (·.1)=false:=by rfl):
  X4 X [n1.stmt,n2.stmt,.Return (some (.Call (.Name x p) [e,.Name n1.name h,.Name n2.name a] [] pos)) r] (λρ=>((f ((ρ.set n1.i .no).set n2.i .no)).bind λd1=>(dG n1.js ((ρ.set n1.i .no).set n2.i .no)).bind λw1=>(dG n2.js ((ρ.set n1.i .no).set n2.i .no)).bind λw2=>M d1 (n1.mm w1) (n2.mm w2)).bind λd=>.ok (.rt d)):=by
 obtain⟨g,gd,ps,FF,hb,hk,hm,h3⟩:=Q;exact JE s t u v z B C E j l I J m L O FF U hm hk hb h3 Y zg hg eu n o q A8
end
end
end DL
namespace DL
open PySem L2
def _root_.L2.Room.ae0 (r:Room k A):A.units+130<dA:=by have:=r.un;lia
def _root_.L2.Room.ad8 (r:Room k A)(h:7<=k):A.units+300<dA:=by have:=r.un;lia
def KA {y:Str}{c:bc}{a:List (Str×bc)}(h:a.lookup y=some c:=by rfl):∀(x:Str) (b:bc),(x,b)∈[(y,c)]++[(y,c)]->a.lookup x=some b:=λx b d=>by
 have:(x,b)=(y,c):=by simpa using d
 injection this with e f;subst e f;exact h
def GB {sc:ik}{fn:List Str}{x:Str}(h:sc.names.lookup x=some .free)(a:(sc.names.all λp=>p.2 !=.free||fn.contains p.1)=true:=by decide+kernel):x∈fn:=by have b:=aBU.mp a _ (PySem.mem_of_lookup h);simpa using b
def EO:dm->Pos
 |.FunctionDef _ _ _ _ _ _ _ _ _ p=>p
 |_=>⟨0,0,0,0⟩
end DL
namespace M
open PySem L2 DL
def xK:D->Option G.V
 |.tup [.int a,.int b,.int c]=>some ⟨a,b,c⟩
 |_=>none
@[simp]def FP (v:G.V):xK (vd v)=some v:=rfl
def JN (h:xK d=some v):d=vd v:=by
 unfold xK at h;split at h
 .cases h;rfl
 .cases h
def B6:List D->Option (List G.V)
 |[]=>some []
 |d::a=>match xK d,B6 a with
  |some v,some b=>some (v::b)
  |_,_=>none
@[simp]theorem p6:∀vs:List G.V,B6 (vs.map vd)=some vs
 |[]=>rfl
 |v::vs=>by rw[aAt,B6,FP,p6 vs]
theorem n8:∀{ds:List D} {vs:List G.V},B6 ds=some vs->ds=vs.map vd
 |[],vs,h=>by cases h;rfl
 |d::ds,vs,h=>by
  unfold B6 at h;split at h
  .rename_i v c a b;cases h;rw[JN a,n8 b];rfl
  .cases h
def uZ (h:vd u=vd v):u=v:=by
 have:xK (vd u)=xK (vd v):=by rw[h]
 simpa using this
def WN {u v:List G.V}(h:u.map vd=v.map vd):u=v:=by
 have:B6 (u.map vd)=B6 (v.map vd):=by rw[h]
 simpa using this
def T1 (n:Nat)(J:List G.V):Prop:=(∀P∈J,Sz n P)/\J.length<=1000
def CT:Option G.V->D
 |some v=>vd v
 |none=>.non
def z6:List D->R D
 |[.lst Y]=>match B6 Y with
  |some a=>.ok (CT (G.A4 a))
  |none=>.bad
 |_=>.bad
open Classical in
def p8:List D->R D
 |[.lst Y]=>match B6 Y with
  |some J=>if J≠[]/\T1 1000 J then .ok (.int (G.K9 J))else .bad
  |none=>.bad
 |_=>.bad
open Classical in
def B4:List D->R D
 |[.lst Y]=>match B6 Y with
  |some J=>if T1 1000 J/\G.K9 J=3 then .ok .non else .bad
  |none=>.bad
 |_=>.bad
open Classical in
def y9:List D->R D:=v4 λa b c d=>JO λY=>fM (match B6 Y with
 |some J=>if Sz 10000 ⟨a,b,c⟩/\T1 1000 J then .ok (.lst ((G.x6 ⟨a,b,c⟩ d J).map vd))else .bad
 |none=>.bad)
open Classical in
def F4:List D->R D:=SC λg=>JO λY=>fM ((v1 λa b c=>v1 λd e f=>fM (match B6 Y with
 |some J=>if Sz 1000 ⟨a,b,c⟩/\Sz 1000 ⟨d,e,f⟩/\T1 1000 J/\G.X3 (G.b8 ⟨a,b,c⟩ ⟨d,e,f⟩ J).1 then .ok (xI (G.b8 ⟨a,b,c⟩ ⟨d,e,f⟩ J).1 (G.b8 ⟨a,b,c⟩ ⟨d,e,f⟩ J).2)else .bad
 |none=>.bad)) g)
abbrev J0 (p:G.V×G.V):D:=.tup [vd p.1,vd p.2]
structure Land (J:List G.V)(m:G.V):Prop where
 good:G.Good J m
 sz:T1 900 J
 few:J.length<=63
 head:J.head?=some m
open Classical in
def J7:List D->R D
 |[.lst Y]=>match B6 Y with
  |some (m::J)=>if Land (m::J) m then .ok (J0 (G.f9 m (m::J)))else .bad
  |_=>.bad
 |_=>.bad
open Classical in
def eV:List D->R D:=v1 λa b c=>v1 λd e f=>v1 λg h i=>v1 λj k l=>fM (
 if Sz 10000 ⟨a,b,c⟩/\Sz 1000 ⟨d,e,f⟩/\Sz 1000 ⟨g,h,i⟩/\Sz 1000 ⟨j,k,l⟩then .ok (.int (G.turn ⟨a,b,c⟩ ⟨d,e,f⟩ ⟨g,h,i⟩ ⟨j,k,l⟩))else .bad)
open Classical in
def T6:List D->R D:=v1 λa b c=>JO λY=>fM (match B6 Y with
 |some J=>if Sz 10000 ⟨a,b,c⟩/\T1 1000 J then .ok (.lst ((G.w4 ⟨a,b,c⟩ J).reverse.map vd))else .bad
 |none=>.bad)
open Classical in
def O8:List D->R D:=v1 λa b c=>JO λY=>fM (match B6 Y with
 |some J=>if Sz 10000 ⟨a,b,c⟩/\T1 1000 J then .ok (.lst ((G.j8 ⟨a,b,c⟩ J).map vd))else .bad
 |none=>.bad)
def y8:List D->R D
 |[.lst Y]=>match B6 Y with
  |some J=>if J.length<=3000 then .ok (.lst ((G.U7 J).map J0))else .bad
  |none=>.bad
 |_=>.bad
abbrev m8 (J:List G.V)(f:G.V×Int):D:=.tup [xI f.1 f.2,.lst ((G.l4 J f).map vd)]
def dR (J:List G.V)(fs:List (G.V×Int)):Prop:=(∀f,f∈fs↔G.IsFace J f.1 f.2)/\wO S4 (fs.map<|m8 J)
open Classical in
def o5 (J:List G.V):List (G.V×Int):=if h:∃fs,dR J fs then h.choose else[]
def K4:List D->List D->R D
 |[w],[_]=>.ok w
 |_,_=>.bad
def D7:List D->List D->R D
 |[w],[p]=>y9 [p,w]
 |_,_=>.bad
open Classical in
def J1 (d:D) (a b:List D->R D):R D:=match a [.non]with
 |.ok (.lst Y)=>match B6 Y with
  |some (m::J)=>if Land (m::J) m/\(m::J).length<=14/\d=J0 (G.f9 m (m::J))/\a=K4 [.lst Y]/\b=D7 [.lst Y]then .ok (.lst ((o5 (m::J)).map (m8 (m::J))))else .bad
  |_=>.bad
 |_=>.bad
def d9 (J:List G.V):List G.V:=(X8<|J.map vd).filterMap xK
open Classical in
def O7:List D->R D
 |[.lst Y]=>match B6 Y with
  |some J=>if T1 900 J/\G.j5 J/\(d9 J).length<=14 then .ok (.lst ((o5 (d9 J)).map (m8 (d9 J))))else .bad
  |none=>.bad
 |_=>.bad
def YX:D->Option (List G.V)
 |.tup [_,.lst Y]=>B6 Y
 |_=>none
def uE:List D->Option (List (List G.V))
 |[]=>some []
 |d::a=>match YX d,uE a with
  |some v,some b=>some (v::b)
  |_,_=>none
open Classical in
def E8:List D->R D
 |[.lst Y]=>match uE Y with
  |some a=>if a.flatten.length<=3000/\(d9 a.flatten).length<=63 then .ok (.lst ((d9 a.flatten).map vd))else .bad
  |none=>.bad
 |_=>.bad
def w8 (J:List G.V):List G.V:=d9 ((o5<|d9 J).flatMap (G.l4<|d9 J))
open Classical in
def U6:List D->R D
 |[.lst Y]=>match B6 Y with
  |some J=>if T1 900 J/\G.j5 J/\(d9 J).length<=14 then .ok (.lst ((w8 J).map vd))else .bad
  |none=>.bad
 |_=>.bad
def ne0 (v:G.V):QE (vd v) (.tup [.int 0,.int 0,.int 0])=.ok (.bl (!decide (v=0))):=by rw[EG];congr 3;rw[aDR];simp only[aAJ,beq_iff_eq,decide_eq_true_eq,G.qO];exact⟨λh=>h,λh=>h⟩
def eq0 (v:G.V):GW (vd v) (.tup [.int 0,.int 0,.int 0])=.ok (.bl (decide (v=0))):=by rw[iq];congr 2;rw[aDR];simp only[aAJ,beq_iff_eq,decide_eq_true_eq,G.qO];exact⟨λh=>h,λh=>h⟩
def T8 (a:G d ρ=.ok ρ1)(b:F ρ1=.ok (.nx ρ2)):P1 G F (d::ds) ρ=P1 G F ds ρ2:=by rw[P1,a];dsimp only;rw[b]
def vH (a:G d ρ=.ok ρ1)(b:F ρ1=.ok (.rt x)):P1 G F (d::ds) ρ=.ok (.rt x):=by rw[P1,a];dsimp only;rw[b]
theorem aJ {α:Type}(rep:α->D)(p:α->Bool)(g:α->D):∀(l:List α),(∀a∈l,∃ρ1,G (rep a) ρ=.ok ρ1/\ft ρ1=.ok (p a)/\(p a=true->fe ρ1=.ok (g a)))->B0 G ft fe ρ (l.map rep)=.ok ((l.filter p).map g)
 |[],_=>rfl
 |a::l,h=>by
  obtain⟨ρ1,d,e,f⟩:=h a (.head _);have i:=aJ rep p g l λb j=>h b (.tail _ j);rw[aAt,B0,d];dsimp only;rw[e,R.aa0,i];cases c:p a with
  |false=>rw[jn (by decide),List.filter_cons_of_neg (by simp[c])]
  |true=>rw[ji rfl,f c,R.aa0,R.aa0,List.filter_cons_of_pos c];rfl
def eI {α:Type}(rep:α->D)(g:α->D)(l:List α)(h:∀a∈l,∃ρ1,G (rep a) ρ=.ok ρ1/\fe ρ1=.ok (g a)):B0 G (λ_=>.ok true) fe ρ (l.map rep)=.ok (l.map g):=by
 have:=aJ rep (G:=G) (ft:=λ_=>.ok true) (fe:=fe) (ρ:=ρ) (λ_=>true) g l λa b=>let⟨ρ1,c,d⟩:=h a b;⟨ρ1,c,rfl,λ_=>d⟩
 rw[this,List.filter_eq_self.mpr λ_ _=>rfl]
def small (h:n<=1000):n<=sizeLine:=aAw h (by decide)
def MA (h:n<=3000):n<=sizeLine:=aAw h (by decide)
def T1.sub (h:T1 n J)(b:∀P∈a,P∈J)(c:a.length<=J.length):T1 n a:=⟨λP d=>h.1 P (b P d),aAw c h.2⟩
def T1.mono (h:T1 m J)(a:m<=n:=by decide):T1 n J:=⟨λP b=>(h.1 P b).mono a,h.2⟩
def a3d (t:Int):(sgn t==0)=decide (t=0):=by
 unfold sgn;by_cases h:0<t
 .rw[ji h];simp;lia
 .rw[jn h];by_cases a:t<0
  .rw[ji a];simp;lia
  .rw[jn a];simp;lia
def jM (a:Sz 10000 n)(b:T1 1000 J):y9 [xI n d,.lst (J.map vd)]=.ok (.lst ((G.x6 n d J).map vd)):=by simp only[y9,v4,SC,lV,JO,fM,p6];exact ji ⟨a,b⟩
def LP (a:J≠[])(b:T1 1000 J):p8 [.lst (J.map vd)]=.ok (.int (G.K9 J)):=by simp only[p8,p6];exact ji ⟨a,b⟩
def DN (ws:List G.V):z6 [.lst (ws.map vd)]=.ok (CT (G.A4 ws)):=by simp only[z6,p6]
def CD (bs:List Bool):cT (bs.map D.bl)=some bs:=by
 induction bs with
 |nil=>rfl
 |cons b bs a=>rw[aAt,cT,a];rfl
def ZL (bs:List Bool):anyR [.lst (bs.map D.bl)]=.ok (.bl (bs.any id)):=by simp only[anyR,CD]
def TX (Y:List D):SB (.lst Y) none (some (-1))=.ok (.lst Y.dropLast):=by
 show R.ok (D.lst<|cutD Y none<|some (-1))=_;unfold cutD HT.sIx;rw[aEj];simp;congr 1
 lia
def SK (Y:List D):SB (.lst Y) (some 1) none=.ok (.lst Y.tail):=by
 show R.ok (D.lst<|cutD Y (some 1) none)=_;unfold cutD HT.sIx;cases Y with
 |nil=>rfl
 |cons a l=>simp
def jw (Y:List D):SB (.lst Y) none (some 1)=.ok (.lst (Y.take 1)):=by
 show R.ok (D.lst<|cutD Y none<|some 1)=_;unfold cutD HT.sIx;cases Y with
 |nil=>rfl
 |cons a l=>simp
def YQ (Y:List D)(a b:D):qP (Y++[a,b]) (-1)=some b:=by
 have c:(Y++[a,b]).length=Y.length+2:=by simp
 unfold qP XI;rw[c,jn (by decide),ji (by lia)];show(Y++[a,b])[((-1:Int)+((Y.length+2:Nat):Int)).toNat]?=_;have:((-1:Int)+((Y.length+2:Nat):Int)).toNat=Y.length+1:=by lia
 rw[this,aAz (by lia),show Y.length+1-Y.length=1 by lia];rfl
def XT (Y:List D)(a b:D):qP (Y++[a,b]) (-2)=some a:=by
 have c:(Y++[a,b]).length=Y.length+2:=by simp
 unfold qP XI;rw[c,jn (by decide),ji (by lia)];show(Y++[a,b])[((-2:Int)+((Y.length+2:Nat):Int)).toNat]?=_;have:((-2:Int)+((Y.length+2:Nat):Int)).toNat=Y.length:=by lia
 rw[this,aAz (by lia),Nat.sub_self];rfl
def a0j (a:D)(Y:List D):qP (a::Y) 0=some a:=by rw[cB (by decide)];rfl
def wz (a b:D)(Y:List D):qP (a::b::Y) 1=some b:=by rw[cB (by decide)];rfl
def UV {P Q R:G.V}(h:G.X3 (G.d4 P Q R).1):G.cr (Q-P) (R-P)≠0:=λe=>by
 have:(G.d4 P Q R).1=0:=by show G.gT (G.cr (Q-P)<|R-P) _=0;rw[e];rfl
 rw[this]at h;unfold G.X3 at h;exact absurd h (by decide)
theorem AL:∀{c:List G.V},(G.X5 n P c).length<=c.length
 |[]=>aAh _
 |[a]=>aAh _
 |b::a::r=>by
  unfold G.X5;split
  .exact aAw (AL (c:=a::r)) (by simp)
  .exact aAh _
theorem oH:∀(a c:List G.V),(a.foldl (λc P=>P::G.X5 n P c) c).length<=a.length+c.length
 |[],c=>by simp
 |P::a,c=>by refine aAw (oH a _) ?_;have:=AL (n:=n) (P:=P) (c:=c);simp;lia
def sE (n:G.V)(ps:List G.V):(G.w4 n ps).length<=ps.length:=by simpa[G.w4]using oH (n:=n) ps []
theorem sD {α β:Type}(f:α->D):∀(Y a:List α),lI (Y.map f) (a.map f)=(Y.zip a).map λp=>D.tup [f p.1,f p.2]
 |[],_=>by simp[lI]
 |_::_,[]=>by simp[lI]
 |x::Y,y::a=>by have:=sD (β:=β) f Y a;simp only[lI]at this⊢;simp[this]
def WZ (a:Sz 10000 n)(b:T1 1000 J):T6 [vd n,.lst (J.map vd)]=.ok (.lst ((G.w4 n J).reverse.map vd)):=by simp only[T6,v1,SC,lV,JO,fM,p6];exact ji ⟨a,b⟩
def GH {n P Q R:G.V}(h:Sz 10000 n)(a:Sz 1000 P)(b:Sz 1000 Q)(c:Sz 1000 R):eV [vd n,vd P,vd Q,vd R]=.ok (.int (G.turn n P Q R)):=ji ⟨h,a,b,c⟩
def V8 (a:Sz 1000 A)(b:Sz 1000 B)(c:T1 1000 J)(d:G.X3 (G.b8 A B J).1):F4 [.tup [vd A,vd B],.lst (J.map vd)]=.ok (xI (G.b8 A B J).1 (G.b8 A B J).2):=by simp only[F4,v1,SC,lV,JO,fM,p6];exact ji ⟨a,b,c,d⟩
def TJ (a:Sz 10000 n)(b:T1 1000 J):O8 [vd n,.lst (J.map vd)]=.ok (.lst ((G.j8 n J).map vd)):=by simp only[O8,v1,SC,lV,JO,fM,p6];exact ji ⟨a,b⟩
def KW (h:J.length<=3000):y8 [.lst (J.map vd)]=.ok (.lst ((G.U7 J).map J0)):=by simp only[y8,p6];exact ji h
def GI (h:a.length+b.length<=sizeLine):kF (.lst a) (.lst b)=.ok (.lst (a++b)):=ji h
def QJ (a b:G.V):HT.lexLt (flat (vd a)) (flat (vd b))=true↔G.i4 (b-a):=by
 show HT.lexLt [a.x,a.y,a.z] [b.x,b.y,b.z]=true↔_;unfold G.i4;simp only[HT.lexLt,G.XC,G.XU,G.YC];by_cases c:a.x=b.x
 .by_cases d:a.y=b.y
  .by_cases e:a.z=b.z
   .simp[c,d,e]
   .simp[c,d,e];try lia
  .simp[c,d];try lia
 .simp[c];try lia
def CU {J:List G.V}(h:J.Pairwise λa b=>G.i4 (b-a)):SE (J.map vd):=aBB.mpr (h.imp λ{a b} q=>(QJ a b).mpr q)
def ny {J:List G.V}(h:SE (J.map vd)):J.Pairwise λa b=>G.i4 (b-a):=(aBB.mp h).imp λ{a b} q=>(QJ a b).mp q
def DK (J:List G.V):(J.map vd).all aP=true:=aBU.mpr λd a=>by obtain⟨v,_,rfl⟩:=aAo.mp a;rfl
def ZQ [Tabs]{m:G.V}{J:List G.V}(h:(m::J).Pairwise λa b=>G.i4 (b-a)):OO [.lst ((m::J).map vd)]=.ok (vd m):=by show(if(m::J).map vd≠[]/\((m::J).map vd).all aP=true then _ else _)=_;rw[ji ⟨by simp,DK _⟩,VO (CU h) _ (by simp)];rfl
def oD {P Q R:G.V}(p:Sz 1000 P)(q:Sz 1000 Q)(r:Sz 1000 R):Sz 2003 (G.d4 P Q R).1:=by
 have a:=(q.sub p).cr (r.sub p);by_cases c:G.cr (Q-P) (R-P)=0
 .have:(G.d4 P Q R).1=0:=by show G.gT (G.cr (Q-P)<|R-P) _=0;rw[c];rfl
  rw[this];exact⟨by decide,by decide,by decide⟩
 .obtain⟨g,h,i⟩:=G.kR c;have d:=bits_fdiv (b:=(G.n6 (G.cr (Q-P)<|R-P):Int)) a.1;have e:=bits_fdiv (b:=(G.n6 (G.cr (Q-P)<|R-P):Int)) a.2.1;have f:=bits_fdiv (b:=(G.n6 (G.cr (Q-P)<|R-P):Int)) a.2.2;rw[pZ g]at d e f;exact⟨d,e,f⟩
def yJ {A B:G.V}{J:List G.V}(p:Sz 1000 A)(q:Sz 1000 B)(r:T1 1000 J):Sz 2003 (G.b8 A B J).1:=by
 unfold G.b8;rcases G.jR (a:=B-A) (A:=A) J 0 A with h|h
 .exact oD p q (r.1 _ h)
 .rw[h];exact oD p q p
def a0i (m:G.V):vd (m+G.kk)=.tup [.int m.x,.int m.y,.int (m.z+1)]:=by simp[G.kk]
def KU (h:Sz 900 m):Sz 1000 (m+G.kk):=(h.add (v:=G.kk) ⟨by decide,by decide,by decide⟩).mono
def MH (h:T1 k J):T1 k (G.x6 n d J):=h.sub (λP a=>(G.d7.mp a).1) (List.length_filter_le _ _)
def PC {α:Type}{l:List α}{a b:α}(c:a∈l)(d:b∈l)(h:a≠b):∃x y r,l=x::y::r:=by
 match l,c,d with
 |[x],c,d=>exact absurd ((aBb.mp c).trans (aBb.mp d).symm) h
 |x::y::r,_,_=>exact⟨x,y,r,rfl⟩
open Classical in
def NO {N:List (D×D)}{k v a:D}:a∈(fE N k v).map (·.1)↔a∈N.map (·.1)\/a=k:=by
 unfold fE;split
 .rename_i h;rw[aCr];have:((λx=>x.1)∘λp:D×D=>if p.1=k then(p.1,v)else p)=λp=>p.1:=by funext p;simp only[Function.comp];split<;>rfl
  rw[this];exact⟨.inl,λq=>q.elim id λe=>by rw[e];exact h⟩
 .rw[aBJ,aAQ];simp
def LK {N:List (D×D)}{k v:D}:(fE N k v).length<=N.length+1:=by
 unfold fE;split
 .simp
 .simp
def UI {p q:G.V×G.V}(h:J0 p=J0 q):p=q:=by injection h with h;injection h with b a;injection a with a _;exact aEQ (uZ b) (uZ a)
def CK (p:G.V×G.V):S8 7 (J0 p)=true/\JF (J0 p)=true:=⟨rfl,rfl⟩
def ffC:Ev->R Bool:=λρ=>((((zG 5 ρ).bind λd=>R.ok [d]).bind WO).bind λx=>gx x (D.int 0)).bind lC
def ffS:Ev->R Out:=λρ=>
 C0 ((dE 9 ρ).bind λa=>zJ 4 ρ a (D.bl true)) λρ=>((((zG 9 ρ).bind λx=>W9 x (D.int 1)).bind λd=>(((zG 9 ρ).bind λx=>W9 x (D.int 0)).bind λd=>R.ok [d]).bind λb=>R.ok (d::b)).bind dH).bind (vS 5 ρ)
theorem FG {a0 a1 a2 a3 a6 a7 a8:Sl}:∀(a:List (G.V×G.V)) (N:List (D×D)) (W:List (G.V×G.V)) (f:Sl),N.length+a.length<=10000->W.length+a.length<=10000->
  ∃c b,P1 (λd ρ=>R.ok (aDW ρ 9 (Sl.v d))) ffS (a.map J0) [a0,a1,a2,a3,.d N,.o (W.map J0),a6,a7,a8,f]=.ok (.nx [a0,a1,a2,a3,.d c,.o ((W++a.map λq=>(q.2,q.1)).map J0),a6,a7,a8,b])/\
   (∀e:G.V×G.V,J0 e∈c.map (·.1)↔J0 e∈N.map (·.1)\/e∈a)/\c.length<=N.length+a.length
 |[],N,W,f,_,_=>⟨N,f,by simp,λe=>by simp,by simp⟩
 |q::a,N,W,f,g,i=>by
  simp only[aAu]at g i;have t:=LK (N:=N) (k:=J0 q) (v:=.bl true);obtain⟨c,b,e,m,l⟩:=FG a (fE N (J0 q)<|.bl true) (W++[(q.2,q.1)]) (.v (J0 q)) (by lia) (by simp;lia);refine⟨c,b,?_,λx=>?_,by simp;lia⟩
  .rw[aAt];refine(T8 (ρ2:=[a0,a1,a2,a3,.d (fE N (J0 q)<|.bl true),.o ((W++[(q.2,q.1)]).map J0),a6,a7,a8,.v (J0 q)]) rfl ?_).trans ?_
   .have j:N.length<=sizeLine:=aAw (show N.length<=10000 by lia) (by decide);have n:(W.map J0).length<sizeLine:=by rw[aAj];exact aBN (show W.length<=10000 by lia) (by decide)
    have p:zJ 4 [a0,a1,a2,a3,.d N,.o (W.map J0),a6,a7,a8,.v (J0 q)] (J0 q) (.bl true)=.ok (.nx [a0,a1,a2,a3,.d (fE N (J0 q)<|.bl true),.o (W.map J0),a6,a7,a8,.v (J0 q)]):=by show(if _ then _ else _)=_;rw[ji ⟨(CK q).1,(CK q).2,j⟩];rfl
    have r:vS 5 [a0,a1,a2,a3,.d (fE N (J0 q)<|.bl true),.o (W.map J0),a6,a7,a8,.v (J0 q)] (J0 (q.2,q.1))=.ok (.nx [a0,a1,a2,a3,.d (fE N (J0 q)<|.bl true),.o ((W++[(q.2,q.1)]).map J0),a6,a7,a8,.v (J0 q)]):=by show(if _ then _ else _)=_;rw[ji n,aBJ];rfl
    show C0 ((R.ok<|J0 q).bind λs=>zJ 4 [a0,a1,a2,a3,.d N,.o (W.map J0),a6,a7,a8,.v (J0 q)] s (D.bl true)) _=_;rw[R.aa0,p];exact r
   .rw[e];simp
  .rw[m x,NO,aAd];constructor
   .rintro((h|h)|h)
    .exact .inl h
    .exact .inr (.inl (UI h))
    .exact .inr (.inr h)
   .rintro(h|h|h)
    .exact .inl (.inl h)
    .exact .inl (.inr (by rw[h]))
    .exact .inr h
section
variable(Φ:(List D->R D)->Hp->(bc->Prop)->bc->Prop)
def ffB:Ev->R Out:=λρ=>
 C0 ((AZ 5 ρ).bind λz=>R.ok (Out.nx<|aDW z.snd 6<|Sl.v z.fst)) λρ=>
  ((dE 6 ρ).bind (nS 4 ρ)).bind λt=>
   if t=true then
    C0
     ((((dE 6 ρ).bind λd=>((callC Φ 1 (t8 (λρ=>(zG 6 ρ).bind λx=>W9 x (D.int 0)) X1) ρ).bind λd=>R.ok [d]).bind λa=>R.ok (d::a)).bind F4).bind λd=>R.ok (Out.nx<|aDW ρ 7<|Sl.v d))
     λρ=>
     C0
      (((((zG 7 ρ).bind λx=>SB x none (some 3)).bind λd=>((callC Φ 2 (t8 (dE 7) X1) ρ).bind λd=>R.ok [d]).bind λa=>R.ok (d::a)).bind O8).bind λd=>R.ok (Out.nx<|aDW ρ 8<|Sl.v d))
      λρ=>
      C0 ((((dE 7 ρ).bind λd=>((dE 8 ρ).bind λd=>R.ok [d]).bind λa=>R.ok (d::a)).bind dH).bind (vS 3 ρ))
       λρ=>((((dE 8 ρ).bind λd=>R.ok [d]).bind y8).bind nF).bind λa=>P1 (λd ρ=>R.ok (aDW ρ 9<|Sl.v d)) ffS a ρ
   else R.ok (Out.nx ρ)
def AH (L:D) (e:G.V×G.V) (fs:List D) (N:List (D×D)) (W:List (G.V×G.V)) (a b c d:Sl):Ev:=
 [Sl.v (J0 e),Sl.c (K4 [L]) (Φ<|K4 [L]),Sl.c (D7 [L]) (Φ<|D7 [L]),.o fs,.d N,.o (W.map J0),a,b,c,d]
end
def zT {Φ:(List D->R D)->Hp->(bc->Prop)->bc->Prop}{i:Nat}{f:Ev->R (List D)}{ρ:Ev}{m:List D->R D}{ds:List D}(h:ρ[i]?=some (.c m (Φ m)))(a:f ρ=.ok ds):callC Φ i f ρ=m ds:=by unfold callC;rw[h];dsimp only;rw[ji rfl,a];rfl
def gI (J:List G.V)(fs:List (G.V×Int)):Nat:=(fs.map λf=>(G.l4 J f).length).sum
def fC (J:List G.V)(fs:List (G.V×Int))(f:G.V×Int):gI J (fs++[f])=gI J fs+(G.l4 J f).length:=by simp[gI]
def RQ {J:List G.V}{m:G.V}(h:Land J m):Sz 1000 (G.f9 m J).1/\Sz 1000 (G.f9 m J).2:=by
 have a:Sz 900 m:=h.sz.1 m h.good.mem;obtain⟨i,d,e,f,g⟩:=G.zU h.good.solid h.good.mem h.good.least;unfold G.f9;dsimp only;split
 .exact⟨a.mono,KU a⟩
 .obtain⟨x,y,r,b⟩:=PC d f g;rw[b];have q:∀z∈x::y::r,Sz 1000 z:=λz c=>by rw[<-b]at c;exact(h.sz.1 z (G.d7.mp c).1).mono
  exact⟨q x (.head _),q y (.tail _ (.head _))⟩
def WC {J:List G.V}{m:G.V}(h:Land J m){fs:List (G.V×Int)}{b:G.V×G.V->Prop}{W:List (G.V×G.V)}(L:G.LInv J (G.f9 m J) fs b W){p:G.V×G.V}(c:p∈W):Sz 1000 p.1/\Sz 1000 p.2:=by
 rcases L.wt p c with⟨f,d,g⟩|⟨_,e⟩
 .have S:=(L.face f d).aa2 h.good.ord;have a:=S.aa1.mp g;exact⟨(h.sz.1 _ (G.d7.mp a.q).1).mono,(h.sz.1 _ (G.d7.mp a.p).1).mono⟩
 .rw[e];exact RQ h
def LM {J:List G.V}{m:G.V}(h:Land J m){f:G.V×Int}(a:G.IsFace J f.1 f.2):(G.l4 J f).length<=J.length:=by have S:=a.aa2 h.good.ord;exact G.J5 S.aa5 λx b=>(G.d7.mp<|S.aa3 b).1
def yV {J:List G.V}{f g:G.V×Int}(h:S4 (m8 J f)=S4 (m8 J g)):f=g:=by have h:[f.1.x,f.1.y,f.1.z,f.2]=[g.1.x,g.1.y,g.1.z,g.2]:=h;simp only[aFG,and_true]at h;exact aEQ (G.ext h.1 h.2.1 h.2.2.1) h.2.2.2
def qT {α β:Type}{f:α->β}(c:∀a b,f a=f b->a=b){l:List α}(h:l.Nodup):(l.map f).Nodup:=aBB.mpr (h.imp λ{a b} n e=>n (c a b e))
def VR {Φ:(List D->R D)->Hp->(bc->Prop)->bc->Prop}{J:List G.V}{m:G.V}(hz:Land J m){fs:List (G.V×Int)}{N:List (D×D)}{W:List (G.V×G.V)}{a b c d:Sl}(L:G.LInv J (G.f9 m J) fs (λe=>J0 e∈N.map (·.1)) W)
  (hk:N.length<=gI J fs) (hW:W.length<=1+gI J fs) {n:Nat} (hn:W.length+(J.length*J.length-gI J fs)<n+1) (Y:W≠[]):
  ∃k l W' a' b' c' d',ffB Φ (AH Φ (.lst (J.map vd)) (G.f9 m J) (fs.map (m8 J)) N W a b c d)=.ok (.nx (AH Φ (.lst (J.map vd)) (G.f9 m J) (k.map (m8 J)) l W' a' b' c' d'))/\
   G.LInv J (G.f9 m J) k (λe=>J0 e∈l.map (·.1)) W'/\l.length<=gI J k/\W'.length<=1+gI J k/\W'.length+(J.length*J.length-gI J k)<n:=by
 obtain⟨rest,p,rfl⟩:∃rest p,W=rest++[p]:=⟨W.dropLast,W.getLast Y,(List.dropLast_concat_getLast Y).symm⟩;have r:=G.aU hz.good.solid hz.good.ord L.nd L.face;have few:=hz.few;have nn:J.length*J.length<=63*63:=aEc few few;have hsum:gI J fs+J.length<=J.length*J.length:=r;have C:(rest++[p]).length=rest.length+1:=by simp
 rw[C]at hW hn;have E:AZ 5 (AH Φ (.lst (J.map vd)) (G.f9 m J) (fs.map<|m8 J) N (rest++[p]) a b c d)=.ok (J0 p,AH Φ (.lst (J.map vd)) (G.f9 m J) (fs.map<|m8 J) N rest a b c d):=by show(match((rest++[p]).map J0)[((rest++[p]).map J0).length-1]? with|some d=>_|none=>_:R (D×Ev))=_;rw[aBJ];simp;rfl
 have H:nS 4 (AH Φ (.lst (J.map vd)) (G.f9 m J) (fs.map<|m8 J) N rest (.v (J0 p)) b c d) (J0 p)=.ok (!(open Classical in decide (J0 p∈N.map (·.1)))):=by unfold nS;rw[show(AH Φ (.lst (J.map vd)) (G.f9 m J) (fs.map<|m8 J) N rest (.v (J0 p)) b c d)[4]?=some (.d N)from rfl];dsimp only;rw[ji (CK p)]
 have A:T1 1000 J:=hz.sz.mono;unfold ffB;rw[E];show∃k l W' a' b' c' d',C0 (R.ok<|Out.nx<|AH Φ (.lst (J.map vd)) (G.f9 m J) (fs.map<|m8 J) N rest (.v (J0 p)) b c d) _=_/\_;rw[C3];rw[show dE 6 (AH Φ (.lst (J.map vd)) (G.f9 m J) (fs.map<|m8 J) N rest (.v (J0 p)) b c d)=.ok (J0 p)from rfl,R.aa0,H,R.aa0];by_cases s:J0 p∈N.map (·.1)
 .refine⟨fs,N,rest,.v (J0 p),b,c,d,?_,G.NK hz.good L rfl s,hk,by lia,by lia⟩;rw[decide_eq_true s];rfl
 .have t:p∈rest++[p]:=by simp
  obtain⟨B,n2,n3⟩:=G.zQ hz.good L t s;obtain⟨u,w⟩:=WC hz L t;have ab:=V8 u w A B.prim;have i:=yJ u w A;obtain⟨f,ef⟩:∃f,G.b8 p.1 p.2 J=f:=⟨_,rfl⟩;rw[ef]at B n2 n3 ab i;have po:=jM (d:=f.2) i.mono A;have I:=TJ (n:=f.1) (J:=G.x6 f.1 f.2 J) i.mono (MH A);have rl:=LM hz B;have I:O8 [vd f.1,.lst ((G.x6 f.1 f.2 J).map vd)]=.ok (.lst ((G.l4 J f).map vd)):=I;have pr:=KW (J:=G.l4 J f) (by lia);have O:=λ{wk'} {W'} h1 h2=>G.ME hz.good L (rest:=rest) (p:=p) rfl s (walked':=wk') (waiting':=W') h1 h2;rw[ef]at O;have Q:(fs++[f]).Nodup:=by
   have:=(O (wk':=λe=>J0 e∈N.map (·.1)\/e∈G.U7 (G.l4 J f)) (W':=rest++(G.U7<|G.l4 J f).map λq=>(q.2,q.1)) (λe=>Iff.rfl) (λq=>by
    rw[aAQ,aAo];constructor
    .rintro(h|⟨x,T,rfl⟩)
     .exact .inl h
     .exact .inr T
    .rintro(h|h)
     .exact .inl h
     .exact .inr ⟨_,h,rfl⟩))
   exact this.nd
  have j:gI J (fs++[f])+J.length<=J.length*J.length:=G.aU hz.good.solid hz.good.ord Q λg hg=>by
   rcases aAQ.mp hg with z|z
   .exact L.face g z
   .rw[aBb.mp z];exact B
  rw[fC]at j;have clen:(G.U7<|G.l4 J f).length=(G.l4 J f).length:=by unfold G.U7;simp;lia
  obtain⟨l,U,run,y,len'⟩:=FG (a0:=Sl.v (J0<|G.f9 m J)) (a1:=Sl.c (K4 [.lst (J.map vd)]) (Φ<|K4 [.lst (J.map vd)])) (a2:=Sl.c (D7 [.lst (J.map vd)]) (Φ<|D7 [.lst (J.map vd)])) (a3:=.o ((fs++[f]).map (m8 J))) (a6:=.v (J0 p)) (a7:=.v (xI f.1 f.2)) (a8:=.v (.lst ((G.l4 J f).map vd))) (G.U7<|G.l4 J f) N rest d (by lia) (by lia);refine⟨fs++[f],l,rest++(G.U7<|G.l4 J f).map (λq=>(q.2,q.1)),.v (J0 p),.v (xI f.1 f.2),.v (.lst ((G.l4 J f).map vd)),U,?_,O y (λq=>?_),?_,?_,?_⟩
  .have ap:vS 3 (AH Φ (.lst (J.map vd)) (G.f9 m J) (fs.map<|m8 J) N rest (.v (J0 p)) (.v (xI f.1 f.2)) (.v (.lst ((G.l4 J f).map vd))) d) (m8 J f)=.ok (.nx (AH Φ (.lst (J.map vd)) (G.f9 m J) ((fs++[f]).map (m8 J)) N rest (.v (J0 p)) (.v (xI f.1 f.2)) (.v (.lst ((G.l4 J f).map vd))) d)):=by show(if(fs.map<|m8 J).length<sizeLine then _ else _)=_;have h3:=G.cM hz.good.solid hz.good.ord L.face;have h3:3*fs.length<=gI J fs:=h3;rw[ji (by rw[aAj];exact aBN (show fs.length<=4000 by lia) (by decide)),aBJ];rfl
   have ca:callC Φ 1 (t8 (λρ=>(zG 6 ρ).bind λx=>W9 x (D.int 0)) X1) (AH Φ (.lst (J.map vd)) (G.f9 m J) (fs.map<|m8 J) N rest (.v (J0 p)) b c d)=.ok (.lst (J.map vd)):=by exact(zT (m:=K4 [.lst (J.map vd)]) (ds:=[vd p.1]) rfl rfl).trans rfl
   have ct:callC Φ 2 (t8 (dE 7) X1) (AH Φ (.lst (J.map vd)) (G.f9 m J) (fs.map<|m8 J) N rest (.v (J0 p)) (.v (xI f.1 f.2)) c d)=.ok (.lst ((G.x6 f.1 f.2 J).map vd)):=by exact(zT (m:=D7 [.lst (J.map vd)]) (ds:=[xI f.1 f.2]) rfl rfl).trans po
   have sl:SB (xI f.1 f.2) none (some 3)=.ok (vd f.1):=rfl;rw[decide_eq_false s];simp only[Bool.not_false,if_true];rw[ca,R.aa0,R.aa0,R.aa0,R.aa0,ab,R.aa0];show C0 (R.ok<|Out.nx<|AH Φ (.lst (J.map vd)) (G.f9 m J) (fs.map<|m8 J) N rest (.v (J0 p)) (.v (xI f.1 f.2)) c d) _=_;rw[C3];rw[ct];show C0 ((((R.ok<|xI f.1 f.2).bind λx=>SB x none (some 3)).bind λd=>(R.ok [D.lst ((G.x6 f.1 f.2 J).map vd)]).bind λds=>R.ok (d::ds)).bind O8|>.bind λd=>R.ok (Out.nx<|aDW _ 8<|Sl.v d)) _=_;rw[R.aa0,sl,R.aa0,R.aa0,R.aa0,I,R.aa0];show C0 (R.ok<|Out.nx<|AH Φ (.lst (J.map vd)) (G.f9 m J) (fs.map<|m8 J) N rest (.v (J0 p)) (.v (xI f.1 f.2)) (.v (.lst ((G.l4 J f).map vd))) d) _=_;rw[C3];show C0 (vS 3 (AH Φ (.lst (J.map vd)) (G.f9 m J) (fs.map<|m8 J) N rest (.v (J0 p)) (.v (xI f.1 f.2)) (.v (.lst ((G.l4 J f).map vd))) d)<|m8 J f) _=_;rw[ap,C3];show((y8 [.lst ((G.l4 J f).map vd)]).bind nF).bind _=_;rw[pr,R.aa0];exact run
  .rw[aAQ,aAo];constructor
   .rintro(h|⟨x,T,rfl⟩)
    .exact .inl h
    .exact .inr T
   .rintro(h|h)
    .exact .inl h
    .exact .inr ⟨_,h,rfl⟩
  .rw[fC];lia
  .rw[fC,aAF,aAj];lia
  .rw[fC,aAF,aAj];lia
def WW (J:List G.V)(f:G.V×Int):List (G.V×Int)->List (G.V×Int)
 |[]=>[f]
 |x::Y=>if HT.lexLt (S4 (m8 J f)) (S4 (m8 J x))=true then f::x::Y else x::WW J f Y
def EN (J:List G.V)(fs:List (G.V×Int)):List (G.V×Int):=fs.foldr (WW J) []
theorem zI (J:List G.V)(f:G.V×Int):∀Y:List (G.V×Int),vL S4 (m8 J f) (Y.map (m8 J))=(WW J f Y).map (m8 J)
 |[]=>rfl
 |x::Y=>by
  unfold WW;rw[aAt,vL];split
  .rfl
  .rw[aAt,zI J f Y]
theorem eM (J:List G.V):∀fs:List (G.V×Int),oC S4 (fs.map (m8 J))=(EN J fs).map (m8 J)
 |[]=>rfl
 |f::fs=>by show vL S4 (m8 J f) (oC S4 (fs.map (m8 J)))=_;rw[eM J fs,zI];rfl
def lQ (h:m8 J f=m8 J g):f=g:=yV (by rw[h])
theorem fI:∀{a b:List (G.V×Int)},a.map (m8 J)=b.map (m8 J)->a=b
 |[],[],_=>rfl
 |[],_::_,h=>by cases h
 |_::_,[],h=>by cases h
 |x::a,y::b,h=>by rw[aAt,aAt]at h;injection h with c d;rw[lQ c,fI d]
def JH:f∈EN J fs↔f∈fs:=by
 have h:=(W0 S4<|fs.map<|m8 J).mem_iff (a:=m8 J f);rw[eM]at h;constructor
 .intro q;obtain⟨g,b,e⟩:=aAo.mp (h.mp<|aAX q);rw[<-lQ e];exact b
 .intro q;obtain⟨g,b,e⟩:=aAo.mp (h.mpr<|aAX q);rw[<-lQ e];exact b
def tV [Tabs]{J:List G.V}{fs:List (G.V×Int)}(h:fs.Nodup):((fs.map (m8 J)).map S4).Nodup:=by rw[aCr];exact qT (λa b e=>yV (J:=J) e) h
def L5 (h:wO k l):l.Nodup:=h.imp λ{a b} q e=>by subst e;rw[TS.lex_irrefl]at q;cases q
def D5 {J:List G.V}{fs:List (G.V×Int)}(h:(fs.map (m8 J)).Nodup):fs.Nodup:=(aBB.mp h).imp λ{a b} n e=>n (by rw[e])
def yN {J:List G.V}{fs a:List (G.V×Int)}(b:dR J fs)(c:dR J a):fs=a:=by
 have d:=D5 (L5 b.2);have e:=D5 (L5 c.2);have p:fs.Perm a:=(aDz d e).mpr λf=>by rw[b.1,c.1]
 exact fI (kM b.2 c.2 (p.map _))
def pR (h:dR J fs):o5 J=fs:=by unfold o5;have q:∃fs,dR J fs:=⟨fs,h⟩;rw[dif_pos q];exact yN q.choose_spec h
def tM [Tabs]{J:List G.V}{fs:List (G.V×Int)}(a:fs.Nodup)(h:∀n d,(n,d)∈fs↔G.IsFace J n d):dR J (EN J fs):=by refine⟨λf=>by rw[JH];exact h f.1 f.2,?_⟩;rw[<-eM];exact lK (tV a)
def a0n [Tabs]{Φ:(List D->R D)->Hp->(bc->Prop)->bc->Prop}{J:List G.V}{m:G.V}(hz:Land J m)(j:J.length<=14):
  M5 (C0 (T0 ffC (ffB Φ) 5000 (AH Φ (.lst (J.map vd)) (G.f9 m J) [] [] [G.f9 m J] .no .no .no .no)) λρ=>(((zG 3 ρ).bind zy).bind λds=>R.ok (D.lst ds)).bind λd=>R.ok (Out.rt d))=.ok (.lst ((o5 J).map (m8 J))):=by
 refine rN (Iv:=λn ρ=>∃fs N W a b c d,ρ=AH Φ (.lst (J.map vd)) (G.f9 m J) (fs.map<|m8 J) N W a b c d/\G.LInv J (G.f9 m J) fs (λe=>J0 e∈N.map (·.1)) W/\N.length<=gI J fs/\W.length<=1+gI J fs/\W.length+(J.length*J.length-gI J fs)<n) ?_ ?_ ?_ (by rintro ρ ⟨_,_,_,_,_,_,_,_,_,_,_,h⟩;lia)
 .rintro n ρ ⟨fs,N,W,a,b,c,d,rfl,L,r,s,t⟩;by_cases g:W=[]
  .subst g;exact .inl rfl
  .refine .inr ⟨?_,?_⟩
   .have u:(0:Int)<((W.map J0).length:Int):=by have:=aEE.mpr g;rw[aAj];lia
    show(R.ok<|D.bl<|decide ((0:Int)<((W.map J0).length:Int))).bind lC=_;rw[decide_eq_true u];rfl
   .obtain⟨v,w,x,y,z,A,B,e,C,E,k,l⟩:=VR (Φ:=Φ) (a:=a) (b:=b) (c:=c) (d:=d) hz L r s t g;exact⟨_,e,v,w,x,y,z,A,B,rfl,C,E,k,l⟩
 .refine⟨[],[],[G.f9 m J],.no,.no,.no,.no,rfl,?_,aAh _,aAh _,?_⟩
  .have:=G.DJ hz.good;refine⟨this.face,this.nd,λe=>?_,this.cl,this.wt,this.ne⟩;rw[<-this.wk e];simp
  .have H:J.length*J.length<=14*14:=aEc j j;show 1+(J.length*J.length-0)<5000
   lia
 .rintro n ρ ⟨fs,N,W,a,b,c,d,rfl,L,r,s,t⟩ i;have o:W=[]:=by
   cases W with
   |nil=>rfl
   |cons p W=>have i:(R.ok<|D.bl<|decide ((0:Int)<(((p::W).map J0).length:Int))).bind lC=.ok false:=i;rw[decide_eq_true (by simp;try lia)]at i;cases i
  subst o;obtain⟨g,I⟩:=G.MU hz.good L;have O:=tM L.nd I;rw[pR O];have few:=G.aU hz.good.solid hz.good.ord L.nd L.face;have q:=G.cM hz.good.solid hz.good.ord L.face;have H:J.length*J.length<=14*J.length:=Nat.mul_le_mul_right _ j;have Q:(fs.map<|m8 J).length<=63:=by rw[aAj];lia
  have T:zy (.lst (fs.map<|m8 J))=.ok ((EN J fs).map (m8 J)):=by show(if _ then _ else _)=_;rw[ji ⟨aBU.mpr λd U=>by obtain⟨f,_,rfl⟩:=aAo.mp U;rfl,tV L.nd,Q⟩,eM]
  show M5 ((((R.ok<|D.lst<|fs.map<|m8 J).bind zy).bind λds=>R.ok (D.lst ds)).bind λd=>R.ok (Out.rt d))=_;rw[R.aa0,T];rfl
theorem FQ:∀{ds:List D},(∀d∈ds,∃v,d=vd v)->(ds.filterMap xK).map vd=ds
 |[],_=>rfl
 |d::ds,h=>by obtain⟨v,rfl⟩:=h d (.head _);rw[List.filterMap_cons_some (FP v),aAt,FQ λd a=>h d (.tail _ a)]
section
variable [Tabs]
def OZ (J:List G.V):∀d∈J.map vd,aP d=true:=λd a=>by obtain⟨v,_,rfl⟩:=aAo.mp a;rfl
def U9 (J:List G.V):X8 (J.map vd)=(d9 J).map vd:=by unfold d9;refine(FQ λd a=>?_).symm;obtain⟨v,_,rfl⟩:=aAo.mp ((M1 (OZ J) d).mp a);exact⟨v,rfl⟩
def t9 (J:List G.V):(d9 J).Pairwise λa b=>G.i4 (b-a):=ny (by rw[<-U9];exact aI _)
def KN {v:G.V}{J:List G.V}:vd v∈J.map vd↔v∈J:=by rw[aAo];exact⟨by rintro⟨u,a,e⟩;rw[<-uZ e];exact a,λh=>⟨v,h,rfl⟩⟩
def k8 {J:List G.V}{v:G.V}:v∈d9 J↔v∈J:=by rw[<-KN,<-U9,M1 (OZ J),KN]
def U1 (J:List G.V):(d9 J).Nodup:=(t9 J).imp λ{a b} h e=>by subst e;exact G.J2 h
def R0 {a b:List G.V}(f:a.Pairwise λa b=>G.i4 (b-a))(g:b.Pairwise λa b=>G.i4 (b-a))(h:∀v,v∈a↔v∈b):a=b:=by refine WN (iZ (CU f) (CU g) λd=>?_);rw[aAo,aAo];exact⟨λ⟨v,c,e⟩=>⟨v,(h v).mp c,e⟩,λ⟨v,c,e⟩=>⟨v,(h v).mpr c,e⟩⟩
def LC (h:(d9 J).length<=63):ssR (.lst (J.map vd))=.ok ((d9 J).map vd):=by show(if _ then _ else _)=_;rw[ji ⟨DK J,by rw[U9,aAj];exact h⟩,U9]
def lA (h:G.j5 a)(c:∀v,v∈a->v∈b):G.j5 b:=by obtain⟨A,d,B,f,C,g,D,i,e⟩:=h;exact⟨A,c A d,B,c B f,C,c C g,D,c D i,e⟩
def ix (h:G.j5 J):G.K9 J=3:=by
 by_cases e:G.K9 J=3
 .exact e
 .exact absurd h (G.QF e)
def oO (J:List G.V):(d9 J).length<=J.length:=G.J5 (U1 J) λv a=>k8.mp a
def P9 (d:T1 900 J)(f:G.j5 J)(c:(d9 J).length<=63):∃m r,d9 J=m::r/\Land (m::r) m:=by
 have a:G.j5 (d9 J):=lA f λv g=>k8.mpr g;cases e:d9 J with
 |nil=>rw[e]at a;obtain⟨A,i,_⟩:=a;cases i
 |cons m r=>
  refine⟨m,r,rfl,?_⟩;have b:=t9 J;rw[e]at a c b;refine⟨⟨a,b,.head _,λX j=>?_⟩,⟨λP k=>d.1 P (k8.mp (by rw[e];exact k)),by lia⟩,c,rfl⟩;rcases aAd.mp j with h|h
  .exact .inl h
  .exact .inr ((aAy.mp b).1 X h)
def WJ (a:T1 1000 J)(b:G.j5 J):B4 [.lst (J.map vd)]=.ok .non:=by simp only[B4,p6];exact ji ⟨a,ix b⟩
def a0c (h:Land (m::J) m):J7 [.lst ((m::J).map vd)]=.ok (J0 (G.f9 m (m::J))):=by simp only[J7,p6];exact ji h
def fy (h:Land (m::J) m)(a:(m::J).length<=14):J1 (J0 (G.f9 m (m::J))) (K4 [.lst ((m::J).map vd)]) (D7 [.lst ((m::J).map vd)])=.ok (.lst ((o5 (m::J)).map (m8 (m::J)))):=by simp only[J1,show K4 [.lst ((m::J).map vd)] [.non]=.ok (.lst ((m::J).map vd))from rfl,p6];exact ji ⟨h,a,rfl,rfl,rfl⟩
def ML (a:T1 900 J)(b:G.j5 J)(c:(d9 J).length<=14):O7 [.lst (J.map vd)]=.ok (.lst ((o5 (d9 J)).map (m8 (d9 J)))):=by simp only[O7,p6];exact ji ⟨a,b,c⟩
def WM (a:T1 900 J)(b:G.j5 J)(c:(d9 J).length<=14):U6 [.lst (J.map vd)]=.ok (.lst ((w8 J).map vd)):=by simp only[U6,p6];exact ji ⟨a,b,c⟩
omit [Tabs]in
theorem zk {α:Type}:∀l:List α,∃b:List α,b.Nodup/\∀x,x∈b↔x∈l
 |[]=>⟨[],aDh,λ_=>Iff.rfl⟩
 |a::l=>by
  obtain⟨b,c,h⟩:=zk l;by_cases d:a∈l
  .exact⟨b,c,λx=>by rw[h,aAd];exact⟨.inr,λq=>q.elim (λe=>by rw[e];exact d) id⟩⟩
  .exact⟨a::b,aAR.mpr ⟨λz=>d ((h a).mp z),c⟩,λx=>by rw[aAd,aAd,h]⟩
def D3 (h:Land J m)(l:J.length<=14):dR J (o5 J):=by
 classical
 obtain⟨fs,c,a⟩:=zk ((G.cands J).filter λf=>decide (G.IsFace J f.1 f.2));have g:∀n d,(n,d)∈fs↔G.IsFace J n d:=λn d=>by
  rw[a,aBQ];constructor
  .intro q;exact of_decide_eq_true q.2
  .intro q;refine⟨?_,decide_eq_true q⟩;obtain⟨A,i,B,j,C,k,_,e⟩:=G.kA q;unfold G.cands;rw[<-e];exact aBx.mpr ⟨A,i,aBx.mpr ⟨B,j,aAo.mpr ⟨C,k,rfl⟩⟩⟩
 have b:=tM c g;rw[pR b];exact b
theorem lY:∀(Y:List D) (b:List (List G.V)) (B:List G.V) (x y:Sl),uE Y=some b->B.length+b.flatten.length<=3000->
  ∃f g,P1 (yI 2 (qD (λd ρ=>R.ok (aDW ρ 2 (Sl.v d))) (qD (λd ρ=>R.ok (aDW ρ 3 (Sl.v d))) NT))) (λρ=>(dE 3 ρ).bind (ZO 1 ρ)) Y [a,.o (B.map vd),x,y]=.ok (.nx [a,.o ((B++b.flatten).map vd),f,g])
 |[],b,B,x,y,h,_=>by cases h;exact⟨x,y,by simp⟩
 |d::Y,b,B,x,y,h,j=>by
  unfold uE at h;split at h
  .rename_i v k c l;cases h;obtain⟨p,i,rfl,m⟩:∃p i,d=.tup [p,.lst i]/\B6 i=some v:=by
    unfold YX at c;split at c
    .exact⟨_,_,rfl,c⟩
    .cases c
   have n:=n8 m;subst n;rw[List.flatten_cons,aAF]at j;obtain⟨f,g,e⟩:=lY Y k (B++v) (.v p) (.v (.lst (v.map vd))) l (by rw[aAF];lia);refine⟨f,g,?_⟩;have q:(B.map vd).length+(v.map vd).length<=sizeLine:=by rw[aAj,aAj];exact MA (by lia)
   refine(T8 (ρ1:=[a,.o (B.map vd),.v p,.v (.lst (v.map vd))]) (ρ2:=[a,.o ((B++v).map vd),.v p,.v (.lst (v.map vd))]) rfl ?_).trans ?_
   .show(if(B.map vd).length+(v.map vd).length<=sizeLine then _ else _)=_;rw[ji q,aBJ];rfl
   .rw[e,List.flatten_cons,aDY]
  .cases h
theorem lZ (J:List G.V):∀fs:List (G.V×Int),uE (fs.map (m8 J))=some (fs.map (G.l4 J))
 |[]=>rfl
 |f::fs=>by rw[aAt,uE,lZ J fs];rw[show YX (m8 J f)=some (G.l4 J f)from p6 _];rfl
def BA {J:List G.V}{fs:List (G.V×Int)}(a:(fs.flatMap (G.l4 J)).length<=3000)(b:(d9 (fs.flatMap (G.l4 J))).length<=63):E8 [.lst (fs.map (m8 J))]=.ok (.lst ((d9 (fs.flatMap (G.l4 J))).map vd)):=by have e:(fs.map<|G.l4 J).flatten=fs.flatMap (G.l4 J):=rfl;simp only[E8,lZ,e];exact ji ⟨a,b⟩
def nU (c:J.Pairwise λa b=>G.i4 (b-a))(d:G.IsFace J f.1 f.2)(h:X∈G.l4 J f):X∈J:=(G.d7.mp<|(d.aa2 c).aa3 h).1
def qA (d:T1 900 J)(g:G.j5 J)(a:(d9 J).length<=14)(h:X∈w8 J):X∈J:=by obtain⟨m,r,e,L⟩:=P9 d g (by lia);unfold w8 at h;rw[k8,aBx]at h;obtain⟨f,b,c⟩:=h;rw[e]at b c a;have i:=D3 L a;have:=nU L.good.ord ((i.1 f).mp b) c;rw[<-e,k8]at this;exact this
def rY (L:Land J m)(a:J.length<=14):((o5 J).flatMap (G.l4 J)).length<=200/\(d9 ((o5 J).flatMap (G.l4 J))).length<=14:=by
 have b:=D3 L a;have e:=D5 (L5 b.2);have few:=G.aU L.good.solid L.good.ord e λf c=>(b.1 f).mp c;have h:J.length*J.length<=14*14:=aEc a a;constructor
 .rw[List.length_flatMap]
  lia
 .refine aAw (G.J5 (U1 _) λv d=>?_) a;rw[k8,aBx]at d;obtain⟨f,c,g⟩:=d;exact nU L.good.ord ((b.1 f).mp c) g
end
def jK (h:0<b):rA (.int a) (.int b)=.ok (.int (a.fmod b)):=pF (by omega)
def kB (h:0<b)(c:b<1000000000000000):fF (.int a) (.int b)=.ok (.int (a.fdiv b)):=lR ⟨by omega,i6 (Y0 (n:=60) (by omega) (by omega))⟩
def CA {a b:Int}(h:0<b):0<=a.fmod b/\a.fmod b<b:=by have f:=aEt a b;have g:=f.2.2.1 h;omega
def v9 (a:r=.ok (.nx ρ))(b:M5 (F ρ)=x):M5 (C0 r F)=x:=by rw[a];exact b
def a1z {n:Nat}(h:n<=1000000):mO [.int (n:Int)]=.ok ((aBK n).map λ(k:Nat)=>D.int (k:Int)):=by
 show(if tH 0 (n:Int) 1 then R.ok (EH 0 1<|mV 0 n 1)else R.bad)=_;rw[ji ⟨by decide,by decide,by decide,by decide,by omega,by omega⟩];have e:mV 0 (n:Int) 1=n:=by
  unfold mV;split
  .simp
  .omega
 rw[e];unfold EH;congr 1;refine aEv λk _=>?_;simp
section
variable [Tabs]
def qJ {J:List G.V}(g:T1 900 J)(h:G.j5 J)(c:(d9 J).length<=14):∀X,X∈w8 J↔∃f:G.V×Int,G.IsFace (d9 J) f.1 f.2/\X∈G.l4 (d9 J) f:=λX=>by obtain⟨m,r,e,L⟩:=P9 g h (by lia);unfold w8;rw[k8,aBx];rw[e]at c⊢;have d:=D3 L c;exact⟨by rintro⟨f,a,b⟩;exact⟨f,(d.1 f).mp a,b⟩,by rintro⟨f,a,b⟩;exact⟨f,(d.1 f).mpr a,b⟩⟩
def xV {l:List G.V}(h:l.Pairwise λa b=>G.i4 (b-a)):d9 l=l:=R0 (t9 _) h λv=>k8
def sG {J:List G.V}(j:T1 900 J)(k:G.j5 J)(l:(d9 J).length<=14):G.j5 (w8 J)/\T1 900 (w8 J)/\d9 (w8 J)=w8 J/\(w8 J).length<=14/\w8 (w8 J)=w8 J/\∀n d,G.IsFace (w8 J) n d↔G.IsFace (d9 J) n d:=by
 have p:=qJ j k l;have c:(w8 J).Pairwise λa b=>G.i4 (b-a):=t9 _;have o:G.j5 (d9 J):=lA k λv g=>k8.mpr g;have q:=t9 J;obtain⟨m,r,e,L⟩:=P9 j k (by lia);have s:dR (d9 J) (o5<|d9 J):=by have h:=l;rw[e]at h⊢;exact D3 L h
 have x:(w8 J).length<=14:=by have h:=l;unfold w8;rw[e]at h⊢;exact(rY L h).2
 have y:o5 (d9 J)≠[]:=λz=>by
  obtain⟨A,I,_⟩:=o;have:∃f:G.V×Int,G.IsFace (d9 J) f.1 f.2:=by have i:=L;rw[<-e]at i;have:=G.gO i.good.solid i.good.ord i.good.mem i.good.least;exact⟨_,this⟩
  obtain⟨f,t⟩:=this;have:=(s.1 f).mpr t;rw[z]at this;cases this
 obtain⟨C,u⟩:=aEW _ y;have B:=G.GK o q c p ((s.1 C).mp u);have sz:T1 900 (w8 J):=⟨λP E=>j.1 P (qA j k l E),by lia⟩;have w:=xV c;refine⟨B,sz,w,x,?_,λn d=>G.US o q c p _ y s.1⟩;refine R0 (t9 _) c λv=>?_;have H:=qJ sz B (by rw[w];exact x) v;show v∈w8 (w8 J)↔_;rw[H,w];constructor
 .rintro⟨f,t,g⟩;exact nU c t g
 .exactλg=>G.MO o q c p g
end
def ZR {J:List G.V}{A B C D:G.V}(a:A∈J)(b:B∈J)(c:C∈J)(d:D∈J)(h:G.i8 (B-A) (C-A) (D-A)≠0):G.j5 J:=⟨A,a,B,b,C,c,D,d,h⟩
end M
namespace DL
open PySem PySem.Spec L2
def SX {K:Params->ka}{P c:bc}{tb:List (Pos×Str)}{a:List bc}(b:P∈a)(d:∀w:cp,PySem.W.codeHdIn (K w.params) c P=true):∀p∈[(P,tb)],p.1∈a/\∃c,∀w:cp,PySem.W.codeHdIn (K w.params) c p.1=true:=λp e=>by rw[aBb.mp e];exact⟨b,c,d⟩
def Got (K:ka)(x:Str)(st:dm):Prop:=∃f a,PySem.W.nsIn K bt x=some (some<|.ref f)/\Fun K x x st f a
def TC (K:ka)(x:Str)(st:dm)(b:bc):Prop:=∃f c a,PySem.W.nsIn K bt x=some (some<|.ref f)/\PySem.W.codeHdIn K a b=true/\FunC K x x st f c a
def aN (K:ka)(mg:Y1)(x:Str)(st:dm):Prop:=∃f a,mg x=some (.ref f)/\Fun K x x st f a
def nj (K:ka)(mg:Y1)(x:Str)(st:dm)(b:bc):Prop:=∃f c a,mg x=some (.ref f)/\PySem.W.codeHdIn K a b=true/\FunC K x x st f c a
section
variable{kV doc pm T ct:af}
def kj (a:PySem.W.nsIn K bt x=some (some (.ref f)))(l:K.lookup f=some ⟨d,e,.func (PySem.W.fnOf x x (E6 st) (o6 st) (c6 st) .none kV doc pm g T ct),b⟩)
 (c:PySem.W.codeIn K T x=true) (k:PySem.W.keepIn K (.ref f)=true):Got K x st:=⟨f,_,a,OM l c k⟩
def TV (a:PySem.W.nsIn K bt x=some (some (.ref f)))(l:K.lookup f=some ⟨g,h,.func (PySem.W.fnOf x x (E6 st) (o6 st) (c6 st) .none kV doc pm i T ct),b⟩)
 (c:PySem.W.codeIn K T x=true) (k:PySem.W.keepIn K (.ref f)=true) (e:T=.ref cd) (n:PySem.W.codeHdIn K cd d=true):TC K x st d:=⟨f,_,cd,a,n,UX l e c k⟩
def Got.def (g:Got K x st)(X:K.In h)(G:h.Ns bt mg):aN K mg x st:=let⟨f,c,a,b⟩:=g;⟨f,c,PySem.W.mg_of X G a,b⟩
def TC.def (g:TC K x st c)(X:K.In h)(G:h.Ns bt mg):nj K mg x st c:=let⟨f,d,e,a,b⟩:=g;⟨f,d,e,PySem.W.mg_of X G a,b⟩
def G4 (a:sc.kind=.function:=by rfl)(b:sc.isCoroutine=false:=by rfl)(c:sc.isGenerator=false:=by rfl)(d:N.Nodup:=by decide+kernel)(e:N.take ps.length=ps:=by rfl)(f:∀x∈ps,sc.names.lookup x=some .local\/sc.names.lookup x=some .cell:=by decide+kernel)(g:∀y∈sc.names,y.2≠.free:=by decide+kernel):FnScope N ps sc:=⟨a,b,c,d,e,f,g⟩
variable [Tabs]
def m9 (g:aN K mg x st)(S:FnScope N ps (c6 st))(e:∀{f:bc} {T:af} {A:cf} {a:List Env} {s:a9} {H:Hp} {E:XK},Room k (A.deeper (aCL x (c6 st) s.heap.objs.size f T))->(A.deeper (aCL x (c6 st) s.heap.objs.size f T)).units+64<dA->(A.deeper (aCL x (c6 st) s.heap.objs.size f T)).units+130<dA->N.Nodup->
  X4 (SF P w K mg base N x (c6 st) f T A a s H E) (o6 st) F) (h:∀ds d,ds.length=ps.length->m ds=.ok d->M5 (F (j0 N ds))=.ok d) (i:∀(kV doc pm:af) (j:Option bc) (T ct:af) (us:List af),us.length=ps.length->bindArgs (PySem.W.fnOf x x (E6 st) (o6 st) (c6 st) .none kV doc pm j T ct) ⟨us,[]⟩=pure (ps.zip us):=by
  intro _ _ _ _ _ _ us l;rcases us with _|⟨_,_|⟨_,_|⟨_,_|⟨_,_|⟨_,_|⟨_,_|⟨_,_⟩⟩⟩⟩⟩⟩⟩<;>first|rfl|exact absurd l (by simp)):v7 P w K mg base (k+1) x ps.length m:=by
 obtain⟨f,o,n,c⟩:=g;exact nk c S (c.binds i) n (λT A a s H E b=>e b b.units b.ae0 S.nd) h
end
def XH (x:D)(a:List D):Bool:=a.any λy=>u7 y x
def inR (n:Bool):D->D->R D
 |.tup Y,.lst a=>if A3 a<=40/\A3 Y<=30 then .ok (.bl (XH (.tup Y) a !=n))else .bad
 |.lst Y,.lst a=>if A3 a<=40/\A3 Y<=30 then .ok (.bl (XH (.lst Y) a !=n))else .bad
 |_,_=>.bad
section
variable [Tabs]
open Classical in
def RY (K:ka) (H:Hp) (O:bc->Prop) (a:D) (u:af):Bool:=decide (∃y d,RelV y u/\Rep K H O y d/\u7 d a=true)
open Classical in
def OG (I:Inv X b σ H s)(r:Rep X.K H O y d)(c:RelV y u):RY X.K H O f u=u7 d f:=by
 unfold RY;by_cases h:u7 d f=true
 .rw[h];exact decide_eq_true ⟨y,d,c,r,h⟩
 .rw[Bool.eq_false_iff.mpr h];refine decide_eq_false λ⟨j,k,a,g,i⟩=>h ?_;have e:=RelV.inj c a;subst e;rw[Rep.inj I r g];exact i
theorem DE (I:Inv X f σ H s)(g:Rep X.K H o x c)(i:RelV x v):∀{vs:List V} {a:List D} {us:List af},Reps X.K H O vs a->n4 vs us->A.units+A3 a<dA->A.units+E9 c<dA->
  (∀u∈us,SeqAt.EqAt A s u v (RY X.K H O c u))/\us.any (RY X.K H O c)=XH c a
 |_,_,_,.nil,.nil,_,_=>⟨λu k=>(by cases k),rfl⟩
 |_,d::a,_,.cons h t,.cons r l,k,b=>by
  have p:E9 d<=A3 (d::a):=nI (j:=0) rfl;have q:A3 a<=A3 (d::a):=by rw[A3];exact Nat.le_max_right _ _
  obtain⟨m,n⟩:=DE (A:=A) I g i t l (by lia) b;refine⟨λu e=>?_,?_⟩
  .rcases aAd.mp e with rfl|e
   .rw[OG I h r];exact QV I h g r i (by lia) b
   .exact m u e
  .rw[List.any_cons,n,OG I h r];rfl
end
section
variable [Tabs]
def LQ (hu:X.A.units+64<dA):mD X (eQ .NotIn) (inR true):=by
 intro H O x y dx dy Q fr N T q;unfold inR at q;split at q
 .rename_i Y i;split at q
  .rename_i U;obtain⟨j,ja,rfl,k,l⟩:=N.tupI;obtain⟨a,vs,rfl,h,r⟩:=T.aa4;refine⟨λd e b f=>d=.ref j/\e=.ref a/\b=H/\f (.bl (!XH (.tup Y) i)) H,?_,rfl,rfl,rfl,?_⟩
   .intro g s σ b d e v u f I n o ⟨t,B,C,E⟩;subst t B C;cases o;obtain⟨c,J,p,hz⟩:=I.list h;have m:=DE I (A:=X.A.in1) (O:=O) (Rep.tup k l) n r J (by rw[o8];lia) (by rw[o8,E9];lia);refine SeqAt.notIn_listAt (RY X.K b O<|.tup Y) p.isList (λw L=>m.1 w (by simpa using L)) ⟨.bl _,b,I,rfl,?_⟩;rw[show c.toArray.any (RY X.K b O<|.tup Y)=c.any (RY X.K b O<|.tup Y)by simp,m.2];exact E
   .have:=q (.bl _) H (Same.refl _) .bl;simpa using this
  .exact q.elim
 .rename_i Y i;split at q
  .rename_i U;obtain⟨j,ja,rfl,k,l⟩:=N.aa4;obtain⟨a,vs,rfl,h,r⟩:=T.aa4;refine⟨λd e b f=>d=.ref j/\e=.ref a/\b=H/\f (.bl (!XH (.lst Y) i)) H,?_,rfl,rfl,rfl,?_⟩
   .intro g s σ b d e v u f I n o ⟨t,B,C,E⟩;subst t B C;cases o;obtain⟨c,J,p,hz⟩:=I.list h;have m:=DE I (A:=X.A.in1) (O:=O) (Rep.lst (O:=λ_=>False) k (λz=>z)<|l.sub λ_ z=>z.elim) n r J (by rw[o8];lia) (by rw[o8,E9];lia);refine SeqAt.notIn_listAt (RY X.K b O<|.lst Y) p.isList (λw L=>m.1 w (by simpa using L)) ⟨.bl _,b,I,rfl,?_⟩;rw[show c.toArray.any (RY X.K b O<|.lst Y)=c.any (RY X.K b O<|.lst Y)by simp,m.2];exact E
   .have:=q (.bl _) H (Same.refl _) .bl;simpa using this
  .exact q.elim
 .exact q.elim
end
end DL
namespace DL
open PySem PySem.Spec L2
open PyProof.Rows hiding St st
variable [Tabs]
section
def RSF (X:Cx)(d:Hp)(e:bc->Prop)(r:R (List D))(D:Ends):Prop:=match r with
 |.ok f=>∀c b a,Same d b->b a=none->Reps X.K b e c f->D.rt (.ref a) (upd b a<|.lst c)
 |_=>False
def tSF (X:Cx)(a:Hp)(b:bc->Prop)(F:Ev->R (List D)):TS:=λD σ H=>∃O ρ,EnvOk X.K a b H O σ ρ/\R5 X.K O/\RSF X a b (F ρ) D
def VH (X:Cx)(st:List dm)(F:Ev->R (List D)):Prop:=∀a b,uA X st (tSF X a b F)
def XD (r:R Out)(F:Ev->R (List D)):R (List D):=match r with
 |.ok (.nx ρ)=>F ρ
 |_=>.bad
@[simp]def zj (ρ:Ev)(F:Ev->R (List D)):XD (.ok (.nx ρ)) F=F ρ:=rfl
def pU (c:PF X e f):VH X [.Return (some e) pos] f:=λd g=>uL (vY<|CG c)<|by rintro D σ H ⟨O,ρ,E,l,q⟩;exact⟨d,g,O,ρ,E,by
 cases b:f ρ with
 |ok m=>rw[b]at q;exactλh i a j k r=>q h i a (E.same.trans j) k (r.sub E.sub)
 |ex x=>rw[b]at q;exact q.elim
 |bad=>rw[b]at q;exact q⟩
def sV {st:dm}{rest:List dm}(d:mU X st F)(e:VH X rest G):VH X (st::rest) (λρ=>XD (F ρ) G):=λb c=>uL (yH (d b c)<|e b c)<|by rintro D σ H ⟨O,ρ,E,f,q⟩;exact⟨O,ρ,E,f,by
 dsimp only at q;cases a:F ρ with
 |ok o=>
  rw[a]at q;cases o with
  |nx g=>exactλl m h i j k=>⟨h,g,i,j,q⟩
  |_=>exact aAi q
 |ex x=>rw[a]at q;exact aAi q
 |bad=>rw[a]at q;exact aAi q⟩
def spW (K:ka)(n:Nat)(m:List D->R D):Sp:=λf H Q _=>∃O c d,Reps K H O f c/\c.length=n/\(∀a,O a->∃o,H a=some o/\Mt o)/\Tb H/\R5 K O/\m c=.ok (.lst d)/\∀e b a,Same H b->b a=none->Reps K b O e d->Q (.ref a) (upd b a<|.lst e)
def gw (r:R (List D)):R D:=r.bind λa=>.ok (.lst a)
@[simp]def a0r (ds:List D):gw (.ok ds)=.ok (.lst ds):=rfl
def ET (h:gw r=.ok d):∃a,r=.ok a/\d=.lst a:=by
 cases r with
 |ok a=>cases h;exact⟨a,rfl,rfl⟩
 |ex x=>cases h
 |bad=>cases h
def unl (r:R D):R (List D):=match r with
 |.ok (.lst a)=>.ok a
 |.ex x=>.ex x
 |_=>.bad
@[simp]def a2t (ds:List D):unl (.ok (.lst ds))=.ok ds:=rfl
def kZ (P:bu)(w:cp)(K:ka)(mg:Y1)(base:cq)(k:Nat)(x:Str)(n:Nat)(m:List D->R D):Prop:=
 (∃g a b,FnOk P w K mg base rV k g a b (spW K n m)/\Binds K a b []/\PySem.W.keepIn K (.ref g)=true/\mg x=some (.ref g))/\∀c d,c.length=n->m c=.ok d->∃e,d=.lst e
def kZ.cal {K:ka}(c:kZ P w K mg base k x n m):v7 P w K mg base k x n m:=by obtain⟨⟨g,p,s,F,b,t,e⟩,u⟩:=c;refine⟨g,p,s,F.imp λI H Q E z=>?_,b,t,e⟩;obtain⟨O,h,d,r,i,j,v,y,e,q⟩:=z;obtain⟨A,rfl⟩:=u h d i e;refine⟨O,h,A,r,i,j,v,y,e,λJ L a l f B=>q _ _ (l.trans<|j3 f _) (.lst (O5.of j2) (λz=>?_) (B.same<|j3 f _))⟩;obtain⟨o,C,_⟩:=j a z;rw[l _ _ C]at f;cases f
def oP {K:ka}{st:dm}(g:aN K mg x st)(S:FnScope N ps (c6 st))(o:∀{f:bc} {T:af} {A:cf} {a:List Env} {s:a9} {H:Hp} {E:XK},Room k (A.deeper (aCL x (c6 st) s.heap.objs.size f T))->(A.deeper (aCL x (c6 st) s.heap.objs.size f T)).units+64<dA->(A.deeper (aCL x (c6 st) s.heap.objs.size f T)).units+130<dA->N.Nodup->
   VH (SF P w K mg base N x (c6 st) f T A a s H E) (o6 st) F) (l:∀ds d,ds.length=ps.length->m ds=.ok d->gw (F (j0 N ds))=.ok d) (p:∀(kV h t:af) (u:Option bc) (T ct:af) (us:List af),us.length=ps.length->bindArgs (PySem.W.fnOf x x (E6 st) (o6 st) (c6 st) .none kV h t u T ct) ⟨us,[]⟩=pure (ps.zip us):=by
   intro _ _ _ _ _ _ us b;rcases us with _|⟨_,_|⟨_,_|⟨_,_|⟨_,_|⟨_,_|⟨_,_|⟨_,_⟩⟩⟩⟩⟩⟩⟩<;>first|rfl|exact absurd b (by simp)):kZ P w K mg base (k+1) x ps.length m:=by
 obtain⟨f,v,y,i⟩:=g;refine⟨⟨f,v,ps,i.ok S (λB H Q E z=>?_) (λT A a s H B Q E j z=>?_),i.binds p,i.kp,y⟩,λds d b e=>?_⟩
 .obtain⟨O,ds,d,r,b,_⟩:=z;rw[r.length];exact b
 .obtain⟨O,ds,d,r,b,C,I,J,e,q⟩:=z;refine⟨_,o (T:=T) j j.units j.ae0 S.nd H O,O,_,eT r C I,J,?_⟩;obtain⟨n,L,c⟩:=ET (l ds _ b e);injection c with c;subst c;rw[L];exact q
 .obtain⟨n,_,c⟩:=ET (l ds d b e);exact⟨n,c⟩
def BB (c:kZ X.prog X.w X.K X.mg X.base k x n m)(u:Room k X.A)(l:xF X (e::es) f)(o:uS f n)(v:Gl X x:=by rfl)(y:(x==kb)=false:=by decide)(B:a5 (e::es) X.env=(false,dz e X.env)::a5 es X.env:=by rfl)(A8:(cv pos (a5 es X.env)).any (·.1)=false:=by rfl):
  PF X (.Call (.Name x p) (e::es) [] pos) (λρ=>(f ρ).bind λds=>unl (m ds)):=by
 obtain⟨⟨g,gd,ps,F,b,C,em⟩,J⟩:=c;refine rR λh s σ H Q I L N O ρ E q=>?_;refine uW F u v em C b .nil YB l y B A8 h s σ H Q I ⟨L,N,O,ρ,E,?_⟩;dsimp only at q;cases i:f ρ with
 |ex z=>rw[i]at q;exact q
 |bad=>rw[i]at q;exact q
 |ok ds=>
  rw[i,R.aa0]at q;intro vs H1 r T;rw[aBG];have t:=E.grow r;cases j:m ds with
  |ex z=>rw[j]at q;exact(q H<|Same.refl _).elim
  |bad=>rw[j]at q;exact aAi q
  |ok d=>rw[j]at q;obtain⟨U,rfl⟩:=J ds d (o ρ ds i) j;exact⟨O,ds,U,T,o ρ ds i,t.trk,t.tab,qZ I O E.trk,j,λY H2 a s2 l r2=>q Y H2 a (r.trans s2) l r2⟩
open Classical in
def spR:D->R (List D)
 |.lst a=>if a.all aP=true/\a.Nodup/\a.length<=63 then .ok (X8 a)else .bad
 |_=>.bad
def BZ {p pos:Pos}{f:Ev->R D}(ha:PB X e f)(hh:X.calm=true)(hu:X.A.units+300<dA)(hg:Gl X "sorted":=by rfl)(hm:X.mg "sorted"=none:=by assumption)(hv:dq "sorted"=some (.builtin "sorted"):=by decide+kernel)(he:a5 [e] X.env=(false,dz e X.env)::a5 [] X.env:=by rfl)(A8:(cv pos (a5 [] X.env)).any (·.1)=false:=by rfl):
  PF X (.Call (.Name "sorted" p) [e] [] pos) (λρ=>(f ρ).bind spR):=by
 refine rR λt s σ H Q I Ha O0 O ρ E q=>?_;dsimp only at q;refine aAK (N0 I hg hm hv ?_ (by decide) (by decide));have sv:PA X [e] _:=F9 ha Z8 he;refine aBr (C4 (sv pos t s σ H (λvs B=>∃v c,vs=[v]/\f ρ=.ok (.lst c)/\Same H B/\A7 X.K B O v (.lst c)) I ⟨Ha,O0,O,ρ,E,?_⟩) λus j z9=>?_) he A8
 .cases e1:f ρ with
  |ex z=>rw[e1]at q;exact q
  |bad=>rw[e1]at q;exact q.elim
  |ok d=>
   rw[e1,R.aa0]at q;cases d with
   |lst c=>exactλv B j r1=>⟨v,c,rfl,rfl,j,r1⟩
   |_=>exact aAi q
 .obtain⟨vs,B,T,r1,v,c,ev,ef,sm,rb⟩:=z9;subst ev;rw[ef,R.aa0]at q;obtain⟨a,ws,rfl,hS,rr⟩:=rb.aa4;obtain⟨u,rfl,ru⟩:=vals1 r1;cases ru;obtain⟨g,J,⟨oL,nL,gL,cL,dL,sL⟩,zL⟩:=T.list hS;have U:j.heap.IsList a g.toArray:=⟨oL,gL,cL,nL,sL⟩;simp only[spR]at q;by_cases hc:c.all aP=true/\c.Nodup/\c.length<=63
  .rw[ji hc]at q;obtain⟨qc,nd,xh⟩:=hc;have pt:∀d∈c,aP d=true:=aBU.mp qc;have st:w6 X.K B O g c:=w6.of J rr;have m:g.length=c.length:=st.length;have h:∀u∈g,∃d,d∈c/\aP d=true/\HV j.heap u d:=λu hu=>by obtain⟨d,r,v,J,rp⟩:=st.get hu;exact⟨d,r,pt d r,Y9 T rp (N5<|pt d r) J⟩
   refine TS.sorted_keys (vs:=g) (f:=true) (key:=IG j.heap) (C:=λY=>∃h',Y={j with heap:=h'}/\∀b o,j.heap.get? b=some o->h'.get? b=some o)
    (λ{Q'} hq=>collect_list U (hq _ ⟨_,rfl,λb o e=>?_⟩) (by rw[m];exact aAw xh (by decide)))
    (λY ⟨h',i,k⟩ s6 k6 x hx y hy prog w A E hA {Q} qq=>?_) (λh2 Y ⟨h',i,k⟩ s6 k6 A {Q} qq=>?_) (by rw[m];lia) λY ja h' l ⟨h1,i,k⟩ pm srt k2 U ⟨n,gl⟩=>?_
   .exact(aAD _ _<|aCi<|aAk<|aAf e).trans (aAc _ e)
   .subst i;obtain⟨d,_,pd,vt⟩:=h x hx;obtain⟨d',_,L,yo⟩:=h y hy;rw[eN pd vt,eN L yo]at qq;exact LW pd L (vt.keeps λb o e _=>k6 b o (k b o e)) (yo.keeps λb o e _=>k6 b o (k b o e)) qq
   .subst i;refine AF (λx hx=>?_) h2 qq;obtain⟨d,_,pd,vt⟩:=h x hx;exact⟨d,pd,vt.keeps λb o e _=>k6 b o (k b o e)⟩
   .subst i;obtain⟨uc,st3,p2,yp⟩:=iO (key:=IG j.heap) st pm srt (by rintro u d ⟨v,J,rp⟩ r;exact eN (pt d r) (Y9 T rp (N5<|pt d r) J)) pt nd;have e2:uc=X8 c:=iZ yp (aI c) λd=>by rw[p2.mem_iff,M1 pt]
    subst e2;obtain⟨wv,ua,qd⟩:=st3.ac6;have N:=T.kept (h':=h1) (t':=j.toks) k;have I3:=N.laid (a:=l) (o:=.lst wv) (h':=h') (t':=j.toks) k2 U ⟨by rw[qd.length,p2.length_eq];exact aAw xh (by decide),ja,n,ua,gl⟩;exact⟨.ref l,_,I3,rfl,q wv _ l sm (N.hok.fresh U) qd⟩
  .rw[jn hc]at q;exact q.elim
end
section
mutual
theorem OS {K:ka}{H:Hp}{O a:bc->Prop}:∀{v:V} {d:D},mL d=true->Rep K H O v d->Rep K H a v d
 |_,_,_,.int=>.int
 |_,_,h,.tup t r=>.tup t (rP h r)
 |_,_,h,.non=>(by cases h)
 |_,_,h,.bl=>(by cases h)
 |_,_,h,.str=>(by cases h)
 |_,_,h,.lst _ _ _=>(by cases h)
 |_,_,h,.dct _ _ _=>(by cases h)
theorem rP {K:ka}{H:Hp}{O a:bc->Prop}:∀{vs:List V} {ds:List D},cA ds=true->Reps K H O vs ds->Reps K H a vs ds
 |_,_,_,.nil=>.nil
 |_,_,h,.cons r t=>.cons (OS (aFR.mp h).1 r) (rP (aFR.mp h).2 t)
end
end
end DL
namespace DL
open PySem PySem.Spec L2
open PyProof.Rows hiding St
variable [Tabs]
section
abbrev AU (X:Cx)(e:cu)(es:List cu):Prop:=a5 (e::es) X.env=(false,dz e X.env)::a5 es X.env
def A2 {i:Int}{j}:PB X (.Constant (.int i) j pos) (TM (.int i)):=c9.pb
def zF {e1:cu}{a:Ev->R D}(c:v7 X.prog X.w X.K X.mg X.base k x 1 m)(d:Room e X.A)(a1:PD X e1 a)(f:k<=e:=by decide)(b:AU X e1 []:=by rfl)(g:Gl X x:=by rfl)(h:(x==kb)=false:=by decide)(A8:(cv pos (a5 [] X.env)).any (·.1)=false:=by rfl):
 PD X (.Call (.Name x p) [e1] [] pos) (λρ=>((t8 a X1) ρ).bind m):=vN c (d.mono f) (d5 a1 j4 b) (l9 B1) g h b A8
def Z5 {e1 e2:cu}{a b:Ev->R D}(c:v7 X.prog X.w X.K X.mg X.base k x 2 m)(e:Room f X.A)(a1:PD X e1 a)(a2:PD X e2 b)(g:k<=f:=by decide)(d:AU X e1 [e2]:=by rfl)(h:AU X e2 []:=by rfl)(i:Gl X x:=by rfl)(j:(x==kb)=false:=by decide)(A8:(cv pos (a5 [e2] X.env)).any (·.1)=false:=by rfl):
 PD X (.Call (.Name x p) [e1,e2] [] pos) (λρ=>((t8 a (t8 b X1)) ρ).bind m):=vN c (e.mono g) (d5 a1 (d5 a2 j4 h) d) (l9<|l9 B1) i j d A8
def pc3 {e1 e2 a:cu}{b d e:Ev->R D}(c:v7 X.prog X.w X.K X.mg X.base k x 3 m)(g:Room h X.A)(a1:PD X e1 b)(a2:PD X e2 d)(a3:PD X a e)(i:k<=h:=by decide)(f:AU X e1 [e2,a]:=by rfl)(j:AU X e2 [a]:=by rfl)(l:AU X a []:=by rfl)(n:Gl X x:=by rfl)(o:(x==kb)=false:=by decide)(A8:(cv pos (a5 [e2,a] X.env)).any (·.1)=false:=by rfl):
 PD X (.Call (.Name x p) [e1,e2,a] [] pos) (λρ=>((t8 b (t8 d (t8 e X1))) ρ).bind m):=vN c (g.mono i) (d5 a1 (d5 a2 (d5 a3 j4 l) j) f) (l9<|l9<|l9 B1) n o f A8
def pc4 {e1 e2 b a:cu}{d e f g:Ev->R D}(c:v7 X.prog X.w X.K X.mg X.base k x 4 m)(i:Room j X.A)(a1:PD X e1 d)(a2:PD X e2 e)(a3:PD X b f)(l:PD X a g)(n:k<=j:=by decide)(h:AU X e1 [e2,b,a]:=by rfl)(o:AU X e2 [b,a]:=by rfl)(q:AU X b [a]:=by rfl)(r:AU X a []:=by rfl)(s:Gl X x:=by rfl)(t:(x==kb)=false:=by decide)(A8:(cv pos (a5 [e2,b,a] X.env)).any (·.1)=false:=by rfl):
 PD X (.Call (.Name x p) [e1,e2,b,a] [] pos) (λρ=>((t8 d (t8 e (t8 f (t8 g X1)))) ρ).bind m):=vN c (i.mono n) (d5 a1 (d5 a2 (d5 a3 (d5 l j4 r) q) o) h) (l9<|l9<|l9<|l9 B1) s t h A8
def AS {e1 e2:cu}{a b:Ev->R D}{j}(a1:PD X e1 a)(a2:PD X e2 b)(c:AU X e1 [e2]:=by rfl)(d:AU X e2 []:=by rfl):PD X (.Tuple [e1,e2] j pos) (λρ=>((t8 a (t8 b X1)) ρ).bind dH):=vU (d5 a1 (d5 a2 j4 d) c)
def BX {e1 e2 a:cu}{b c d:Ev->R D}{j}(a1:PD X e1 b)(a2:PD X e2 c)(a3:PD X a d)(e:AU X e1 [e2,a]:=by rfl)(f:AU X e2 [a]:=by rfl)(g:AU X a []:=by rfl):PD X (.Tuple [e1,e2,a] j pos) (λρ=>((t8 b (t8 c (t8 d X1))) ρ).bind dH):=vU (d5 a1 (d5 a2 (d5 a3 j4 g) f) e)
def QH {id:String}{g:List D->R D}{e:cu}{f:Ev->R D}(c:fJ X (.builtin id) g)(a:PB X e f)(d:Gl X x:=by rfl)(h:X.mg x=none:=by assumption)(i:dq x=some (.builtin id):=by decide+kernel)(j:x≠ "__name__":=by decide)(k:(x==kb)=false:=by decide)(b:AU X e []:=by rfl)(A8:(cv pos (a5 [] X.env)).any (·.1)=false:=by rfl):
 PD X (.Call (.Name x p) [e] [] pos) (λρ=>(t8 f X1 ρ).bind g):=qK c (G6 a Q7 b) d h i j k b A8
def SA {g:List Str}{a:ik}{k:Pos}{c:cu}{fe:Ev->R D}(h:∀b e i j C,PD (JJ X b i j ([x]++g) a (cS X a C) C e) c fe)(l:([x]++g).Nodup:=by decide+kernel)(m:Loc (relabel a X.env) x:=by first|exact aCG rfl|exact aBL rfl)(n:(a.names.lookup x==some .cell)=true\/(relabel a X.env).names.lookup x=some .local:=by first|exact .inl rfl|exact .inr rfl):
  ∀(b:N9) (e:List bc) (f:Cx),(∃o p C,f=JJ X b o p ([x]++g) a (cS X a C) C e)->MD f (.Name x k) (λd ρ=>.ok (ρ.set 0 (.v d)))/\YA f [] (λ_=>.ok true)/\PD f c fe:=by
 rintro b e q ⟨i,j,C,rfl⟩;exact⟨u6 0 l rfl m n,UR,h b e i j C⟩
def hxt {j:List Str}{a:ik}{l:Pos}{f c:cu}{fe:Ev->R D}{ft:Ev->R Bool}(h:∀b e g i C,CP (JJ X b g i ([x]++j) a (cS X a C) C e) c ft/\PD (JJ X b g i ([x]++j) a (cS X a C) C e) f fe)(m:([x]++j).Nodup:=by decide+kernel)(n:Loc (relabel a X.env) x:=by first|exact aCG rfl|exact aBL rfl)(o:(a.names.lookup x==some .cell)=true\/(relabel a X.env).names.lookup x=some .local:=by first|exact .inl rfl|exact .inr rfl):
  ∀(b:N9) (e:List bc) (k:Cx),(∃p q C,k=JJ X b p q ([x]++j) a (cS X a C) C e)->MD k (.Name x l) (λd ρ=>.ok (ρ.set 0 (.v d)))/\YA k [c] ft/\PD k f fe:=by
 rintro b e r ⟨g,i,C,rfl⟩;exact⟨u6 0 m rfl n o,VF (h b e g i C).1,(h b e g i C).2⟩
end
end DL
namespace DL
open PySem PySem.Spec PySem.Calls PySem.W Builtin Builtin.ObjectAttr Builtin.Getset_descriptor
open PyProof.Rows hiding St
section
variable{prog:bu} {w:cp} {A:cf} {E:C7} {K:Frag} {h:cq} {g:Array GenState} {d:Drawn} {t:Nat} {os:OsState} {a C:bc} {o:Obj}
def AM (a C:bc)(h:cq):Prop:=∃o,h.get? a=some o/\o.cls=.ref C
def nK {M:je}(p:AM a C h):Looks M h (typeOf (.ref a)) (.ref C):=by obtain⟨o,b,c⟩:=p;exact c▸(Looks.ld b).andThen .now
def rJ {R:Result->a9->Prop}{b:af}(X:K.In h)(p:AM a C h)(c:mroIn K C (.type "object")=some true)(q:R (.ok (.ret (.ref C))) ⟨h,g,d,t,os⟩):
  f7 (bo prog w) A (.call (.builtin "getset_descriptor.__get__") ⟨[.builtin "object.__class__",.ref a,b],[]⟩) R ⟨h,g,d,t,os⟩:=by
 have e:=nK (M:=bo prog w) p;have f:=looks_mroIn (M:=bo prog w) X c;refine aEr (s:=⟨h,g,d,t,os⟩) KF.slot_gs.plain KF.entry_gs (KF.slot_gs.check _ _ _ _ _ _ _ _ KF.type_class (KF.args_gs _ _ _) ?_);unfold Builtin.«getset_descriptor.__get__» descrGet;rw[dga_obj];refine aAa (aAb ?_);unfold descrGetter descrCheckInstance descrNameAndClass isInstance;simp only[KF.owner_class];repeat lk
 refine⟨Code.quiet_builtin _ (by decide+kernel),aBI KF.entry_class ?_⟩;unfold Builtin.«object.__class__» shownTypeOf;repeat lk
 exact q
def mS {tk:Tok}{Q:Fin->a9->Prop}(X:K.In h)(p:AM a C h)(b:mroIn K C (.type "object")=some true)(c:findIn K (.ref C) "__class__"=some (some (.builtin "object.__class__")))
  (q:Q (.done (.ret (.ref C))) ⟨h,g,d,t,os⟩):
  bb (bo prog w) A (Builtin.«object.__getattribute__» ⟨[.ref a,.str "__class__" tk],[]⟩) Q E ⟨h,g,d,t,os⟩:=by
 have e:=nK (M:=bo prog w) p;have f:=looks_findIn (M:=bo prog w) X c;have i:(⟨h,g,d,t,os⟩:a9).TypeIs (.builtin "object.__class__") "getset_descriptor":=F.typeOf_object_class;have j:=F.typeOf_object_class;have k:=F.slot_gs_get.lookup;have l:=F.slot_gs_set.lookup;repeat(any_goals(first|assumption|with_reducible refine e.at ?_|with_reducible refine f.at ?_|wp_step))
 refine rJ X p b ?_;repeat(any_goals(first|assumption|wp_step))
def HN {M:je}{b:af}{Q:Unit->a9->Prop}(X:K.In h)(p:AM a C h)(e:mroIn K C (.type "BaseException")=some true)(q:Q () ⟨h,g,d,t,os⟩):
  bb M A (checkBuiltinCall "BaseException.__getattribute__" ⟨[.ref a,b],[]⟩) Q E ⟨h,g,d,t,os⟩:=by
 obtain⟨o,f,i⟩:=id p;have L2:=looks_mroIn (M:=M) X e;have j:builtinKind "BaseException.__getattribute__"=some .slot:=by decide+kernel
 have c:splitId "BaseException.__getattribute__"=some ("BaseException", "__getattribute__"):=by decide+kernel
 have k:=F.args_bexc_ga (.ref a) b;simp only[checkBuiltinCall,j,c];refine aAa ?_;unfold isInstance;repeat(first|(with_reducible refine aFl f ?_;rw[i])|with_reducible refine L2.at ?_|wp_step)
 exact q
def wH {tk:Tok}{Q:C7}(X:K.In h)(p:AM a C h)(i:mroIn K C (.type "object")=some true)(b:mroIn K C (.type "BaseException")=some true)(j:findIn K (.ref C) "__class__"=some (some (.builtin "object.__class__")))
  (c:findIn K (.ref C) "__getattribute__"=some (some (.builtin "BaseException.__getattribute__"))) (e:findIn K (.ref C) "__getattr__"=some none) (q:Q (.ref C) ⟨h,g,d,t,os⟩):
  bb (bo prog w) A (getAttrBy (.ref a) (.str "__class__" tk) false) Q E ⟨h,g,d,t,os⟩:=by
 have k:=nK (M:=bo prog w) p;have l:=looks_findIn (M:=bo prog w) X c;have L2:=looks_mroIn (M:=bo prog w) X b;have m:=looks_findIn (M:=bo prog w) X e;have n:=F.attr_ValueError.ga.bind (.ref a);have f:(aDy "BaseException.__getattribute__"==aDy "object.__getattribute__")=false:=by decide+kernel
 have SA:(onTheHeap (aCV C)&&aDy "BaseException.__getattribute__"==aDy "object.__getattribute__")=false:=by rw[f];rfl
 repeat(any_goals(first|assumption|with_reducible refine k.at ?_|with_reducible refine l.at ?_|with_reducible refine m.at ?_|wp_step))
 refine aEr F.attr_ValueError.ga.plain F.entry_bexc_ga (HN X p b<|mS X p i j ?_);repeat(any_goals(first|assumption|wp_step))
def qG {Q:Option af->a9->Prop}(X:K.In h)(p:AM a C h)(f:mroIn K C (.type "object")=some true)(b:mroIn K C (.type "BaseException")=some true)(i:findIn K (.ref C) "__class__"=some (some (.builtin "object.__class__")))
  (c:findIn K (.ref C) "__getattribute__"=some (some (.builtin "BaseException.__getattribute__"))) (e:findIn K (.ref C) "__getattr__"=some none) (q:Q (some (.ref C)) ⟨h,g,d,t+1,os⟩):
  bb (bo prog w) A (getAttr? (.ref a) "__class__") Q E ⟨h,g,d,t,os⟩:=by
 unfold getAttr? getAttrBy?;repeat(any_goals(first|assumption|with_reducible apply wH X p f b i c e|wp_step))
end
structure ExCls (K:Frag)(C:Addr):Prop where
 cls:(clsIn K C).isSome=true
 ob:mroIn K C (.type "object")=some true
 be:mroIn K C (.type "BaseException")=some true
 at_:findIn K (.ref C) "__class__"=some (some (.builtin "object.__class__"))
 ga:findIn K (.ref C) "__getattribute__"=some (some (.builtin "BaseException.__getattribute__"))
 gn:findIn K (.ref C) "__getattr__"=some none
def QZ {K:Frag}{a C:bc}(Z:ExCls K C):KitX K (.ref a) (.ref C) (AM a C)where
 ty:=λ_ _ _ p=>nK p
 it:=λ_ _ X _=>by
  have z:=Z.cls;unfold clsIn at z;split at z
  .rename_i j l b c f;intro r u v w k q;unfold isType loadHead;exact aAa (wpAny_loadPart (k _ _<|X _ _ f)<|aAb q)
  .cases z
 ne:=λh m x o n y X i=>by
  refine Bool.eq_false_iff.mpr λq=>?_;have e:C=m:=Value.ref.inj (beq_iff_eq.mp q);subst e;have z:=Z.cls;unfold clsIn at z;split at z
  .rename_i j l b c f;have z:=(X _ _ f).symm.trans i;cases z
  .cases z
 ca:=λ{_ _ _ _ _ s} X p k=>by obtain⟨h,g,d,t,os⟩:=s;exact qG X p Z.ob Z.be Z.at_ Z.ga Z.gn k
end DL
namespace DL
open PySem PySem.Spec L2
open PyProof.Rows hiding St
variable [Tabs]
def QD (X:Cx)(E:XK)(a:N9)(σ:St):Prop:=∀(b:Hp) (c:a9) (e:af) (d:a9),Inv X a σ b c->QK X.prog X.w X.stack b c E e d->X.xe e d
def PEC (X:Cx)(e:cu)(G:Ev->Option af):Prop:=∀(c:Hp) (d:bc->Prop) (a:N9) (s:a9) (σ:St) (H:Hp) (O:bc->Prop) (ρ:Ev) (C:af) (E:XK) (W:C7),
 Inv X a σ H s->EnvOk X.K c d H O σ ρ->R5 X.K O->G ρ=some C->(∀b,Same H b->E C none b)->QD (X.ab0 W) E a σ->bb (bo X.prog X.w) X.A (dz e X.env) (λ_ _=>False) W s
def PSC (X:Cx)(st:List dm)(G:Ev->Option af):Prop:=∀(c:Hp) (d:bc->Prop) (a:N9) (s:a9) (σ:St) (H:Hp) (O:bc->Prop) (ρ:Ev) (C:af) (E:XK) (W:C7),
 Inv X a σ H s->EnvOk X.K c d H O σ ρ->R5 X.K O->G ρ=some C->(∀b,Same H b->E C none b)->QD (X.ab0 W) E a σ->bb (bo X.prog X.w) X.A (execs st X.env) (λ_ _=>False) W s
section
variable{X:Cx} {pos:Pos}
def RB {e:cu}{rest:List dm}{G:Ev->Option af}(h:PEC X e G)(b:et e none pos.line X.env=pure false:=by rfl):PSC X (.Expr e pos::rest) G:=λd f a s σ H O ρ C E W I Ev g i q c=>aDf (aFT (C4 (h d f a s σ H O ρ C E W I Ev g i q c) λ_ _ z=>z.elim) I.quiet b)
def NQ {k:Nat}{g:bc}{J:dC}{ps:List Str}{n:Nat}{m:List D->Option af}{x:Str}{p:Pos}{e:cu}{es:List cu}{f:Ev->R (List D)}(F:FnOk X.prog X.w X.K X.mg X.base (QK X.prog X.w) k g J ps (spX X.K n m))(Q:Room k X.A)(T:X.mg x=some (.ref g))
  (U:PySem.W.keepIn X.K (.ref g)=true) (Y:Binds X.K J ps []) (ha:xF X.nox (e::es) f) (L:∀ρ ds,f ρ=.ok ds->ds.length=n) (hg:Gl X x:=by rfl)
  (eu:(x==kb)=false:=by decide) (he:a5 (e::es) X.env=(false,dz e X.env)::a5 es X.env:=by rfl) (A8:(cv pos (a5 es X.env)).any (·.1)=false:=by rfl):
  PEC X (.Call (.Name x p) (e::es) [] pos) (λρ=>match f ρ with|.ok ds=>m ds|_=>none):=by
 intro Ha O0 h s σ H O ρ C E W I Ev N a q cg;dsimp only at a;cases c:f ρ with
 |ex z=>rw[c]at a;cases a
 |bad=>rw[c]at a;cases a
 |ok ds=>
  rw[c]at a;refine aAK (bE I hg T ?_ eu);have h1:=ha pos h s σ H (λi b=>Reps X.K b O i ds/\Same H b) (I.ab0 _) ⟨Ha,O0,O,ρ,Ev,by rw[c];exactλi b j o=>⟨o,j⟩⟩;refine PySem.W.callWith_K (h₀:=X.base) I.ok.mod.kin U (aBP h1 (λt j ⟨i,b,v,r,o,d⟩=>⟨v.kIn,?_⟩) λ_ _ z=>aAi z) he A8;have oa:t.length=ps.length:=by have e2:=F.len i b (λ_ _=>False) E ⟨O,ds,C,o,L ρ ds c,(Ev.grow d).trk,(Ev.grow d).tab,N,a,λy B=>q y (d.trans B)⟩;rw[<-r.length];exact e2
  refine aFH (aDt (F.run X.A X.stack j b ⟨t,[]⟩ t i (λ_ _=>False) E Q v.aa6.ae8 (by have:=Y j t v.kIn (by rw[aBG];exact oa);rw[aBG]at this;exact this) r
   ⟨O,ds,C,o,L ρ ds c,(Ev.grow d).trk,(Ev.grow d).tab,N,a,λy B=>q y (d.trans B)⟩) λrr s' l=>?_)
  cases rr with
  |error ee=>exact cg b j ee s' (v.aa6.ab0 W) l
  |ok fl=>
   cases fl with
   |ret u=>obtain⟨_,_,_,_,_,_,_,z⟩:=l;exact z.elim
   |next=>exact aAi l
   |brk=>exact aAi l
   |cont=>exact aAi l
end
section
variable{X:Cx} {pins:N9} {σ:St} {H H':Hp} {s s':a9}
def MY (I:Inv X pins σ H s){d B:cq}(U:Un (W5 X.stack) [] H H' s.heap s'.heap)(k:aD X.prog X.w H' s'.heap)(b2:B.StaysIn s'.heap)(f:B.StaysIn d)(us:s'.heap.UpToSlots d)(os:s'.os=s.os)(c:AllBare s'.gens)
  (l:∀b o,s.heap.get? b=some o->H b=none->b∉W5 X.stack->B.get? b=some o) (m:∀b o,s.heap.get? b=some o->b∉W5 X.stack->∃u,B.get? b=some u) (p:∀b u,H' b=some u->∃o,B.get? b=some o):
  Inv X pins σ H' {s' with heap:=d}:=by
 have h:∀b:bc,b∉([]:List bc):=λb=>aAG;have e:∀b o,s.heap.get? b=some o->H b=none->b∈W5 X.stack->∃e,d.get? b=some {o with slots:=e}:=λb o q n a=>by obtain⟨_,v,i,r⟩:=I.stack.mem a;rw[q]at i;cases i;obtain⟨x,t⟩:=U.slot b _ q n a (h b);obtain⟨j,g⟩:=us b _ t r;exact⟨j,g⟩
 refine I.af2 (ch:=[]) os ⟨λb o q n a _=>f b o (l b o q n a),λb o q n a _=>e b o q n a,U.free,λb o q _=>?_,U.tups,U.frzs,U.tbls⟩ (aD.over k b2 f p) c λb z=>absurd z (h b);by_cases a:b∈W5 X.stack
 .obtain⟨j,g⟩:=e b o q (I.ab9 b a) a;exact⟨_,g⟩
 .obtain⟨u,z⟩:=m b o q a;exact⟨u,f b u z⟩
def _root_.L2.Inv.ag1 (I:Inv X pins σ H s){a:bc}{o:Obj}(e:s.heap.get? a=some o)(n:H a=none)(i:a≠X.env.locals)(j:∀x c,X.env.cells.lookup x=some c->c≠a)(k:∀p∈X.pn++pins,p.1≠a)(n0:X.sa.heap.get? a=none):
  Inv X pins σ (upd H a (.frz o (.own a))) s:=by
 have d:Same H (upd H a<|.frz o (.own a)):=j3 n _;have ne:∀b,b≠a->upd H a (.frz o (.own a)) b=H b:=λb h=>k7 h;refine⟨I.ok,I.os,I.bare,⟨I.base.keep,I.base.slot,λb u q z l=>?_,I.base.there,λb Y q=>d b _ (I.base.tups b Y q),λb u v q=>d b _ (I.base.frzs b u v q),λb m q=>?_⟩,I.loc,I.cell,?_,λx c q=>?_,λp f=>?_,λb u q=>?_,I.len⟩
 .rw[ne b (λr=>by rw[r,n0]at q;cases q)];exact I.base.free b u q z l
 .exact d b _ (I.base.tbls b m q)
 .rw[ne _ (aCi i)];exact I.free
 .rw[ne c (j x c q)];exact I.freeC x c q
 .obtain⟨t,w,y⟩:=I.pin p f;exact⟨t,by rw[ne _ (k p f)];exact w,y⟩
 .by_cases g:b=a
  .subst g;rw[j2]at q;cases q;exact⟨e,⟨o,e⟩⟩
  .rw[ne b g]at q;exact(I.hok b u q).ab4 (λ_ _ _ z=>z) (λc z=>d c _ z) λc Y _ z=>d c _ z
def _root_.L2.Inv.forget (I:Inv X pins σ H s){n:Str}{i:Nat}{m:Y1}{h':cq}{v:Option af}{tk:Nat}(J:X.N.Nodup)(C:X.N[i]?=some n)(L:∀(j:Nat) (x:Str) (v:V),X.N[j]?=some x->σ[j]?=some (some v)->xH X.env.scope x->∃u,RelV v u/\Look X.env s.heap m x u)
  (t:h'.Ns X.env.locals (λx=>if x=n then v else m x)) (a:Heap.SameBut X.env.locals s.heap h'):Inv X pins (σ.set i none) H {s with heap:=h',toks:=tk}:=by
 have cne:=I.cne;obtain⟨m0,⟨oL,O,Q,T,_⟩,_⟩:=id I.loc;have U:aD X.prog X.w H h':=λb Y e=>by
  refine(I.hok b Y e).ab4 (λc E f q=>(a.2 c ?_).trans q) (λ_ q=>q) λ_ _ _ q=>q;rintro rfl;rcases f with f|f
  .rw[<-f,I.free]at e;cases e
  .rw[I.free]at f;cases f
 refine⟨I.ok,I.os,I.bare,⟨λb o e n A h=>?_,λb o e n A h=>?_,I.base.free,λb o e h=>?_,I.base.tups,I.base.frzs,I.base.tbls⟩,⟨_,t,λj y v' g r e3=>?_⟩,λy c e=>?_,I.free,I.freeC,λp hp=>?_,U,by simpa using I.len⟩
 .exact(a.2 b (aAk<|aAs (aAf e) I.ok.above)).trans (I.base.keep b o e n A h)
 .obtain⟨sl,g⟩:=I.base.slot b o e n A h;exact⟨sl,(a.2 b (aAk<|aAs (aAf e) I.ok.above)).trans g⟩
 .obtain⟨o',g⟩:=I.base.there b o e h;exact⟨o',(a.2 b (aAk<|aAs (aAf e) I.ok.above)).trans g⟩
 .by_cases B:i=j
  .subst B;have l:i<σ.length:=by rw[I.len];exact(aAB.mp C).1
   rw[aBj l]at r;cases r
  .rw[aCy B]at r;obtain⟨u',r',q⟩:=L j y v' g r e3;refine⟨u',r',?_⟩;rcases q with⟨k,e⟩|⟨k,c,e,z⟩
   .refine .inl ⟨k,?_⟩;have:y≠n:=λe=>B (nV J C<|e▸g);simp[this,e]
   .exact .inr ⟨k,c,e,z.sameBut a (cne y c e)⟩
 .obtain⟨E,z⟩:=I.cell y c e;exact⟨E,z.sameBut a (cne y c e)⟩
 .obtain⟨e,n,ne,nf,d⟩:=I.pin p hp;exact⟨(a.2 p.1 ne).trans e,n,ne,nf,d⟩
abbrev inX (X:Cx)(e:af):Cx:={X with A:=X.A.mark (some e),calm:=false,xe:=λ_ _=>False}
def _root_.L2.Inv.inX (I:Inv X pins σ H s)(e:af):Inv (DL.inX X e) pins σ H s:=
 ⟨⟨I.ok.mod,I.ok.kind,I.ok.glob,I.ok.blt,I.ok.above,I.ok.inj,I.ok.has,I.ok.cab,λz=>(by cases z),I.ok.frames,I.ok.stk,I.ok.exf,I.ok.bs,I.ok.bsz,I.ok.noex,I.ok.exfs,I.ok.funs,I.ok.frf⟩,I.os,I.bare,I.base,I.loc,I.cell,I.free,I.freeC,I.pin,I.hok,I.len⟩
def _root_.L2.Inv.ag0 {e:af}(ok:X.Ok)(I:Inv (DL.inX X e) pins σ H s):Inv X pins σ H s:=⟨ok,I.os,I.bare,I.base,I.loc,I.cell,I.free,I.freeC,I.pin,I.hok,I.len⟩
end
section
variable{K:ka} {Ha H:Hp} {O0 O:bc->Prop} {σ:St} {ρ:Ev}
def EnvOk.unset (E:EnvOk K Ha O0 H O σ ρ)(i:Nat):EnvOk K Ha O0 H O (σ.set i none) (ρ.set i .no):=E.put i (λz=>z) trivial
def EnvOk.ag5 (E:EnvOk K Ha O0 H O σ ρ)(i:Nat){a:bc}{o:Obj}(h:H a=some (.frz o (.own a))):EnvOk K Ha O0 H O (σ.set i (some (.ref a))) (ρ.set i (.x o.cls)):=E.put i (λz=>z) ⟨a,o,rfl,h,rfl⟩
end
def AC {K:ka}{M:je}{A:cf}{E:C7}{h:cq}{g:Array GenState}{d:Drawn}{t:Nat}{os:OsState}{a C e:bc}{j:List af}{b:String}{Q:xG}(X:K.In h)(p:AM a C h)
  (m:PySem.W.mroIn K C (.ref e)=some true) (n:PySem.W.excIn K e j b=true) (o:j.contains (.type "BaseException")=true) (q:Q true ⟨h,g,d,t,os⟩):bb M A (excMatches (.ref a) (.ref e)) Q E ⟨h,g,d,t,os⟩:=by
 obtain⟨w,r,c⟩:=p;obtain⟨s,N,x,y,bs,k,z,sub,B,u,H,I,J,L,O,U,Y,l,hN,v,T⟩:=GO X n;have i:(aCV e::s).contains (.type "BaseException")=true:=by rw[List.contains_cons,T.hasType o,Bool.or_true]
 have L2:=PySem.W.looks_mroIn (M:=M) X m;have f:=tc_notTuple;unfold excMatches;repeat(first|(with_reducible refine aFl r ?_;rw[c])|with_reducible refine aFl l ?_|with_reducible refine L2.at ?_|(with_reducible refine wpAny_isSubtype_exc l ?_;rw[i])|wp_step)
 exact q
def unset (i:Nat):R Out->R Out
 |.ok (.nx ρ)=>.ok (.nx (ρ.set i .no))
 |.ok (.bk ρ)=>.ok (.bk (ρ.set i .no))
 |.ok (.ct ρ)=>.ok (.ct (ρ.set i .no))
 |r=>r
def ZI (i:Nat)(ok:af->Bool)(G:Ev->Option af)(F a:Ev->R Out)(ρ:Ev):R Out:=match G ρ with
 |some C=>if ok C=true then unset i (a<|ρ.set i<|.x C)else .bad
 |none=>F ρ
section
variable{X:Cx} {pos uf np:Pos}
def SU (i:Nat){x n:Str}{Ch:bc}{yb:List af}{Y:String}{body l:List dm}{b7:dm}{F Fs:Ev->R Out}{G:Ev->Option af}(ok:af->Bool)
  (hN:X.N.Nodup) (hstk:X.stack=X.env::X.outer) (hfr:X.env.frame=some X.env.locals) (hex:X.ex=[])
  (hok:∀C,ok C=true->∃c,C=.ref c/\PySem.W.mroIn X.K c (.ref Ch)=some true)
  (hq:PySem.W.excIn X.K Ch yb Y=true) (hb:yb.contains (.type "BaseException")=true) (hm:X.mg x=some (.ref Ch))
  (h1:X4 X.nox body F) (h2:PSC X body G) (h3:∀e,X4 (inX X e) (b7::l) Fs)
  (hi:X.N[i]?=some n:=by rfl) (hl:X.env.scope.names.lookup n=some .local:=by rfl) (hg:Gl X x:=by rfl) (eu:(x==kb)=false:=by decide):
  mU X (.Try body [.ExceptHandler (some (.Name x np)) (some n) (b7::l) uf] [] [] pos) (ZI i ok G F Fs):=by
 intro Ha O0 pins s σ H D I ⟨O,ρ,Ev,fk,q⟩;refine wpAny_Try_except ?_;have hkl:X.env.kindOf n=some .local:=hl;unfold ZI at q;cases e:G ρ with
 |none=>
  rw[e]at q;refine aBP (h1 Ha O0 pins s σ H D (I.ab0 _) ⟨O,ρ,Ev,fk,q⟩) (λf s1 z=>?_) λ_ _ z=>aAi z;have z:=z.aa6;cases f with
  |next=>exact aDO z
  |ret v=>exact z
  |brk=>exact z
  |cont=>exact z
 |some C=>
  rw[e]at q;dsimp only at q;split at q
  case isFalse=>exact q.elim
  case isTrue hC=>
  obtain⟨c,rfl,hmro⟩:=hok C hC;refine C4 (h2 Ha O0 pins s σ H O ρ (.ref c) (λC' _ L=>C'=.ref c/\Same H L) _ I Ev fk e (λL s'=>⟨rfl,s'⟩) ?_) λ_ _ z=>z.elim;intro H1 s1 ee s' I1 ⟨a,cls,a0,B,L,e1,os,T,fl,U,k,c1,c2,c3,ec,sm⟩;subst e1;subst ec;have I1:=I1.aa6;have hfra:X.A.frames=some (X.env::X.outer):=by rw[<-hstk];exact I.ok.frames
  have fl0:Heap.FlyingW B (X.env::X.outer) a (.ref c) a0 s'.heap:=by rw[<-hstk];exact fl
  show bb _ _ (noteFrame (.ref a) X.env) _ _ _;refine wpAny_looks_onW hfra hfr fl0 λh4 held us4=>?_;refine wpAny_landsW held λh5 fl5 us5=>?_;have I5:Inv X pins σ L {s' with heap:=h5}:=MY I1 U k fl.1 fl5.1 (us4.trans us5) os T c1 c2 c3;refine wpAny_handleBy_cons (codeAny_handlers_test ?_) (by intro z;cases z);obtain⟨ob,hob,hobc⟩:=fl5.there;refine bE (X:=inX X (.ref a)) (s:={s' with heap:=h5}) (I5.inX<|.ref a) hg hm (AC I5.kIn ⟨ob,hob,hobc⟩ hmro hq hb ?_) eu;show f7 _ _ (.handlers _ _ _) _ _;refine codeAny_handlers_suite_as (lands_againW fl5 λh6 t us6=>?_);have I6:Inv X pins σ L {s' with heap:=h6}:=MY I1 U k fl.1 t.1 ((us4.trans us5).trans us6) os T c1 c2 c3;obtain⟨oe,vs,he,hec,hed,_⟩:=t.first;have nB:B.get? a=none:=t.2.1;have na:L a=none:=by
   cases z:L a with
   |none=>rfl
   |some u=>obtain⟨o,z⟩:=c3 a u z;rw[nB]at z;cases z
  have nl:a≠X.env.locals:=λz=>by obtain⟨m,⟨o',es,ep,we,qm,_⟩,_⟩:=I6.loc;rw[<-z]at we;have r:some oe=some o':=he.symm.trans we;cases r;rw[hed]at qm;cases qm
  have nf:a∉W5 X.stack:=λz=>by
   have ff:h6.FunFrames B X.stack:=by rw[hstk];exact t.2.2.1
   obtain⟨_,o',ho,hd⟩:=ff.mem z;have r:some oe=some o':=he.symm.trans ho;cases r;exact hd vs hed
  have nc:∀y c',X.env.cells.lookup y=some c'->c'≠a:=λy c' hc z=>by obtain⟨v,o',ho,hd⟩:=I6.cell y c' hc;rw[z]at ho;have r:some oe=some o':=he.symm.trans ho;cases r;rw[hed]at hd;cases hd
  have pf:∀p∈X.pn++pins,p.1≠a:=λp hp z=>by obtain⟨p1,p2,p3,p4,_⟩:=I1.pin p hp;have r:=c1 p.1 p.2 p1 p2 (λzz=>by rcases aAd.mp (I1.aa9 p.1 zz)with w|w;exact p3 w;exact p4 w);rw[z,nB]at r;cases r
  have n0:X.sa.heap.get? a=none:=by
   cases z:X.sa.heap.get? a with
   |none=>rfl
   |some o=>obtain⟨o',z'⟩:=I1.base.there a o z (by rw[hex];exact aAG);obtain⟨u,r⟩:=c2 a o' z' nf;rw[nB]at r;cases r
  have I7:=I6.ag1 he na nl nc pf n0;refine F1 (X:=X) (v:=.ref a) I7 hN hi (.inl hl) rfl (λs8 I8=>?_) (.inr hl);have sm8:Same H (upd L a<|.frz oe (.own a)):=sm.trans (j3 na _);have Ev8:=(Ev.grow sm8).ag5 i (a:=a) (o:=oe) j2;rw[hec]at Ev8;have run:=h3 (.ref a) Ha O0 pins s8 _ _ {nx:=λg b=>D.nx (g.set i none) b,rt:=D.rt,bk:=λg b=>D.bk (g.set i none) b,ct:=λg b=>D.ct (g.set i none) b} (I8.inX _) ⟨O,_,Ev8,fk,by
   have E:=RS.grow q (Kp.of (O:=O) sm8);cases e2:Fs (ρ.set i<|.x (.ref c))with
   |ok o=>
    rw[e2]at E;cases o with
    |nx av=>exactλg b O' E' f' kp=>E _ b O' (E'.unset i) f' kp
    |bk av=>exactλg b O' E' f' kp=>E _ b O' (E'.unset i) f' kp
    |ct av=>exactλg b O' E' f' kp=>E _ b O' (E'.unset i) f' kp
    |rt d=>exact E
   |ex z=>rw[e2]at E;exact E
   |bad=>rw[e2]at E;exact E⟩
  refine aBP run (λf s9 z=>?_) λ_ _ z=>aAi z;have go:∀{g:St} {b:Hp} {Q:Unit->a9->Prop},Inv (inX X<|.ref a) pins g b s9->(∀j,Inv X pins (g.set i none) b j->Q () j)->bb (bo X.prog X.w) X.A (do hE X.env n .none;unbindBehindTheSuite X.env n uf) Q X.xe s9:=λ{g b Q} J hQ=>by have I9':=Inv.ag0 I.ok J;obtain⟨m,hn,hloc⟩:=id I9'.loc;refine wpAny_nameGoes_keeps hkl hn (by rw[I.ok.kind];rfl) λh10 v hn' kn=>hQ _ ?_;exact I9'.forget hN hi hloc hn' kn
  cases f with
  |next=>obtain⟨g,b,J,q9⟩:=z;exact go J λj h=>⟨_,b,h,q9⟩
  |brk=>obtain⟨g,b,J,q9⟩:=z;exact go J λj h=>⟨_,b,h,q9⟩
  |cont=>obtain⟨g,b,J,q9⟩:=z;exact go J λj h=>⟨_,b,h,q9⟩
  |ret u=>obtain⟨v,g,b,J,r9,q9⟩:=z;exact go J λj h=>⟨v,_,b,h,r9,q9⟩
end
def BE (K:ka)(c:bc):Bool:=(PySem.W.clsIn K c).isSome&&(PySem.W.mroIn K c (.type "object")==some true&&(PySem.W.mroIn K c (.type "BaseException")==some true&&
 (PySem.W.findIn K (.ref c) "__class__"==some (some<|.builtin "object.__class__")&&(PySem.W.findIn K (.ref c) "__getattribute__"==some (some<|.builtin "BaseException.__getattribute__")&&PySem.W.findIn K (.ref c) "__getattr__"==some none))))
def BE.cls {K:ka}{c:bc}(h:BE K c=true):ExCls K c:=by unfold BE at h;simp only[aAJ,beq_iff_eq]at h;exact⟨h.1,h.2.1,h.2.2.1,h.2.2.2.1,h.2.2.2.2.1,h.2.2.2.2.2⟩
def xz (K:ka)(i:Nat)(a:af)(ρ:Ev):R D:=match ρ[i]? with
 |some (.x (.ref c))=>if BE K c=true then(match PySem.W.kitOne K (.ref c) a with|some b=>.ok (.bl b)|none=>.bad)else .bad
 |_=>.bad
section
variable{X:Cx} {pos:Pos}
def ND (i:Nat){n x:Str}{p f pt:Pos}{k:af}{g:V}(y:PE X (.Name x pt) (tC g))(rc:RelV g k)(A:∀u,RelV g u->u=k)(B:X.mg "isinstance"=none)(C:X.N[i]?=some n:=by rfl)(J:xH X.env.scope n:=by first|exact aCG rfl|exact aBL (aCG rfl)|exact aBL (aBL rfl))(L:Gl X "isinstance":=by rfl)
  (T:(n==kb)=false:=by decide) (U:(n==kc)=false:=by decide)
  (t:a5 [.Name n f,.Name x pt] X.env=(false,dz (.Name n f) X.env)::a5 [.Name x pt] X.env:=by rfl) (Y:a5 [Expr.Name x pt] X.env=[(false,dz (.Name x pt) X.env)]:=by rfl) (A8:(cv pos (a5 [Expr.Name x pt] X.env)).any (·.1)=false:=by rfl):
  PD X (.Call (.Name "isinstance" p) [.Name n f,.Name x pt] [] pos) (xz X.K i k):=by
 refine rR λd s σ H Q I Ha O0 O ρ E q=>?_;refine aAK (N0 (u:=.builtin "isinstance") I L B (by decide+kernel) ?_);unfold xz at q;split at q
 case h_2=>exact q.elim
 case h_1 c e=>
 split at q
 case isFalse=>exact q.elim
 case isTrue ho=>
 split at q
 case h_2=>exact q.elim
 case h_1 b ek=>
 obtain⟨a,o,h1,h2,h3⟩:=E.exc i _ e;have h:=F9 (S1 (pos:=f) C J T U) (F9 y Z8 (by rw[Y];rfl)) t pos d s σ H (λv j=>v=[.ref a,g]/\j=H) I ⟨_,h1,rfl,rfl⟩;refine aBr (C4 h λus s1 z9=>?_) t A8;obtain⟨v,j,l,r1,e1,e2⟩:=z9;subst e1;subst e2;obtain⟨u,w,rfl,ru,m⟩:=vals2 r1;cases ru;obtain rfl:=A w m;obtain⟨r,_⟩:=l.hok a _ h2;exact PySem.W.kia_one (QZ<|BE.cls ho) l.kIn ⟨o,r,h3⟩ ek (λz=>nomatch z) λtk=>⟨.bl b,j,l.tok _,rfl,q _ j (Same.refl _) .bl⟩
end
abbrev uj:List af:=[.type "ValueError",.type "Exception",.type "BaseException",.type "object"]
def bZ (P:bu)(w:cp)(K:ka)(mg:Y1)(base:cq)(k:Nat)(x:Str)(n:Nat)(m:List D->Option af):Prop:=
 ∃g a b,FnOk P w K mg base (QK P w) k g a b (spX K n m)/\Binds K a b []/\PySem.W.keepIn K (.ref g)=true/\mg x=some (.ref g)
def jP {P:bu}{w:cp}{K:ka}{mg:Y1}{base:cq}{x qual:Str}{st:dm}{f:bc}{fd:dC}{N ps:List Str}{k:Nat}{m:List D->Option af}{G:Ev->Option af}(b:Fun K x qual st f fd)(S:FnScope N ps (c6 st))(c:Binds K fd ps [])(d:mg x=some (.ref f))
  (e:∀(T:af) (A:cf) (a:List Env) (s:a9) (H:Hp) (E:XK),Room k (A.deeper (envOfC qual (c6 st) s.heap.objs.size f T))->SQ (cxX P w K mg base N qual (c6 st) f T A a s H E) E (o6 st) G)
  (g:∀ds C,ds.length=ps.length->m ds=some C->G (j0 N ds)=some C):bZ P w K mg base (k+1) x ps.length m:=
 ⟨f,fd,ps,fnX b S e g,c,b.kp,d⟩
def mX (f:Ev->R (List D))(m:List D->Option af)(ρ:Ev):Option af:=match f ρ with|.ok a=>m a|_=>none
section
variable{X:Cx} {pos:Pos}
def WG {k:Nat}{n:Nat}{m:List D->Option af}{x:Str}{p:Pos}{e:cu}{es:List cu}{f:Ev->R (List D)}(c:bZ X.prog X.w X.K X.mg X.base k x n m)(a:Room k X.A)(d:xF X.nox (e::es) f)(h:uS f n)(i:Gl X x:=by rfl)
  (j:(x==kb)=false:=by decide) (l:a5 (e::es) X.env=(false,dz e X.env)::a5 es X.env:=by rfl) (A8:(cv pos (a5 es X.env)).any (·.1)=false:=by rfl):
  PEC X (.Call (.Name x p) (e::es) [] pos) (mX f m):=by
 obtain⟨g,q,r,F,b,o,em⟩:=c;exact NQ F a em o b d h i j l A8
def nJ {E:XK}{k:Nat}{n:Nat}{m:List D->Option af}{x:Str}{p:Pos}{e:cu}{es:List cu}{f:Ev->R (List D)}(L:LeavesBy X E)(c:bZ X.prog X.w X.K X.mg X.base k x n m)(a:Room k X.A)(d:xF X (e::es) f)(h:uS f n)(i:Gl X x:=by rfl)
  (j:(x==kb)=false:=by decide) (l:a5 (e::es) X.env=(false,dz e X.env)::a5 es X.env:=by rfl) (A8:(cv pos (a5 es X.env)).any (·.1)=false:=by rfl):
  jq X E (.Call (.Name x p) (e::es) [] pos) (mX f m):=by
 obtain⟨g,q,r,F,b,o,em⟩:=c;exact MV (KS L) F a em o b d h i j l A8
def Y2 {K:ka}{i:Nat}{n x:Str}{p a pt:Pos}{c:bc}(k:X.mg x=some (.ref c))(e:X.mg "isinstance"=none)(f:X.N[i]?=some n:=by rfl)(g:xH X.env.scope n:=by first|exact aCG rfl|exact aBL (aCG rfl)|exact aBL (aBL rfl))(j:Gl X "isinstance":=by rfl)(b:Gl X x:=by rfl)
  (l:(n==kb)=false:=by decide) (m:(n==kc)=false:=by decide) (d:(x==kb)=false:=by decide)
  (o:a5 [.Name n a,.Name x pt] X.env=(false,dz (.Name n a) X.env)::a5 [.Name x pt] X.env:=by rfl) (q:a5 [Expr.Name x pt] X.env=[(false,dz (.Name x pt) X.env)]:=by rfl) (A8:(cv pos (a5 [Expr.Name x pt] X.env)).any (·.1)=false:=by rfl) (r:X.K=K:=by rfl):
  PD X (.Call (.Name "isinstance" p) [.Name n a,.Name x pt] [] pos) (xz K i (.ref c)):=by
 subst r;exact ND i (FY (v:=.ref c) b k rfl d) rfl (λ_ h=>h) e f g j l m o q A8
def VX {K:ka}{i:Nat}{n x:Str}{p a pt:Pos}{T:String}(e:dq x=some (.type T))(k:X.mg x=none)(f:X.mg "isinstance"=none)(g:X.N[i]?=some n:=by rfl)(j:xH X.env.scope n:=by first|exact aCG rfl|exact aBL (aCG rfl)|exact aBL (aBL rfl))(l:Gl X "isinstance":=by rfl)(b:Gl X x:=by rfl)
  (m:(n==kb)=false:=by decide) (o:(n==kc)=false:=by decide) (c:(x==kb)=false:=by decide) (d:x≠ "__name__":=by decide)
  (q:a5 [.Name n a,.Name x pt] X.env=(false,dz (.Name n a) X.env)::a5 [.Name x pt] X.env:=by rfl) (r:a5 [Expr.Name x pt] X.env=[(false,dz (.Name x pt) X.env)]:=by rfl) (A8:(cv pos (a5 [Expr.Name x pt] X.env)).any (·.1)=false:=by rfl) (s:X.K=K:=by rfl):
  PD X (.Call (.Name "isinstance" p) [.Name n a,.Name x pt] [] pos) (xz K i (.type T)):=by
 subst s;exact ND i (FC (v:=.ty T) b k e rfl d c) rfl (λ_ h=>h) f g j l m o q r A8
def BG {st:List dm}:X4 X st (λ_=>.bad):=by rintro _ _ _ _ _ _ _ _ ⟨_,_,_,_,q⟩;exact q.elim
end
structure XCls (K:PySem.W.Frag)(mg:Y1)(Bc:Addr)(x:Str)(c:Addr):Prop where
 nm:mg x=some (.ref c)
 ex:PySem.W.excIn K c uj "ValueError.__new__"=true
 ok:BE K c=true
 sub:PySem.W.mroIn K c (.ref Bc)=some true
def wW {K:ka}{mg:Y1}{a c:bc}{x:Str}{cd:ClassData}(nm:mg x=some (.ref c))(b:PySem.W.excIn K c uj "ValueError.__new__"=true)(d:PySem.W.clsIn K c=some cd)(e:PySem.W.mroIn K c (.type "object")=some true)
  (f:PySem.W.mroIn K c (.type "BaseException")=some true) (g:PySem.W.findIn K (.ref c) "__class__"=some (some (.builtin "object.__class__"))) (h:PySem.W.findIn K (.ref c) "__getattribute__"=some (some (.builtin "BaseException.__getattribute__")))
  (i:PySem.W.findIn K (.ref c) "__getattr__"=some none) (sub:PySem.W.mroIn K c (.ref a)=some true):XCls K mg a x c:=
 ⟨nm,b,by unfold BE;rw[d,e,f,g,h,i];rfl,sub⟩
def ZH {X:Cx}{E:XK}{b:List dm}{d g:Ev->Option af}(k:SQ X E b d)(l:SQ X E b g):SQ X E b (λρ=>(d ρ).or (g ρ)):=by
 intro h i a s σ H O ρ C I Ev j e q;dsimp only at e;cases f:d ρ with
 |some c=>rw[f]at e;cases e;exact k h i a s σ H O ρ _ I Ev j f q
 |none=>rw[f,Option.none_or]at e;exact l h i a s σ H O ρ C I Ev j e q
section
def TH {E:XK}{x:Str}{p:Pos}{e:cu}{G:Ev->Option af}(c:v7 X.prog X.w X.K X.mg X.base k x n m)(h:jq X E e G)(f:Gl X x:=by rfl)
  (i:(x==kb)=false:=by decide) (d:a5 [e] X.env=(false,dz e X.env)::a5 [] X.env:=by rfl) (A8:(cv pos (a5 [] X.env)).any (·.1)=false:=by rfl):
  jq X E (.Call (.Name x p) [e] [] pos) G:=by
 intro j l a s σ H O ρ C I Ev o r q;obtain⟨g,u,v,F,b,t,em⟩:=c;refine aAK (bE I f em ?_ i);refine PySem.W.callWith_K (h₀:=X.base) I.ok.mod.kin t ?_ d A8;rw[d];show bb _ _ (spliced ((false,dz e X.env)::cv pos (a5 [] X.env))) _ _ s;exact aDQ (C4 (h j l a s σ H O ρ C I Ev o r q) λ_ _ z=>z.elim)
end
section
def cj {E:XK}{G:Ev->Option af}{a b:cu}{op:CmpOp}{t e:List dm}{d pos:Pos}(h:jq X E a G)(f:hF op b=false:=by first|exact DV _|with_unfolding_all rfl):PX X E (.If (.Compare a [op] [b] d) t e pos) G:=λg i c s σ H O ρ C I Ev j k q=>wpAny_If (aEk (C4 (h g i c s σ H O ρ C I Ev j k q) λ_ _ z=>z.elim) f)
def AG (c d:bc):af->Bool
 |.ref a=>a==c||a==d
 |_=>false
def OB {K:ka}{mg:Y1}{b c d:bc}{x y:Str}(h:XCls K mg b x c)(h':XCls K mg b y d):∀C,AG c d C=true->∃a,C=.ref a/\PySem.W.mroIn K a (.ref b)=some true:=λC e=>by
 cases C with
 |ref a=>
  simp only[AG,Bool.or_eq_true,beq_iff_eq]at e;rcases e with rfl|rfl
  .exact⟨a,rfl,h.sub⟩
  .exact⟨a,rfl,h'.sub⟩
 |_=>cases e
end
end DL
namespace DL
open PySem L2
variable [Tabs]
end DL
namespace M
open PySem L2 DL
variable [Tabs]
def EX (h:E9 d<=40):QE d d=.ok (.bl false):=by unfold QE;rw[ji ⟨h,h⟩,N7];rfl
def GM (J:List G.V):E9 (.lst (J.map vd))<=40:=by
 rw[E9];have:∀J:List G.V,A3 (J.map vd)<=1:=λJ=>by
  induction J with
  |nil=>simp[A3]
  |cons P J a=>rw[aAt,A3];exact Nat.max_le.mpr ⟨by simp[E9,A3],a⟩
 have:=this J
 lia
def CQ {J:Ev->Prop}(a:r=.ok (.nx ρ))(b:∃ρ2,F ρ=.ok (.nx ρ2)/\J ρ2):∃ρ2,C0 r F=.ok (.nx ρ2)/\J ρ2:=by rw[a];exact b
def dw (c w:Int):G.V:=⟨c.fmod w-w.fdiv 2,(c.fdiv w).fmod w-w.fdiv 2,(c.fdiv<|w*w).fmod w-w.fdiv 2⟩
def tmA (c:Int)(at_ j:Nat):Int:=(c.fdiv<|5+7*(at_:Int)+(j:Int)).fmod 5-2
def iz (P:G.V)(t:Int)(w:G.V):G.V:=⟨P.x+t*w.x,P.y+t*w.y,P.z+t*w.z⟩
def ptA (c:Int)(b:G.V)(ws:List G.V)(at_:Nat):G.V:=match ws with
 |[]=>b
 |[u]=>iz b (tmA c at_ 0) u
 |u::v::_=>iz (iz b (tmA c at_ 0) u) (tmA c at_ 1) v
def a0a (c:Int)(b:G.V)(ws:List G.V)(n:Nat):List G.V:=(aBK n).map (ptA c b ws)
structure Drawn (J:List G.V):Prop where
 ne:J≠[]
 len:J.length<=40
 sz:∀P∈J,Sz 100 P
 flat:¬G.j5 J
def sW (cN:bc):List D->Option af
 |[.lst []]=>some (.ref cN)
 |_=>none
open Classical in
def S9 (cF cN:bc):List D->Option af
 |[.lst []]=>some (.ref cN)
 |[.lst Y]=>match B6 Y with
  |some J=>if T1 1000 J/\¬G.j5 J then some (.ref cF)else none
  |none=>none
 |_=>none
def iy (J:List G.V):G.K9 J<=3:=by
 unfold G.K9;split
 .decide
 .dsimp only;split
  .decide
  .split
   .decide
   .split<;>decide
def aq (h:¬G.j5 J):G.K9 J<3:=by
 have a:=iy J;have b:G.K9 J≠3:=λe=>h (G.rQ e)
 lia
def yz (a:T1 1000 J)(h:J≠[]):p8 [.lst (J.map vd)]=.ok (.int (G.K9 J)):=by simp only[p8,p6];exact ji ⟨h,a⟩
def JU (a:T1 1000 J)(b:J≠[])(c:¬G.j5 J):S9 cF cN [.lst (J.map vd)]=some (.ref cF):=by
 match J,b with
 |P::J,_=>show(match B6 ((P::J).map vd)with|some J=>_|none=>_)=_;rw[p6];exact ji ⟨a,c⟩
open Classical in
def JY (h:S9 cF cN [.lst Y]=some C):(Y=[]/\C=.ref cN)\/∃J,Y=J.map vd/\J≠[]/\T1 1000 J/\¬G.j5 J/\C=.ref cF:=by
 cases Y with
 |nil=>cases h;exact .inl ⟨rfl,rfl⟩
 |cons x Y=>
  have h:(match B6 (x::Y)with|some J=>if T1 1000 J/\¬G.j5 J then some (aCV cF)else none|none=>none)=some C:=h;split at h
  .rename_i J a;split at h
   .rename_i b;cases h;refine .inr ⟨J,n8 a,λz=>?_,b.1,b.2,rfl⟩;rw[z]at a;have:=n8 a;cases this
   .cases h
  .cases h
def st0 (t:Int):Int:=(t*40009+6007).fmod 2147483647
def XS (s k:Int):Int:=(s*s+5003*k+11).fmod 2147483647
def gH (l:List Int):Prop:=l.length=7/\∀i∈l,bits i<=100
def s7 (c k:Int):Int:=(c.fdiv k).fmod 7-3
def TN {J:List G.V}{n:G.V}{d:Int}(h:T1 900 J)(a:G.IsFace (d9 J) n d):Sz 2003 n:=by obtain⟨A,b,B,c,C,f,_,e⟩:=G.kA a;have z:∀X∈d9 J,Sz 1000 X:=λX g=>(h.1 X (k8.mp g)).mono;have:=oD (z A b) (z B c) (z C f);rw[e]at this;exact this
def JS {J:List G.V}(d:T1 900 J)(g:G.j5 J)(b:(d9 J).length<=14):(∀f,f∈o5 (d9 J)↔G.IsFace (d9 J) f.1 f.2)/\o5 (d9 J)≠[]/\(o5 (d9 J)).length<=2744:=by obtain⟨m,r,e,L⟩:=P9 d g (by lia);have c:=b;rw[e]at c;have a:=D3 L c;rw[<-e]at a L;have h:=D5 (L5 a.2);have few:=G.JT h λf i=>(a.1 f).mp i;have j:(d9 J).length*((d9 J).length*(d9 J).length)<=14*(14*14):=aEc b (aEc b b);refine⟨a.1,λz=>?_,aAw few j⟩;have q:=G.gO L.good.solid L.good.ord L.good.mem L.good.least;have:=(a.1 (_,_)).mpr q;rw[z]at this;cases this
def intD:D->Int
 |.int i=>i
 |_=>0
def cH {α β:Type}{G:D->Ev->R Ev}{fe:Ev->R D}{ρ:Ev}(rep:α->D)(b:β->D)(g:α->β)(l:List α)(h:∀a∈l,∃ρ1,G (rep a) ρ=.ok ρ1/\fe ρ1=.ok (b (g a))):B0 G (λ_=>.ok true) fe ρ (l.map rep)=.ok ((l.map g).map b):=by rw[aCr];exact eI rep _ l h
def B2 (a b:Int):Prop:=bits a<=1000/\bits b<=1000
def trn (A B C:G.V):Int:=(B.x-A.x)*(C.y-A.y)-(B.y-A.y)*(C.x-A.x)
def dwn (A B C:G.V):Int:=(B.x-A.x)*(C.x-A.x)+(B.y-A.y)*(C.y-A.y)
def whl (A B:G.V):Int:=(B.x-A.x)*(B.x-A.x)+(B.y-A.y)*(B.y-A.y)
def UD (S:List G.V)(A B:G.V):Prop:=A≠B/\∀C∈S,0<=trn A B C/\(trn A B C=0->0<=dwn A B C/\dwn A B C<=whl A B)
end M
namespace SD
open PySem
section
variable{prog:bu} {w:cp} {A:cf} {E:C7} {s:a9} {d it:bc} {es:Array DictEntry} {ep i:Nat}
end
section
variable{prog:bu} {w:cp} {A:cf} {E:C7} {s:a9} {d:bc} {es:Array DictEntry} {ep:Nat}
end
end SD
namespace DL
open PySem L2
section
variable [Tabs]
end
end DL
namespace M
open PySem L2 DL
variable [Tabs]
def cZ (f:G.V×Int):D:=xI f.1 f.2
def fO (a n:Nat):List D:=(List.range' a n).map λ(k:Nat)=>D.int (k:Int)
def YJ {n:Nat}(h:n<=1000000):mO [.int (n:Int)]=.ok (fO 0 n):=by rw[a1z h];unfold fO;rw[List.range_eq_range']
theorem pB {G:D->Ev->R Ev}{F:Ev->R Out}(Iv:Nat->Ev->Prop):∀{n a:Nat} {ρ:Ev},(∀i,a<=i->i<a+n->∀ρ,Iv i ρ->∃ρ2,bY G F (.int (i:Int)) ρ=.ok (.nx ρ2)/\Iv (i+1) ρ2)->Iv a ρ->∃b,P1 G F (fO a n) ρ=.ok (.nx b)/\Iv (a+n) b
 |0,a,ρ,_,h=>⟨ρ,rfl,h⟩
 |n+1,a,ρ,d,h=>by
  obtain⟨ρ2,e,f⟩:=d a (aAh _) (by lia) ρ h;obtain⟨b,g,j⟩:=pB Iv (n:=n) (λi l f=>d i (by lia) (by lia)) f;refine⟨b,?_,by rw[show a+(n+1)=a+1+n by lia];exact j⟩;show P1 G F (.int (a:Int)::fO (a+1) n) ρ=_;unfold bY at e;cases c:G (.int (a:Int)) ρ with
  |ok k=>rw[c]at e;exact(T8 c e).trans g
  |ex z=>rw[c]at e;cases e
  |bad=>rw[c]at e;cases e
def XQ (N:List (D×D)):List D:=N.map (·.1)
def Cov (S:List G.V)(N:List (D×D))(i j k:Nat):Prop:=∀A B C,S[i]?=some A->S[j]?=some B->S[k]?=some C->(G.Up S A B C->cZ (G.d4 A B C)∈XQ N)/\(G.Dn S A B C->cZ (G.d4 A C B)∈XQ N)
def SJ (S:List G.V)(N:List (D×D))(i j k:Nat):Prop:=∀b a c,b<a->a<c->(b<i\/(b=i/\(a<j\/(a=j/\c<k))))->Cov S N b a c
def WU {f g:G.V×Int}(h:cZ f=cZ g):f=g:=by obtain⟨⟨a,b,c⟩,d⟩:=f;obtain⟨⟨e,i,j⟩,k⟩:=g;simp[cZ]at h;obtain⟨rfl,rfl,rfl,rfl⟩:=h;rfl
def MB {G:D->Ev->R Ev}{F:Ev->R Out}{Post:Ev->Prop}{n a:Nat}{ρ:Ev}(Iv:Nat->Ev->Prop)(d:∀i,a<=i->i<a+n->∀ρ,Iv i ρ->∃ρ2,bY G F (.int (i:Int)) ρ=.ok (.nx ρ2)/\Iv (i+1) ρ2)(h0:Iv a ρ)(c:∀b,Iv (a+n) b->Post b):∃ρ2,P1 G F (fO a n) ρ=.ok (.nx ρ2)/\Post ρ2:=by obtain⟨b,e,h⟩:=pB Iv d h0;exact⟨b,e,c b h⟩
def ER {G:D->Ev->R Ev}{F c:Ev->R Out}{d:D}{n a:Nat}{ρ:Ev}(Iv:Nat->Ev->Prop)(f:∀i,a<=i->i<a+n->∀ρ,Iv i ρ->∃ρ2,bY G F (.int (i:Int)) ρ=.ok (.nx ρ2)/\Iv (i+1) ρ2)(h0:Iv a ρ)(g:∀b,Iv (a+n) b->M5 (c b)=.ok d):M5 (C0 (P1 G F (fO a n) ρ) c)=.ok d:=by obtain⟨b,e,h⟩:=pB Iv f h0;rw[e];exact g b h
def LD {r:R Out}{ρ:Ev}{F:Ev->R Out}{x:R Out}(a:r=.ok (.nx ρ))(b:F ρ=x):C0 r F=x:=by rw[a];exact b
def CS {S:List G.V}{i:Nat}{A:G.V}(h:S[i]?=some A):W9 (.lst (S.map vd)) (.int (i:Int))=.ok (vd A):=jD (by rw[cB (by lia),aCl,aAM,h];rfl)
def NN {f:G.V×Int}{P:G.V}(h:Sz 2003 f.1)(a:Sz 1000 P):l5 [cZ f,vd P]=.ok (.int (G.d6 f.1 P)):=ji ⟨⟨i6 h.1,i6 h.2.1,i6 h.2.2⟩,i6 a.1,i6 a.2.1,i6 a.2.2⟩
def uB {α:Type}{l:List α}(d:l.Nodup):2<l.length↔∃a b c,a∈l/\b∈l/\c∈l/\a≠b/\a≠c/\b≠c:=by
 constructor
 .intro h;match l,h,d with
  |a::b::c::l,_,d=>
   refine⟨a,b,c,by simp,by simp,by simp,?_,?_,?_⟩
   .rintro rfl;simp at d
   .rintro rfl;simp at d
   .rintro rfl;simp at d
 .rintro⟨a,b,c,k,n,o,f,g,i⟩
  classical
  have j:[a,b,c].Nodup:=by simp[f,g,i]
  have:=G.J5 j (m:=l) λv e=>by simp only[aAd,aAG,or_false]at e;rcases e with rfl|rfl|rfl<;>assumption
  exact this
def AT (fs:List (G.V×Int)) (X:G.V):List (G.V×Int):=fs.filter λf=>decide (G.d6 f.1 X=f.2)
def iS {J:List G.V}(p:T1 900 J)(q:G.j5 J)(s:(d9 J).length<=14):((d9 J).filter λX=>decide (2<(AT (o5 (d9 J)) X).length))=w8 J:=by
 obtain⟨m,r,e,L⟩:=P9 p q (by lia);have t:=s;rw[e]at t;have i:=D3 L t;rw[<-e]at i L;have x:(o5<|d9 J).Nodup:=D5 (L5 i.2);have u:=L.good.solid;have j:=L.good.ord;refine R0 ((t9 J).sublist aDH) (t9 _) λX=>?_;rw[aBQ,decide_eq_true_eq,qJ p q s,uB (l:=AT (o5<|d9 J) X) (x.sublist aDH)];have d:∀f,f∈AT (o5<|d9 J) X↔G.IsFace (d9 J) f.1 f.2/\G.d6 f.1 X=f.2:=λf=>by unfold AT;rw[aBQ,decide_eq_true_eq,i.1]
 constructor
 .rintro⟨g,a,b,c,h,k,n,y,z,A⟩;rw[d]at h k n;exact⟨a,h.1,G.BJ u j g h.1 k.1 n.1 h.2 k.2 n.2 y z A⟩
 .rintro⟨f,o,g⟩;obtain⟨v,w,B,C,E,H,I,N,O,Q⟩:=G.xC u j o g;have T:=(G.d7.mp<|(o.aa2 j).aa3 g).1;exact⟨T,f,v,w,(d f).mpr ⟨o,N⟩,(d v).mpr ⟨B,O⟩,(d w).mpr ⟨C,Q⟩,E,H,I⟩
def EZ {α:Type}{r:R α}{x:α}{F:α->R Out}{a:Ev->R Out}{d:D}(b:r=.ok x)(c:M5 (C0 (F x) a)=.ok d):M5 (C0 (r.bind F) a)=.ok d:=by rw[b];exact c
def KY {α:Type}{r:R α}{x:α}{F:α->R Out}{Post:Ev->Prop}(a:r=.ok x)(b:∃ρ2,F x=.ok (.nx ρ2)/\Post ρ2):∃ρ2,r.bind F=.ok (.nx ρ2)/\Post ρ2:=by rw[a];exact b
def JQ {J:List G.V}(h:J.Nodup)(c:J.length<=63):spR (.lst (J.map vd))=.ok ((d9 J).map vd):=by show(if _ then _ else _)=_;rw[ji ⟨DK J,aBB.mpr (h.imp λ{a b} n e=>n (uZ e)),by rw[aAj];exact c⟩,U9]
end M
namespace HT
open PySem PyProof.Rows
section
open PySem.SeqAt
open PySem.AutoSeq1 (wpAny_loadPart')
open PySem.MeetsSeq PySem.MeetsSeq2 PySem.MeetsSeq3
end
section
variable{prog:bu} {w:cp} {A:cf} {E:C7} {s:a9}
end
end HT
namespace DL
open PySem PySem.Spec L2
open PyProof.Rows hiding St
variable [Tabs]
end DL
namespace M
open PySem L2 DL
variable [Tabs]
def WP {t:Int}(a:t≠0)(P Q:G.V)(e:G.J8 t P=G.J8 t Q):P=Q:=by have c:∀{x y:Int},t*x=t*y->x=y:=λh=>aCn a h;exact G.ext (c<|jr G.V.x e) (c<|jr G.V.y e) (c<|jr G.V.z e)
def lp {α:Type}:Nat->(Nat->α->α)->α->α
 |0,_,a=>a
 |n+1,f,a=>f n (lp n f a)
theorem vF {α:Type}{f:Nat->α->α}{a:α}(P:α->Prop)(h0:P a):∀{n:Nat},(∀k<n,∀x,P x->P (f k x))->P (lp n f a)
 |0,_=>h0
 |n+1,h=>h n (aDg n) _ (vF P h0 λk b=>h k (aBq b))
theorem uJ {α:Type}{f:Nat->List α->List α}{a:List α}{y:α}(mono:∀k x,y∈x->y∈f k x):∀{n:Nat},y∈a->y∈lp n f a
 |0,h=>h
 |n+1,h=>mono n _ (uJ mono h)
theorem xE {α:Type}{f:Nat->List α->List α}{a:List α}{y:α}(mono:∀k x,y∈x->y∈f k x){k:Nat}(b:∀x,y∈f k x):∀{n:Nat},k<n->y∈lp n f a
 |n+1,h=>by
  by_cases e:k=n
  .subst e;exact b _
  .exact mono n _ (xE mono b (by lia))
def ZA (S:List G.V)(f:G.V×Int):Prop:=∀X∈S,G.d6 f.1 X<=f.2
open Classical in
def kU (S:List G.V) (f:G.V×Int) (fs:List (G.V×Int)):List (G.V×Int):=if f∉fs/\ZA S f then fs++[f]else fs
open Classical in
def RW (S:List G.V) (A B C:G.V) (fs:List (G.V×Int)):List (G.V×Int):=if G.cr (B-A) (C-A)=0 then fs else kU S (G.d4 A C B) (kU S (G.d4 A B C) fs)
def kS (S:List G.V) (i j k:Nat):List (G.V×Int)->List (G.V×Int):=RW S (S.getD i 0) (S.getD j 0) (S.getD k 0)
def RZ (S:List G.V) (i j:Nat):List (G.V×Int)->List (G.V×Int):=lp j (kS S i j)
def VE (S:List G.V) (i:Nat):List (G.V×Int)->List (G.V×Int):=lp i (RZ S i)
def YK (S:List G.V):List (G.V×Int):=lp S.length (VE S) []
def jT {S:List G.V}{f y:G.V×Int}{fs:List (G.V×Int)}(h:y∈fs):y∈kU S f fs:=by
 unfold kU;split
 .exact aBF _ h
 .exact h
def GF {S:List G.V}{f:G.V×Int}{fs:List (G.V×Int)}(h:ZA S f):f∈kU S f fs:=by
 unfold kU;split
 .exact aAE _ (.head _)
 .rename_i z;exact aEY λn=>z ⟨n,h⟩
def PP {S:List G.V}{A B C:G.V}{y:G.V×Int}{fs:List (G.V×Int)}(h:y∈fs):y∈RW S A B C fs:=by
 unfold RW;split
 .exact h
 .exact jT (jT h)
def NZ (S:List G.V)(fs:List (G.V×Int)):Prop:=fs.Nodup/\∀f∈fs,G.IsFace S f.1 f.2
def oV {S:List G.V}{A B C:G.V}(a:A∈S)(b:B∈S)(c:C∈S)(ne:G.cr (B-A) (C-A)≠0)(h:ZA S (G.d4 A B C)):G.IsFace S (G.d4 A B C).1 (G.d4 A B C).2:=by
 obtain⟨g,j,d,e,f⟩:=G.V1 ne;have i:∀Y:G.V,G.d6 (G.cr (B-A)<|C-A) (Y-A)=g*(G.d6 (G.d4 A B C).1 Y-(G.d4 A B C).2):=λY=>by rw[f,d,G.G3,G.f8]
 have zero:∀Y:G.V,G.d6 (G.cr (B-A)<|C-A) (Y-A)=0->G.d6 (G.d4 A B C).1 Y=(G.d4 A B C).2:=λY h=>by rw[i]at h;rcases aAv.mp h with h|h<;>lia
 exact⟨e,h,A,a,B,b,C,c,zero A (by simp[G.d6]),zero B (by simp[G.d6];grind),zero C (by simp[G.d6];grind),ne⟩
def xA {S:List G.V}{f:G.V×Int}{fs:List (G.V×Int)}(h:NZ S fs)(d:ZA S f->G.IsFace S f.1 f.2):NZ S (kU S f fs):=by
 unfold kU;split
 .rename_i z;refine⟨aCH.mpr ⟨h.1,by simp,λa i b j e=>?_⟩,λg c=>?_⟩
  .rw[aBb.mp j]at e;exact z.1 (e▸i)
  .rcases aAQ.mp c with c|c
   .exact h.2 g c
   .rw[aBb.mp c];exact d z.2
 .exact h
def jN {A B C:G.V}(h:G.cr (B-A) (C-A)≠0):G.cr (C-A) (B-A)≠0:=λz=>h (by rw[G.nD]at z;have x:=jr G.V.x z;have y:=jr G.V.y z;have w:=jr G.V.z z;apply G.ext<;>simp at*<;>lia)
def bq {S:List G.V}{A B C:G.V}{fs:List (G.V×Int)}(a:A∈S)(b:B∈S)(c:C∈S)(h:NZ S fs):NZ S (RW S A B C fs):=by
 unfold RW;split
 .exact h
 .rename_i ne;exact xA (xA h λz=>oV a b c ne z) λz=>oV a c b (jN ne) z
def wY {S:List G.V}{i:Nat}(h:i<S.length):S.getD i 0∈S:=by rw[aAq,aAg h];exact aCf h
def KO {S:List G.V}{i j:Nat}{fs:List (G.V×Int)}(a:i<S.length)(b:j<S.length)(h:NZ S fs){n:Nat}(d:n<=S.length):NZ S (lp n (kS S i j) fs):=vF _ h λk e x c=>bq (wY a) (wY b) (wY (by lia)) c
def RM {S:List G.V}{i:Nat}{fs:List (G.V×Int)}(a:i<S.length)(h:NZ S fs){n:Nat}(c:n<=S.length):NZ S (lp n (RZ S i) fs):=vF _ h λj d x b=>KO a (by lia) b (by lia)
def uH {S:List G.V}{n:Nat}(b:n<=S.length):NZ S (lp n (VE S) []):=vF _ ⟨.nil,λ_ h=>nomatch h⟩ λi c x a=>RM (by lia) a (by lia)
def NZ.few {S:List G.V}{fs:List (G.V×Int)}(d:G.j5 S)(e:S.Pairwise λa b=>G.i4 (b-a))(f:S.length<=14)(h:NZ S fs):fs.length<=63:=by
 have few:=G.aU d e h.1 h.2;have c:=G.cM d e h.2;have g:S.length*S.length<=14*S.length:=Nat.mul_le_mul_right _ f
 lia
def UQ {S:List G.V}(m:G.j5 S)(f:G.V×Int):f∈YK S↔G.IsFace S f.1 f.2:=by
 refine⟨λh=>(uH<|aAh _).2 f h,λd=>?_⟩;have n:G.IsFace S.reverse f.1 f.2:=by obtain⟨p,s,A,o,B,t,C,w,r⟩:=d;exact⟨p,λX y=>s X (aBn.mp y),A,aBn.mpr o,B,aBn.mpr t,C,aBn.mpr w,r⟩
 have E:G.j5 S.reverse:=lA m λv H=>aBn.mpr H;obtain⟨A,B,C,⟨i,j,k,ij,jk,I,J,L⟩,q⟩:=(G.HI E).mp n;have at_:∀{i:Nat} {A:G.V},S.reverse[i]?=some A->i<S.length/\S.getD (S.length-1-i) 0=A:=λ{i A} e=>by have c:i<S.reverse.length:=(aAB.mp e).1;rw[aCm]at c;rw[List.getElem?_reverse c]at e;exact⟨c,by rw[aAq,e];rfl⟩
 obtain⟨iA,N⟩:=at_ I;obtain⟨iB,O⟩:=at_ J;obtain⟨iC,Q⟩:=at_ L;have b:ZA S f:=d.sup;have st:∀x,f∈kS S (S.length-1-i) (S.length-1-j) (S.length-1-k) x:=λx=>by
  unfold kS RW;rw[N,O,Q];have a:∀X:G.V,G.d6 0 X=0:=λX=>by simp[G.d6]
  rw[jn (by
   rcases q with⟨⟨_,X,_,u⟩,_⟩|⟨⟨_,X,_,u⟩,_⟩
   .intro z;rw[z,a]at u;lia
   .intro z;rw[z,a]at u;lia)]
  rcases q with⟨_,e⟩|⟨_,e⟩
  .rw[show G.d4 A B C=f from e];exact jT (GF b)
  .rw[show G.d4 A C B=f from e];exact GF b
 have g:∀{i j k x},f∈x->f∈kS S i j k x:=λh=>PP h;have l:∀{i j x},f∈x->f∈RZ S i j x:=λh=>uJ (λ_ _=>g) h;have T:∀{i x},f∈x->f∈VE S i x:=λh=>uJ (λ_ _=>l) h;have U:S.length-1-i<S.length:=by omega
 have Y:S.length-1-j<S.length-1-i:=by omega
 have l3:S.length-1-k<S.length-1-j:=by omega
 have a3:∀x,f∈RZ S (S.length-1-i) (S.length-1-j) x:=λx=>xE (f:=kS S (S.length-1-i) (S.length-1-j)) (λ_ _=>g) st l3;have a2:∀x,f∈VE S (S.length-1-i) x:=λx=>xE (f:=RZ S (S.length-1-i)) (λ_ _=>l) a3 Y;exact xE (f:=VE S) (λ_ _=>T) a2 U
def IM {J:List G.V}(c:T1 900 J)(d:G.j5 J)(g:(d9 J).length<=14):((d9 J).filter λX=>decide (2<(AT (YK (d9 J)) X).length))=w8 J:=by
 rw[<-iS c d g];obtain⟨i,_,_⟩:=JS c d g;obtain⟨m,r,e,L⟩:=P9 c d (by lia);have j:=g;rw[e]at j;have k:=D3 L j;rw[<-e]at k L;have p:(o5<|d9 J).Nodup:=D5 (L5 k.2);have q:=(uH (S:=d9 J)<|aAh _).1;have l:=UQ (S:=d9 J) L.good.solid;refine List.filter_congr λX _=>?_;have o:∀{a b:List (G.V×Int)},a.Nodup->(∀f,f∈a->f∈b)->(AT a X).length<=(AT b X).length:=λ{a b} n s=>by
  classical
  exact G.J5 (n.sublist aDH) λf h=>by unfold AT at h⊢;rw[aBQ]at h⊢;exact⟨s f h.1,h.2⟩
 have t:=o q λf h=>(i f).mpr ((l f).mp h);have u:=o p λf h=>(l f).mpr ((i f).mp h);have v:(AT (YK<|d9 J) X).length=(AT (o5<|d9 J) X).length:=Nat.le_antisymm t u;rw[v]
def pD {J:List G.V}(g:T1 900 J)(h:G.j5 J)(i:(d9 J).length<=14){X:G.V}:X∈w8 J↔X∈d9 J/\∃a b c:G.V×Int,(G.IsFace (d9 J) a.1 a.2/\G.d6 a.1 X=a.2)/\(G.IsFace (d9 J) b.1 b.2/\G.d6 b.1 X=b.2)/\(G.IsFace (d9 J) c.1 c.2/\G.d6 c.1 X=c.2)/\a≠b/\a≠c/\b≠c:=by
 obtain⟨m,r,e,L⟩:=P9 g h (by lia);have j:=i;rw[e]at j;have d:=D3 L j;rw[<-e]at d;have k:(o5<|d9 J).Nodup:=D5 (L5 d.2);have n:∀f,f∈AT (o5<|d9 J) X↔G.IsFace (d9 J) f.1 f.2/\G.d6 f.1 X=f.2:=λf=>by unfold AT;rw[aBQ,decide_eq_true_eq,d.1]
 rw[<-iS g h i,aBQ,decide_eq_true_eq,uB (l:=AT (o5<|d9 J) X) (k.sublist aDH)];simp only[n]
def YW {t:Int}{a b:G.V}(h:G.KH t a=G.KH t b):a=b:=by
 unfold G.KH at h;split at h
 .exact h
 .have x:=jr G.V.x h;have y:=jr G.V.y h;have z:=jr G.V.z h;simp at x y z;exact G.ext x y z
def HY {L:List G.V}{t:Int}(g:t≠0)(o:T1 900 L)(j:G.j5 L)(p:(d9 L).length<=14)(q:w8 L=L)(k1:T1 900 (L.map (G.J8 t))):w8 (L.map (G.J8 t))=d9 (L.map (G.J8 t)):=by
 have k:G.j5 (L.map<|G.J8 t):=G.sN g (λX d=>aAX d) j;have i:∀Y,Y∈d9 (L.map<|G.J8 t)↔∃X∈d9 L,Y=G.J8 t X:=λY=>by rw[k8,aAo];exact⟨λ⟨x,h,e⟩=>⟨x,k8.mpr h,e.symm⟩,λ⟨x,h,e⟩=>⟨x,k8.mp h,e.symm⟩⟩
 have l:(d9<|L.map<|G.J8 t).length<=14:=by
  have:=G.J5 (U1<|L.map<|G.J8 t) (m:=(d9 L).map (G.J8 t)) λY r=>by obtain⟨X,d,rfl⟩:=(i Y).mp r;exact aAX d
  rw[aAj]at this;lia
 have s:(t.natAbs:Int)≠0:=by lia
 have ne:∀a b:G.V×Int,a≠b->(G.KH t a.1,(t.natAbs:Int)*a.2)≠(G.KH t b.1,(t.natAbs:Int)*b.2):=λa b n e=>by injection e with u v;exact n (aEQ (YW u)<|aCn s v)
 refine R0 (t9 _) (t9 _) λY=>⟨λh=>k8.mpr (qA k1 k l h),λh=>?_⟩;obtain⟨X,d,rfl⟩:=(i Y).mp h;have w:X∈w8 L:=by rw[q];exact k8.mp d
 obtain⟨_,a,b,c,⟨y,z⟩,⟨A,B⟩,⟨C,E⟩,H,I,J⟩:=(pD o j p).mp w;have m:∀f:G.V×Int,G.IsFace (d9 L) f.1 f.2->G.d6 f.1 X=f.2->G.IsFace (d9<|L.map<|G.J8 t) (G.KH t f.1) ((t.natAbs:Int)*f.2)/\G.d6 (G.KH t f.1) (G.J8 t X)=(t.natAbs:Int)*f.2:=λf N e=>⟨G.WA g i N,by rw[G.pJ g,e]⟩;exact(pD k1 k l).mpr ⟨h,_,_,_,m a y z,m b A B,m c C E,ne _ _ H,ne _ _ I,ne _ _ J⟩
open Classical in
def EM (p:Prop) (d:D):R D:=if p then .ok d else .bad
def V0 {p:Prop}{d r:D}(h:EM p d=.ok r):p/\d=r:=by
 unfold EM at h;split at h
 .rename_i z;cases h;exact⟨z,rfl⟩
 .cases h
def M4 {p:Prop}{d:D}(h:p):EM p d=.ok d:=ji h
def UY (k:List G.V->List D->R D):List D->R D:=JO λY e=>match B6 Y with
 |some l=>k l e
 |none=>.bad
def iI {k:List G.V->List D->R D}{ds:List D}{r:D}(h:UY k ds=.ok r):∃l e,ds=.lst (l.map vd)::e/\k l e=.ok r:=by
 replace h:=gP h;obtain⟨Y,e,rfl,h⟩:=h;cases q:B6 Y with
 |none=>rw[q]at h;cases h
 |some l=>rw[q]at h;exact⟨l,e,by rw[n8 q],h⟩
def bD (k:List G.V->List D->R D)(l:List G.V)(e:List D):UY k (.lst (l.map vd)::e)=k l e:=by show(match B6 (l.map vd)with|some l=>k l e|none=>.bad)=_;rw[p6]
def l3 (k:Int->Int->Int->List D->R D):List D->R D:=JO λY e=>lV (λa=>lV λb=>lV λc=>fM (k a b c e)) Y
def xq {k:Int->Int->Int->List D->R D}{ds:List D}{r:D}(h:l3 k ds=.ok r):∃a b c e,ds=.lst [.int a,.int b,.int c]::e/\k a b c e=.ok r:=by obtain⟨Y,e,rfl,h⟩:=gP h;obtain⟨a,x,rfl,h⟩:=C1 h;obtain⟨b,y,rfl,h⟩:=C1 h;obtain⟨c,z,rfl,h⟩:=C1 h;obtain⟨rfl,h⟩:=v5 h;exact⟨a,b,c,e,rfl,h⟩
def pA (k:Int):Int:=11*k*k+5*k+3
def aO:List D->R D
 |[.lst Y,.int k]=>if 0<=k/\k<=1000 then .ok (tK pA Y k)else .bad
 |_=>.bad
def cK (Y:List D)(k:Int):Int:=match tK pA Y k with
 |.int i=>i
 |_=>0
def yK {Y:List D}(d:kH 1048576 Y)(k:Int)(h0:0<=k)(b:k<=100):aO [.lst Y,.int k]=.ok (.int (cK Y k))/\bits (cK Y k)<=2000000:=by
 obtain⟨c,e,a⟩:=JI d pA k;have f:cK Y k=c:=by unfold cK;rw[e]
 rw[f];refine⟨(ji ⟨h0,by lia⟩).trans (jr R.ok e),?_⟩;rcases a with a|rfl
 .exact i6 a
 .unfold pA;have g:0<=k*k:=aBX h0 h0;have h:k*k<=100*100:=Int.mul_le_mul b b h0 (by decide);rw[aGa];exact j9 (Y0 (n:=30) (by lia) (by lia)) (by decide)
def uN:List D->R D:=v1 λa b c=>v1 λd e f=>v1 λg h i=>fM (EM (Sz 1000 ⟨a,b,c⟩/\Sz 1000 ⟨d,e,f⟩/\Sz 1000 ⟨g,h,i⟩)<|vd<|G.cr (⟨d,e,f⟩-⟨a,b,c⟩)<|⟨g,h,i⟩-⟨a,b,c⟩)
def SM {A B C:G.V}(a:Sz 1000 A)(b:Sz 1000 B)(c:Sz 1000 C):uN [vd A,vd B,vd C]=.ok (vd (G.cr (B-A) (C-A))):=M4 ⟨a,b,c⟩
def Ord (S:List G.V):Prop:=S.Pairwise λa b=>G.i4 (b-a)
def uR:List D->R D:=UY λS=>fM (EM ((∀P∈S,Sz 900 P)/\G.j5 S/\Ord S/\S.length<=14)<|.lst ((YK S).map cZ))
def OU {S:List G.V}(a:∀P∈S,Sz 900 P)(b:G.j5 S)(c:Ord S)(d:S.length<=14):uR [.lst (S.map vd)]=.ok (.lst ((YK S).map cZ)):=(bD _ S []).trans (M4 ⟨a,b,c,d⟩)
def Hu (l:List G.V):Prop:=T1 900 l/\G.j5 l/\(d9 l).length<=14
def wG:List D->R D:=UY λl=>fM (EM (Hu l)<|.lst ((w8 l).map vd))
def NI {l:List G.V}(h:Hu l):wG [.lst (l.map vd)]=.ok (.lst ((w8 l).map vd)):=(bD _ l []).trans (M4 h)
def iW:List D->R D:=v1 λa b c=>lV λk=>fM (EM (Sz 1000 ⟨a,b,c⟩/\bits k<=1000)<|vd<|G.J8 k ⟨a,b,c⟩)
def sH {P:G.V}{k:Int}(h:Sz 1000 P)(a:bits k<=1000):iW [vd P,.int k]=.ok (vd (G.J8 k P)):=M4 ⟨h,a⟩
def Fo (l:List G.V)(k:Int):Prop:=(∀P∈l,Sz 1000 P)/\bits k<=1000/\l.length<=1000/\Hu (l.map<|G.J8 k)
def lH:List D->R D:=UY λl=>lV λk=>fM (EM (Fo l k)<|.lst ((w8<|l.map<|G.J8 k).map vd))
def TW {l:List G.V}{k:Int}(h:Fo l k):lH [.lst (l.map vd),.int k]=.ok (.lst ((w8 (l.map (G.J8 k))).map vd)):=(bD _ l _).trans (M4 h)
def aR:List D->R D:=UY λl=>lV λk=>fM (EM (k≠0/\(∀P∈l,Sz 1000 P)/\bits k<=1000/\l.length<=63/\l.Nodup)<|.lst ((d9<|l.map<|G.J8 k).map vd))
def BY {l:List G.V}{k:Int}(h0:k≠0)(a:∀P∈l,Sz 1000 P)(b:bits k<=1000)(c:l.length<=63)(d:l.Nodup):aR [.lst (l.map vd),.int k]=.ok (.lst ((d9 (l.map (G.J8 k))).map vd)):=(bD _ l _).trans (M4 ⟨h0,a,b,c,d⟩)
def fA:List D->R D:=UY λl=>UY λa=>fM (EM (l=a)<|.bl true)
def qI (l:List G.V):fA [.lst (l.map vd),.lst (l.map vd)]=.ok (.bl true):=by unfold fA;rw[bD,bD];exact M4 rfl
def A8 (n A:G.V)(h:Int):G.V×Int:=(⟨n.x.fdiv h,n.y.fdiv h,n.z.fdiv h⟩,G.d6 ⟨n.x.fdiv h,n.y.fdiv h,n.z.fdiv h⟩ A)
def cW {a g:Int}(h:g∣a)(b:0<g):a.fdiv (0-g)=-(a/g):=by obtain⟨k,rfl⟩:=h;rw[show g*k=(-k)*(0-g)by grind,Int.mul_fdiv_cancel _ (by lia),show(-k)*(0-g)=g*k by grind,Int.mul_ediv_cancel_left _ (by lia)]
def HB {A B C:G.V}:A8 (G.cr (B-A) (C-A)) A (G.n6 (G.cr (B-A) (C-A)):Int)=G.d4 A B C:=by have e:∀a:Int,a.fdiv (G.n6 (G.cr (B-A)<|C-A):Int)=a/(G.n6 (G.cr (B-A)<|C-A):Int):=λa=>aEL a (by lia);unfold A8;rw[e,e,e];rfl
def QU (v:G.V):G.n6 (-v)=G.n6 v:=by unfold G.n6;simp
def SH {A B C:G.V}(ne:G.cr (B-A) (C-A)≠0):A8 (G.cr (B-A) (C-A)) A (0-(G.n6 (G.cr (B-A) (C-A)):Int))=G.d4 A C B:=by
 unfold G.d4 A8;rw[G.nD A B C,QU];obtain⟨b,c,d⟩:=G.yP (G.cr (B-A)<|C-A);have a:(0:Int)<(G.n6 (G.cr (B-A)<|C-A):Int):=by
  have:G.n6 (G.cr (B-A)<|C-A)≠0:=λz=>ne (G.dZ z)
  lia
 rw[cW b a,cW c a,cW d a];have e:G.gT (-G.cr (B-A) (C-A)) (G.n6 (G.cr (B-A)<|C-A):Int)=⟨-((G.cr (B-A)<|C-A).x/(G.n6 (G.cr (B-A)<|C-A):Int)),-((G.cr (B-A)<|C-A).y/(G.n6 (G.cr (B-A)<|C-A):Int)),-((G.cr (B-A)<|C-A).z/(G.n6 (G.cr (B-A)<|C-A):Int))⟩:=by
  unfold G.gT;apply G.ext
  .exact aEF b
  .exact aEF c
  .exact aEF d
 rw[e]
def ak {n A:G.V}{h:Int}(a:Sz 2003 n):Sz 2003 (A8 n A h).1:=⟨bits_fdiv a.1,bits_fdiv a.2.1,bits_fdiv a.2.2⟩
def TF {S:List G.V}{A:G.V}{w:G.V}(g:A∈S):(wA (S.map (G.d6 w))=G.d6 w A)↔ZA S (w,G.d6 w A):=by
 have c:∀x,x∈S.map (G.d6 w)↔∃X∈S,G.d6 w X=x:=λx=>aAo;have d:G.d6 w A∈S.map (G.d6 w):=(c _).mpr ⟨A,g,rfl⟩;have ne:S.map (G.d6 w)≠[]:=λz=>by rw[z]at d;cases d
 constructor
 .intro h X f;rw[<-h];exact vM ((c _).mpr ⟨X,f,rfl⟩)
 .intro h;have a:=vM d;obtain⟨X,f,e⟩:=(c _).mp (zO ne);have b:=h X f;dsimp only at b
  lia
def UE {S:List G.V}{w A:G.V}(a:A∈S):GY [.lst ((S.map (G.d6 w)).map D.int)]=.ok (.int (wA (S.map (G.d6 w)))):=by
 simp only[GY,yX];exact ji λz=>by rw[List.map_eq_nil_iff]at z;rw[z]at a;cases a
def WR (fs:List (G.V×Int)):A3 (fs.map cZ)<=1:=by
 induction fs with
 |nil=>simp[A3]
 |cons f fs a=>rw[aAt,A3];exact Nat.max_le.mpr ⟨by simp[cZ,E9,A3],a⟩
open Classical in
def OC {fs:List (G.V×Int)}{f:G.V×Int}:inR true (cZ f) (.lst (fs.map cZ))=.ok (.bl (decide (f∉fs))):=by
 have c:=WR fs;have e:XH (cZ f) (fs.map cZ)=decide (f∈fs):=by
  by_cases h:f∈fs
  .rw[decide_eq_true h];exact aDe.mpr ⟨_,aAX h,N7 _⟩
  .rw[decide_eq_false h];cases q:XH (cZ f) (fs.map cZ)with
   |false=>rfl
   |true=>obtain⟨x,a,e⟩:=aDe.mp q;obtain⟨g,b,rfl⟩:=aAo.mp a;have:=eJ (by simp[cZ,mL,cA]) (by simp[cZ,mL,cA]) e;exact absurd (WU this▸b) h
 show(if _ then R.ok (D.bl<|XH (cZ f) (fs.map cZ) !=true)else _)=_;rw[ji ⟨by lia,by simp[A3,E9]⟩,e];congr 2;by_cases h:f∈fs
 .rw[decide_eq_true h,decide_eq_false (λn=>n h)];rfl
 .rw[decide_eq_false h,decide_eq_true h];rfl
def qw3 (S:List G.V)(i j k:Nat)(fs:List (G.V×Int))(ρ:Ev):Prop:=∃a b c d e f g,ρ=[.v (.lst (S.map vd)),.o ((lp k (kS S i j) fs).map cZ),.v (.int (i:Int)),.v (.int (j:Int)),a,b,c,d,e,f,g]
def qw2 (S:List G.V)(i j:Nat)(fs:List (G.V×Int))(ρ:Ev):Prop:=∃a b c d e f g h,ρ=[.v (.lst (S.map vd)),.o ((lp j (RZ S i) fs).map cZ),.v (.int (i:Int)),a,b,c,d,e,f,g,h]
def qw1 (S:List G.V)(i:Nat)(ρ:Ev):Prop:=∃a b c d e f g h j,ρ=[.v (.lst (S.map vd)),.o ((lp i (VE S) []).map cZ),a,b,c,d,e,f,g,h,j]
def iH (S:List G.V) (n A:G.V) (h:Int) (us:List (G.V×Int)):List (G.V×Int):=if h=0 then us else kU S (A8 n A h) us
def HF {S:List G.V}{n A:G.V}{g:Int}{us:List (G.V×Int)}{i:D->Ev->R Ev}{F:Ev->R Out}{J:Ev->Prop}(st:List (G.V×Int)->Sl->Sl->Sl->Sl->Ev){a b c d:Sl}(m:∀h us a b c d,bits h<=9000->us.length<=63->∃y z B d',bY i F (.int h) (st us a b c d)=.ok (.nx (st (iH S n A h us) y z B d')))(o:bits g<=2003)(C:us.length<=63)(E:(iH S n A g us).length<=63)(j:∀a b c d,J (st (iH S n A (0-g) (iH S n A g us)) a b c d)):∃ρ2,P1 i F [.int g,.int (0-g)] (st us a b c d)=.ok (.nx ρ2)/\J ρ2:=by
 obtain⟨p,q,r,s,H⟩:=m g us a b c d (j9 o (by decide)) C;obtain⟨t,u,v,w,I⟩:=m (0-g) _ p q r s (j9 (bits_sub (n:=2003) (by decide) o) (by decide)) E;obtain⟨L,e,h⟩:=lG (G:=i) (F:=F) (λk ρ=>(k=[.int g,.int (0-g)]/\ρ=st us a b c d)\/(k=[.int (0-g)]/\ρ=st (iH S n A g us) p q r s)\/(k=[]/\ρ=st (iH S n A (0-g)<|iH S n A g us) t u v w)) (by
  rintro x Y ρ (⟨f,rfl⟩|⟨f,rfl⟩|⟨f,rfl⟩)
  .injection f with f l;subst f l;exact⟨_,H,.inr (.inl ⟨rfl,rfl⟩)⟩
  .injection f with f l;subst f l;exact⟨_,I,.inr (.inr ⟨rfl,rfl⟩)⟩
  .cases f) (.inl ⟨rfl,rfl⟩)
 refine⟨L,e,?_⟩;rcases h with⟨h,_⟩|⟨h,_⟩|⟨_,rfl⟩
 .cases h
 .cases h
 .exact j t u v w
def OT {S:List G.V}{A B C:G.V}{us:List (G.V×Int)}:iH S (G.cr (B-A) (C-A)) A (0-(G.n6 (G.cr (B-A) (C-A)):Int)) (iH S (G.cr (B-A) (C-A)) A (G.n6 (G.cr (B-A) (C-A)):Int) us)=RW S A B C us:=by
 unfold RW;split
 .rename_i z;have a:(G.n6 (G.cr (B-A)<|C-A):Int)=0:=by rw[z];rfl
  unfold iH;rw[a,ji rfl,ji (by decide)]
 .rename_i ne;have a:(G.n6 (G.cr (B-A)<|C-A):Int)≠0:=λz=>ne (G.dZ (by lia));unfold iH;rw[jn a,jn (by lia),HB,SH ne]
def iF (cF cN:bc):List D->Option af
 |[.lst Y,.int 0]=>match B6 Y with
  |some l=>open Classical in if l≠[]/\(∀P∈l,Sz 1000 P)/\l.length<=1000 then some (.ref cF)else none
  |none=>none
 |_=>none
def IH {cF cN:bc}{l:List G.V}(a:l≠[])(b:∀P∈l,Sz 1000 P)(c:l.length<=1000):iF cF cN [.lst (l.map vd),.int 0]=some (.ref cF):=by simp only[iF,p6];exact ji ⟨a,b,c⟩
def HH {cF cN:bc}{ds:List D}{C:af}(h:iF cF cN ds=some C):∃l:List G.V,ds=[.lst (l.map vd),.int 0]/\l≠[]/\(∀P∈l,Sz 1000 P)/\l.length<=1000/\C=.ref cF:=by
 unfold iF at h;split at h
 .rename_i Y;split at h
  .rename_i l e;split at h
   .rename_i z;cases h;exact⟨l,by rw[n8 e],z.1,z.2.1,z.2.2,rfl⟩
   .cases h
  .cases h
 .cases h
def WS {cF cN:bc}{l:List G.V}(b:l≠[])(i:∀P∈l,Sz 1000 P)(c:l.length<=1000):S9 cF cN [.lst ((l.map (G.J8 0)).map vd)]=some (.ref cF):=by
 have z:∀P∈l.map (G.J8 0),P=0:=λP a=>by obtain⟨Q,_,rfl⟩:=aAo.mp a;apply G.ext<;>simp[G.J8]
 refine JU ⟨λP a=>by rw[z P a];exact⟨by decide,by decide,by decide⟩,by rw[aAj];exact c⟩ (λe=>b (List.map_eq_nil_iff.mp e)) λ⟨A,d,B,f,C,g,E,h,e⟩=>e ?_;rw[z A d,z B f,z C g,z E h];simp[G.i8,G.d6]
def putL (a b c f:Int)(P:G.V):G.V:=⟨P.x+a*P.y+f,P.y+b*P.z-2*f,P.z+c*(P.x+a*P.y)+f.fdiv 3⟩
def yL (a b c f:Int):Prop:=bits a<=60/\bits b<=60/\bits c<=60/\bits f<=100
def wC:List D->R D:=v1 λx y z=>l3 λa b c=>lV λf=>fM (EM (Sz 100 ⟨x,y,z⟩/\yL a b c f)<|vd<|putL a b c f ⟨x,y,z⟩)
def UJ {P:G.V}{a b c f:Int}(h:Sz 100 P)(d:yL a b c f):wC [vd P,.lst [.int a,.int b,.int c],.int f]=.ok (vd (putL a b c f P)):=M4 ⟨h,d⟩
def VC {P:G.V}{a b c f:Int}(h:Sz 100 P)(g:yL a b c f):Sz 300 (putL a b c f P):=by obtain⟨i,j,k,d⟩:=g;have e:bits (P.x+a*P.y)<=170:=i6 (bits_add (n:=160) (i6 h.1)<|i6<|bits_mul i h.2.1);have l:bits (P.y+b*P.z)<=170:=i6 (bits_add (n:=160) (i6 h.2.1)<|i6<|bits_mul j h.2.2);have m:bits (P.z+c*(P.x+a*P.y))<=240:=i6 (bits_add (n:=230) (i6 h.2.2)<|i6<|bits_mul k e);refine⟨i6 (bits_add (n:=170) e<|i6 d),i6 (bits_sub (n:=170) l (i6 (bits_mul (show bits 2<=10 by decide) d))),i6 (bits_add (n:=240) m<|i6<|bits_fdiv d)⟩
def QY (a b c f:Int)(A B C E:G.V):G.i8 (putL a b c f B-putL a b c f A) (putL a b c f C-putL a b c f A) (putL a b c f E-putL a b c f A)=G.i8 (B-A) (C-A) (E-A):=by simp[putL,G.i8,G.d6];grind
def AW {a b c f:Int}{l:List G.V}(h:G.j5 l):G.j5 (l.map (putL a b c f)):=by obtain⟨A,d,B,g,C,i,E,j,e⟩:=h;exact⟨_,aAX d,_,aAX g,_,aAX i,_,aAX j,by rw[QY];exact e⟩
def fR (s:Int):List G.V:=[⟨0,0,0⟩,⟨1+s.fmod 2,0,0⟩,⟨0,1,0⟩,⟨(s.fdiv 2).fmod 2,(s.fdiv 4).fmod 2,1⟩]
def oA (c k:Int):Int:=(c*k).fmod 2000003-1000001
def fH (s c:Int):G.V:=if(s.fdiv 648).fmod 3=1 then⟨oA c 48271,oA c 16811,oA c 69623⟩else⟨c.fmod 7-3,(c.fdiv 7).fmod 7-3,(c.fdiv 49).fmod 7-3⟩
def iG (Y:List D)(a:Int)(m:Nat):List G.V:=fR (cK Y a)++(aBK m).map λ(k:Nat)=>fH (cK Y a) (cK Y<|a+1+(k:Int))
def wV (s:Int):Prop:=(s.fdiv 216).fmod 3=1
instance(s:Int):Decidable (wV s):=inferInstanceAs (Decidable<|_=_)
def qX (s:Int):Int×Int×Int:=if wV s then(oA s 48271,oA s 16811,(s.fdiv 216).fmod 7-3)else((s.fdiv 8).fmod 3-1,(s.fdiv 24).fmod 3-1,(s.fdiv 72).fmod 3-1)
def VT (s:Int):Int:=if wV s then(s*10000000000000000051).fmod 200000000000000000001-100000000000000000000 else 0
def QQ (s:Int):G.V->G.V:=putL (qX s).1 (qX s).2.1 (qX s).2.2 (VT s)
def aT (c k:Int):bits (oA c k)<=40:=i6 (bits_sub (n:=30) (bits_fmod (by decide) (by decide)) (by decide))
def EK (s:Int):yL (qX s).1 (qX s).2.1 (qX s).2.2 (VT s):=by
 have k:∀z m:Int,m≠0->bits m<=10->bits (z.fmod m-1)<=60:=λz m a b=>i6 (bits_sub (n:=10) (bits_fmod a b) (by decide));unfold qX VT yL;split
 .exact⟨i6 (aT _ _),i6 (aT _ _),i6 (bits_sub (n:=10) (bits_fmod (by decide) (by decide)) (by decide)),i6 (bits_sub (n:=80) (bits_fmod (by decide) (by decide)) (by decide))⟩
 .exact⟨k _ _ (by decide) (by decide),k _ _ (by decide) (by decide),k _ _ (by decide) (by decide),by decide⟩
def NE (s c:Int):Sz 100 (fH s c):=by
 have k:∀z:Int,bits (z.fmod 7-3)<=100:=λz=>i6 (bits_sub (n:=10) (bits_fmod (by decide) (by decide)) (by decide));unfold fH;split
 .exact⟨i6 (aT _ _),i6 (aT _ _),i6 (aT _ _)⟩
 .exact⟨k _,k _,k _⟩
def PQ (s:Int){l:List G.V}:(∀P∈fR s,Sz 100 P)/\G.j5 (fR s++l):=by
 have k:∀z:Int,bits (z.fmod 2)<=100:=λz=>i6 (bits_fmod (n:=10) (by decide) (by decide));have e:∀z:Int,bits (1+z.fmod 2)<=100:=λz=>i6 (bits_add (n:=10) (by decide) (bits_fmod (by decide) (by decide)));have c:bits 0<=100:=by decide
 constructor
 .intro P d;simp only[fR,aAd,aAG,or_false]at d;rcases d with rfl|rfl|rfl|rfl
  .exact⟨by decide,by decide,by decide⟩
  .exact⟨e _,c,c⟩
  .exact⟨by decide,by decide,by decide⟩
  .exact⟨k _,k _,show bits 1<=100 by decide⟩
 .have r:=CA (a:=s) (b:=2) (by decide);refine ZR (A:=⟨0,0,0⟩) (B:=⟨1+s.fmod 2,0,0⟩) (C:=⟨0,1,0⟩) (D:=⟨(s.fdiv 2).fmod 2,(s.fdiv 4).fmod 2,1⟩) (by simp[fR]) (by simp[fR]) (by simp[fR]) (by simp[fR]) ?_;simp[G.i8,G.d6]
  lia
def wZ (Y:List D)(a:Int)(m:Nat):(∀P∈iG Y a m,Sz 100 P)/\G.j5 (iG Y a m)/\(iG Y a m).length=4+m:=by
 obtain⟨c,d⟩:=PQ (cK Y a) (l:=(aBK m).map λ(k:Nat)=>fH (cK Y a) (cK Y<|a+1+(k:Int)));refine⟨λP b=>?_,d,?_⟩
 .rcases aAQ.mp b with b|b
  .exact c P b
  .obtain⟨k,_,rfl⟩:=aAo.mp b;exact NE _ _
 .unfold iG;rw[aAF,aAj,List.length_range];rfl
def rT (Y:List D) (a:Int) (m:Nat):List G.V:=w8 ((iG Y a m).map (QQ<|cK Y a))
def YF (Y:List D)(a:Int){m:Nat}(f:m<=4):Hu ((iG Y a m).map (QQ (cK Y a)))/\∀P∈(iG Y a m).map (QQ (cK Y a)),Sz 300 P:=by
 obtain⟨c,d,g⟩:=wZ Y a m;have z:∀P∈(iG Y a m).map (QQ<|cK Y a),Sz 300 P:=λP b=>by obtain⟨Q,e,rfl⟩:=aAo.mp b;exact VC (c Q e) (EK _)
 refine⟨⟨⟨λP b=>(z P b).mono,by rw[aAj];lia⟩,AW d,aAw (oO _) (by rw[aAj];lia)⟩,z⟩
def nM:List D->R D:=JO λY=>lV λa=>lV λm=>fM (EM (kH 1048576 Y/\(0<=a/\a<=50)/\0<=m/\m<=4)<|.lst ((rT Y a m.toNat).map vd))
def NJ {Y:List D}{a m:Int}(b:kH 1048576 Y)(h0:0<=a/\a<=50)(c:0<=m/\m<=4):nM [.lst Y,.int a,.int m]=.ok (.lst ((rT Y a m.toNat).map vd)):=M4 ⟨b,h0,c⟩
def YE:Int:=10^60
def T59:Int:=10^59
def qw:Int:=T59+51
def xk:Int:=2*YE+1
def ay (c:Int):Int:=if c.fmod 3=1 then(c.fdiv 3*qw).fmod xk-YE else(c.fdiv 3).fmod 41-20
def WH (c:Int):Int:=if ay c=0 then-1 else ay c
def FA:List D->R D:=lV λc=>fM (EM (bits c<=3000000)<|.int (WH c))
def DX {c:Int}(h:bits c<=3000000):FA [.int c]=.ok (.int (WH c)):=M4 h
def CL (c:Int):WH c≠0/\bits (WH c)<=250:=by
 unfold WH;split
 .exact⟨by decide,by decide⟩
 .rename_i h;refine⟨h,?_⟩;unfold ay;split
  .exact i6 (bits_sub (n:=210) (bits_fmod (by decide) (by decide)) (by decide))
  .exact i6 (bits_sub (n:=10) (bits_fmod (by decide) (by decide)) (by decide))
def kC:List D->R D:=UY λl=>fM (EM (l≠[]/\(∀P∈l,Sz 1000 P)/\l.length<=1000)<|.bl true)
def EC {l:List G.V}(a:l≠[])(b:∀P∈l,Sz 1000 P)(c:l.length<=1000):kC [.lst (l.map vd)]=.ok (.bl true):=(bD _ l []).trans (M4 ⟨a,b,c⟩)
def jO:List D->R D
 |[.lst Y]=>open Classical in if Y.length<=63/\kH 1048576 Y then .ok (.bl true)else .bad
 |_=>.bad
def FB (L:List G.V)(n:Nat):Prop:=(∀P∈L,Sz n P)/\G.j5 L/\L.length<=14/\w8 L=L/\d9 L=L
def vD {L:List G.V}{n k:Nat}{t:Int}(d:t≠0)(c:bits t<=k)(h:FB L n)(g:n+k<=900:=by decide):lH [.lst (L.map vd),.int t]=.ok (.lst ((d9 (L.map (G.J8 t))).map vd))/\aR [.lst (L.map vd),.int t]=.ok (.lst ((d9 (L.map (G.J8 t))).map vd))/\FB (d9 (L.map (G.J8 t))) (n+k):=by
 obtain⟨b,j,m,y,o⟩:=h;have z:∀P∈L.map (G.J8 t),Sz (n+k) P:=λP a=>by obtain⟨Q,A,rfl⟩:=aAo.mp a;have:=b Q A;exact⟨j9 (bits_mul c this.1) (by lia),j9 (bits_mul c this.2.1) (by lia),j9 (bits_mul c this.2.2) (by lia)⟩
 have i:T1 900 (L.map<|G.J8 t):=⟨λP a=>⟨j9 (z P a).1 g,j9 (z P a).2.1 g,j9 (z P a).2.2 g⟩,by rw[aAj];lia⟩;have p:G.j5 (L.map<|G.J8 t):=G.sN d (λX B=>aAX B) j;have q:(d9<|L.map<|G.J8 t).length<=14:=aAw (oO _) (by rw[aAj];exact m);have r:∀P∈L,Sz 1000 P:=λP a=>⟨j9 (b P a).1 (by lia),j9 (b P a).2.1 (by lia),j9 (b P a).2.2 (by lia)⟩;have C:T1 900 L:=⟨λP a=>⟨j9 (b P a).1 (by lia),j9 (b P a).2.1 (by lia),j9 (b P a).2.2 (by lia)⟩,by lia⟩;have e:=HY d C j (by rw[o];exact m) y i;obtain⟨s,E,u,v,w,_⟩:=sG i p q;rw[e]at s E u v w;have x:bits t<=1000:=j9 c (by lia);have f:=TW (l:=L) (k:=t) ⟨r,x,by lia,i,p,q⟩;rw[e]at f;refine⟨f,BY d r x (by lia) (by rw[<-o];exact U1 _),λP a=>z P (k8.mp a),s,v,w,u⟩
def LZ {L:List G.V}{t u:Int}:d9 ((d9 (L.map (G.J8 t))).map (G.J8 u))=d9 (L.map (G.J8 (t*u))):=by
 refine R0 (t9 _) (t9 _) λY=>?_;have e:∀X:G.V,G.J8 u (G.J8 t X)=G.J8 (t*u) X:=λX=>by apply G.ext<;>simp[G.J8]<;>grind
 rw[k8,k8,aAo,aAo];constructor
 .rintro⟨Z,b,rfl⟩;obtain⟨X,a,rfl⟩:=aAo.mp (k8.mp b);exact⟨X,a,(e X).symm⟩
 .rintro⟨X,a,rfl⟩;exact⟨_,k8.mpr (aAX a),e X⟩
def QR {L:List G.V}(h:d9 L=L):d9 (L.map (G.J8 1))=L:=by
 have e:L.map (G.J8 1)=L:=by refine(aEv λX _=>?_).trans (List.map_id L);apply G.ext<;>simp[G.J8]
 rw[e,h]
def PR (Y:List D)(a:Int){m:Nat}(e:m<=4):FB (rT Y a m) 300:=by obtain⟨⟨b,c,d⟩,f⟩:=YF Y a e;obtain⟨g,l,h,i,j,_⟩:=sG b c d;exact⟨λP k=>f P (qA b c d k),g,i,j,h⟩
end M
namespace K51
open PySem L2 DL M
def top (i:Nat):dm:=PySem.Challenge.pw_stakebodies_k51_folds.main.body.getD i (.Pass ⟨0,0,0,0⟩)
abbrev Z1:dm:=top 11
abbrev rL:List Str:=["P", "Q"]
def nT:FnScope rL ["P", "Q"] (c6 Z1):=G4
abbrev vK:dm:=top 12
abbrev WT:List Str:=["u", "k"]
def NV:FnScope WT ["u", "k"] (c6 vK):=G4
abbrev gF:dm:=top 13
abbrev DA:List Str:=["u", "v"]
def yE:FnScope DA ["u", "v"] (c6 gF):=G4
abbrev bR:dm:=top 14
abbrev vE:List Str:=["u", "v"]
def qW:FnScope vE ["u", "v"] (c6 bR):=G4
abbrev O9:dm:=top 15
abbrev jU:List Str:=["numbers", "divisor", "number", "rest", "further"]
def iK:FnScope jU ["numbers"] (c6 O9):=G4
abbrev R8:dm:=top 16
abbrev mT:List Str:=["P", "Q", "R", "cross", "divisor", "upright"]
def jY:FnScope mT ["P", "Q", "R"] (c6 R8):=G4
abbrev kP:dm:=top 17
abbrev JG:List Str:=["plane", "P", "height"]
def CM:FnScope JG ["plane", "P"] (c6 kP):=G4
abbrev O6:dm:=top 20
abbrev kO:List Str:=["ways", "way"]
def jE:FnScope kO ["ways"] (c6 O6):=G4
abbrev z7:dm:=top 21
abbrev M7:List Str:=["points", "ways", "along", "upright"]
def R9:FnScope M7 ["points"] (c6 z7):=G4
abbrev Q5:dm:=top 22
abbrev rG:List Str:=["points"]
def V2:FnScope rG ["points"] (c6 Q5):=G4
abbrev X7:dm:=top 23
abbrev lU:List Str:=["plane", "points"]
def wE:FnScope lU ["plane", "points"] (c6 X7):=G4
abbrev Z7:dm:=top 24
abbrev rD:List Str:=["pair", "points", "along", "upright", "outermost", "P", "way"]
def nZ:FnScope rD ["pair", "points"] (c6 Z7):=G4
abbrev aZ:dm:=top 25
abbrev xB:List Str:=["points", "least", "upward", "touched"]
def rB:FnScope xB ["points"] (c6 aZ):=G4
abbrev kW:dm:=top 26
abbrev JW:List Str:=["upright", "P", "Q", "R"]
def BV:FnScope JW ["upright", "P", "Q", "R"] (c6 kW):=G4
abbrev bQ:dm:=top 27
abbrev wB:List Str:=["upright", "points", "chain", "P"]
def rM:FnScope wB ["upright", "points"] (c6 bQ):=G4
abbrev kD:dm:=top 28
abbrev IQ:List Str:=["upright", "points", "there", "back"]
def DU:FnScope IQ ["upright", "points"] (c6 kD):=G4
abbrev Z4:dm:=top 29
abbrev qS:List Str:=["ring"]
def oJ:FnScope qS ["ring"] (c6 Z4):=G4
abbrev bC:dm:=top 30
abbrev uQ:List Str:=["first", "about", "touched_by", "faces", "walked", "waiting", "pair", "plane", "ring", "step"]
def fL:FnScope uQ ["first", "about", "touched_by"] (c6 bC):=G4
abbrev G7:dm:=top 31
abbrev gJ:List Str:=["points", "spread", "about", "touched_by"]
def Y3:FnScope gJ ["points"] (c6 G7):=G4
abbrev bK:dm:=top 32
abbrev vO:List Str:=["faces", "corners", "plane", "ring"]
def rF:FnScope vO ["faces"] (c6 bK):=G4
abbrev fD:dm:=top 33
abbrev IT:List Str:=["points"]
def fV:FnScope IT ["points"] (c6 fD):=G4
abbrev M3:dm:=top 35
abbrev cR:List Str:=["land", "k"]
def bO:FnScope cR ["land", "k"] (c6 M3):=G4
abbrev cD:dm:=top 37
abbrev yY:List Str:=["script", "k"]
def wS:FnScope yY ["script", "k"] (c6 cD):=G4
abbrev bV:dm:=top 38
abbrev uT:List Str:=["thing"]
def rC:FnScope uT ["thing"] (c6 bV):=G4
abbrev gZ:dm:=top 39
abbrev BI:List Str:=["u", "v"]
def zB:FnScope BI ["u", "v"] (c6 gZ):=G4
abbrev bI:dm:=top 40
abbrev vJ:List Str:=["p", "q", "r", "a", "b", "c", "d", "e", "f"]
def qU:FnScope vJ ["p", "q", "r"] (c6 bI):=G4
abbrev V5:dm:=top 41
abbrev pI:List Str:=["one", "other"]
def mJ:FnScope pI ["one", "other"] (c6 V5):=G4
abbrev Q4:dm:=top 42
abbrev fG:List Str:=["points", "found", "i", "j", "k", "n", "g", "hand", "way", "far", "plane"]
def oN:FnScope fG ["points"] (c6 Q4):=G4
abbrev X6:dm:=top 43
abbrev lS:List Str:=["points", "some", "planes"]
def wM:FnScope lS ["points"] (c6 X6):=G4
abbrev gR:dm:=top 44
abbrev BS:List Str:=["p", "slants", "far", "x", "y", "z"]
def AK:FnScope BS ["p", "slants", "far"] (c6 gR):=G4
abbrev R3:dm:=top 45
abbrev cV:List Str:=["script", "start", "more", "shape", "points", "k", "cell", "slants", "far"]
def uX:FnScope cV ["script", "start", "more"] (c6 R3):=G4
abbrev bX:dm:=top 46
abbrev wD:List Str:=["cell"]
def qY:FnScope wD ["cell"] (c6 bX):=G4
abbrev Q0:dm:=top 47
abbrev fN:List Str:=["land", "k"]
def pQ:FnScope fN ["land", "k"] (c6 Q0):=G4
abbrev X9:dm:=top 48
abbrev mE:List Str:=["found", "due", "p"]
def wN:FnScope mE ["found", "due"] (c6 X9):=G4
abbrev cE:dm:=top 49
abbrev zP:List Str:=["land", "some", "plain", "e"]
def wK:FnScope zP ["land"] (c6 cE):=G4
abbrev iJ:dm:=top 50
abbrev uw:List Str:=["script", "land", "one", "other", "handed", "k", "found"]
def RP:FnScope uw ["script"] (c6 iJ):=G4
def dN:dm:=(o6 G7).getD 2 (.Pass ⟨0,0,0,0⟩)
abbrev FI:Str:= "faces_of.<locals>.about"
def J9:dm:=(o6 G7).getD 3 (.Pass ⟨0,0,0,0⟩)
abbrev jG:Str:= "faces_of.<locals>.touched_by"
def tbK:List (Pos×Str):=[(EO dN,FI),(EO J9,jG)]
section
variable [Tabs]
variable{P:bu} {w:cp} {K:ka} {mg:Y1} {base:cq}
variable{ag ah ae df dg dh dn fm bp:bc}
def o7 (g:aN K mg "way_between" Z1):v7 P w K mg base 1 "way_between" 2 v8:=by
 refine' m9 (k:=0) (F:=_) g nT (λf i j l=>?b) λe d m h=>?_
 case b=>refine' (d8<|j1<|BX (c7 q8 (PD.pb<|i5 (b9 1) c9)<|PD.pb<|i5 (b9 0) c9) (c7 q8 (PD.pb<|i5 (b9 1) c9)<|PD.pb<|i5 (b9 0) c9)<|c7 q8 (PD.pb<|i5 (b9 1) c9)<|PD.pb<|i5 (b9 0) c9)
 replace h:=F8 h;obtain⟨a,b,c,e,rfl,h⟩:=h;replace h:=F8 h;obtain⟨n,o,p,e,rfl,h⟩:=h;replace h:=v5 h;obtain⟨rfl,h⟩:=h;exact h
def iU (g:aN K mg "times" vK):v7 P w K mg base 1 "times" 2 iW:=by
 refine' m9 (k:=0) (F:=_) g NV (λp q r s=>?b) λf d t h=>?_
 case b=>refine' (d8<|j1<|BX (c7 k9 (PD.pb<|i5 (b9 0) c9)<|b9 1) (c7 k9 (PD.pb<|i5 (b9 0) c9)<|b9 1)<|c7 k9 (PD.pb<|i5 (b9 0) c9)<|b9 1)
 replace h:=F8 h;obtain⟨a,b,c,f,rfl,h⟩:=h;replace h:=C1 h;obtain⟨k,f,rfl,h⟩:=h;replace h:=v5 h;obtain⟨rfl,h⟩:=h;replace h:=V0 h;obtain⟨⟨⟨i,j,l⟩,e⟩,rfl⟩:=h;have m:=aEe k a;have n:=aEe k b;have o:=aEe k c;simp[j0,GC,GP,FU,i7 (l8.of i e),i7 (l8.of j e),i7 (l8.of l e),vd,G.J8,dH,sizeLine,m,n,o]
def D4 (g:aN K mg "cross_of" gF):v7 P w K mg base 1 "cross_of" 2 D9:=by
 refine' m9 (k:=0) (F:=_) g yE (λp q r s=>?b) λe d t h=>?_
 case b=>refine' (d8<|j1<|BX (c7 q8 (PD.pb<|c7 k9 (PD.pb<|i5 (b9 0) c9)<|PD.pb<|i5 (b9 1) c9)<|PD.pb<|c7 k9 (PD.pb<|i5 (b9 0) c9)<|PD.pb<|i5 (b9 1) c9) (c7 q8 (PD.pb<|c7 k9 (PD.pb<|i5 (b9 0) c9)<|PD.pb<|i5 (b9 1) c9)<|PD.pb<|c7 k9 (PD.pb<|i5 (b9 0) c9)<|PD.pb<|i5 (b9 1) c9)<|c7 q8 (PD.pb<|c7 k9 (PD.pb<|i5 (b9 0) c9)<|PD.pb<|i5 (b9 1) c9)<|PD.pb<|c7 k9 (PD.pb<|i5 (b9 0) c9)<|PD.pb<|i5 (b9 1) c9)
 replace h:=F8 h;obtain⟨a,b,c,e,rfl,h⟩:=h;replace h:=F8 h;obtain⟨u,v,x,e,rfl,h⟩:=h;replace h:=v5 h;obtain⟨rfl,h⟩:=h;split at h
 .rename_i o;obtain⟨⟨f,i,j⟩,l,m,n⟩:=o;rw[<-h];simp[j0,i7 (l8.of i n),i7 (l8.of j m),i7 (l8.of j l),i7 (l8.of f n),i7 (l8.of f m),i7 (l8.of i l)]
 .cases h
def x9 (g:aN K mg "product_of" bR):v7 P w K mg base 1 "product_of" 2 l5:=by
 refine' m9 (k:=0) (F:=_) g qW (λp q r s=>?b) λe d u h=>?_
 case b=>refine' (d8<|j1<|c7 x8 (PD.pb<|c7 x8 (PD.pb<|c7 k9 (PD.pb<|i5 (b9 0) c9)<|PD.pb<|i5 (b9 1) c9)<|PD.pb<|c7 k9 (PD.pb<|i5 (b9 0) c9)<|PD.pb<|i5 (b9 1) c9)<|PD.pb<|c7 k9 (PD.pb<|i5 (b9 0) c9)<|PD.pb<|i5 (b9 1) c9)
 replace h:=YI h;obtain⟨a,b,c,t,e,rfl,h⟩:=h;replace h:=F8 h;obtain⟨v,x,y,e,rfl,h⟩:=h;replace h:=v5 h;obtain⟨rfl,h⟩:=h;split at h
 .rename_i f;obtain⟨⟨i,j,l⟩,m,n,o⟩:=f;rw[<-h];simp[j0,GC,GP,FU,i7 (l8.of i m),i7 (l8.of j n),i7 (l8.of l o)]
 .cases h
def P7 (I:mg "abs"=none)(g:aN K mg "common_divisor" O9):v7 P w K mg base 1 "common_divisor" 1 J4:=by
 refine' m9 (k:=0) (F:=_) g iK (λJ u L i=>?b) λt d N h=>?_
 case b=>
  refine' (c5 (i9 1 c9 i)
   (c5 (J3 aAZ rfl (GA<|c8 0) (u6 2 i) (c5 (i9 3 (QH LS<|b9 2) i)
   (d8 (eZ (XA 3) aAZ (l6 (mG u) (b9 3) A2) (c5 (i9 4 (c7 B5 (b9 1)<|b9 3) i)
   (c5 (i9 1 (c8 3) i)
   (d8<|i9 3 (c8 4) i)))))))
   (d8<|j1<|c8 1)))
 replace h:=F8 h;obtain⟨a,b,c,t,rfl,h⟩:=h;replace h:=v5 h;obtain⟨rfl,h⟩:=h;rw[<-h];simp only[j0,aAt,aCe,aAI,aBA];simp only[z8,C6,R.aa0,HW,C3,aAu,aAY,aCC,aCD,aBv,aBw,aAA,aAx];refine pL (λrest ρ=>∃(g:Nat) (n r f:Sl),ρ=[.v (.tup [.int a,.int b,.int c]),.v (.int g),n,r,f]/\∃e:List Int,rest=e.map D.int/\e.foldl (λg n=>Nat.gcd g n.natAbs) g=G.n6 ⟨a,b,c⟩) ?_ ⟨0,_,_,_,rfl,[a,b,c],rfl,by simp[G.n6]⟩ ?_
 .rintro d t ρ ⟨g,n,r,f,rfl,e,l,j⟩;match e,l,j with
  |x::e,l,j=>
   injection l with y A;subst y A;simp only[D8,aAA,aAx,l7,p5,K0,G8,R.aa0,bz,C3];have B:(if x<0 then-x else x)=(x.natAbs:Int):=by split<;>lia
   rw[B];refine xT (λm ρ=>∃(p q:Nat) (f:Sl),ρ=[.v (.tup [.int a,.int b,.int c]),.v (.int p),.v (.int x),.v (.int q),f]/\q<m/\Nat.gcd p q=Nat.gcd g x.natAbs) ?_ (by rintro ρ ⟨p,q,f,_,h,_⟩;lia) ⟨g,x.natAbs,f,rfl,by show x.natAbs<((x.natAbs:Int).natAbs)+2;lia,rfl⟩ ?_
   .rintro m ρ ⟨p,q,f,rfl,C,s⟩;by_cases o:(q:Int)=0
    .exact .inl (by simp[o])
    .have E:q≠0:=by lia
     refine .inr ⟨by simp[E],_,?_,q,p%q,Sl.v (.int ((p%q:Nat):Int)),rfl,?_,?_⟩
     .have em:rA (.int (p:Int)) (.int (q:Int))=.ok (.int ((p%q:Nat):Int)):=by rw[pF o,Int.fmod_eq_emod_of_nonneg _ (by lia)];rfl
      simp[em]
     .have:=aFd p (show 0<q by lia)
      lia
     .rw[Nat.gcd_comm,<-Nat.gcd_rec,Nat.gcd_comm];exact s
   .rintro m ρ ⟨p,q,f,rfl,C,s⟩ H;have o:q=0:=by
     by_cases z:q=0
     .exact z
     .simp[z]at H
    subst o;refine⟨p,_,_,_,rfl,e,rfl,?_⟩;rw[<-j,aEx,<-s,Nat.gcd_zero_right]
 .rintro ρ ⟨g,n,r,f,rfl,e,l,j⟩;have:e=[]:=by simpa using l.symm
  subst this;simp at j;simp[j]
def S6 (D4:v7 P w K mg base 1 "cross_of" 2 D9)(o7:v7 P w K mg base 1 "way_between" 2 v8)(P7:v7 P w K mg base 1 "common_divisor" 1 J4)(x9:v7 P w K mg base 1 "product_of" 2 l5)(g:aN K mg "plane_through" R8):v7 P w K mg base 2 "plane_through" 3 S7:=by
 refine' m9 (k:=1) (F:=_) g jY (λl Y gu s=>?b) λA d hl h=>?_
 case b=>
  refine' (c5 (i9 3 (Z5 D4 l (Z5 o7 l (c8 0)<|c8 1)<|Z5 o7 l (c8 0)<|c8 2) s)
   (c5 (i9 4 (zF P7 l<|c8 3) s)
   (c5 (A0 (l6 (T5 Y) (b9 4) A2) (d8 lB) p9)
   (c5 (i9 5 (BX (c7 y3 (PD.pb<|i5 (b9 3) c9)<|b9 4) (c7 y3 (PD.pb<|i5 (b9 3) c9)<|b9 4)<|c7 y3 (PD.pb<|i5 (b9 3) c9)<|b9 4) s)
   (d8<|j1<|vU<|d5 (i5 (b9 5) c9)<|d5 (i5 (b9 5) c9)<|d5 (i5 (b9 5) c9)<|d5 (Z5 x9 l (c8 5)<|c8 0) j4)))))
 replace h:=F8 h;obtain⟨a,b,c,A,rfl,h⟩:=h;replace h:=F8 h;obtain⟨d,e,f,A,rfl,h⟩:=h;replace h:=F8 h;obtain⟨g,J,i,A,rfl,h⟩:=h;replace h:=v5 h;obtain⟨rfl,h⟩:=h
 .skip
  split at h
  .rename_i hz;obtain⟨⟨p,q,r⟩,n⟩:=hz;rw[<-h];obtain⟨P,B⟩:∃P:G.V,P=⟨a,b,c⟩:=⟨_,rfl⟩;obtain⟨Q,E⟩:∃P:G.V,P=⟨d,e,f⟩:=⟨_,rfl⟩;obtain⟨j,H⟩:∃P:G.V,P=⟨g,J,i⟩:=⟨_,rfl⟩;rw[<-B]at p n;rw[<-E]at q n;rw[<-H]at r n;have vP:(.tup [.int a,.int b,.int c]:D)=vd P:=by rw[B]
   have vQ:(.tup [.int d,.int e,.int f]:D)=vd Q:=by rw[E]
   have vR:(.tup [.int g,.int J,.int i]:D)=vd j:=by rw[H]
   rw[vP,vQ,vR,<-B,<-E,<-H];have o:=(q.sub p).cr (r.sub p);have c1:=jI (u:=Q-P) (v:=j-P) (q.sub p).mono (r.sub p).mono;obtain⟨L,g1,g2⟩:=G.kR n;have m:((G.n6 (G.cr (Q-P)<|j-P):Nat):Int)≠0:=by lia
   have gb:zV ((G.n6 (G.cr (Q-P)<|j-P):Nat):Int):=⟨m,i6 (uG o)⟩;have dv:=CY (G.cr (Q-P)<|j-P);have pl:G.d4 P Q j=(G.gT (G.cr (Q-P)<|j-P) (G.n6<|G.cr (Q-P)<|j-P),G.d6 (G.gT (G.cr (Q-P)<|j-P)<|G.n6<|G.cr (Q-P)<|j-P) P):=rfl;rw[pl];generalize hC:G.cr (Q-P) (j-P)=C at*
   have sn:Sz 2003 (G.gT C<|G.n6 C):=by have N:=bits_fdiv (b:=(G.n6 C:Int)) o.1;have O:=bits_fdiv (b:=(G.n6 C:Int)) o.2.1;have T:=bits_fdiv (b:=(G.n6 C:Int)) o.2.2;rw[pZ L]at N O T;exact⟨N,O,T⟩
   have d1:∀t:Int,fF (.int t) (.int (G.n6 C:Nat))=.ok (.int (t/(G.n6 C:Nat))):=λt=>by rw[lR gb,pZ L]
   have U:=iP (u:=G.gT C (G.n6 C)) (v:=P) sn.mono p.mono;have e0:(((G.n6 C:Nat):Int)==0)=false:=by simpa using m
   simp only[G.gT]at U;have I:l5 [.tup [.int (C.x/(G.n6 C:Nat)),.int (C.y/(G.n6 C:Nat)),.int (C.z/(G.n6 C:Nat))],vd P]=_:=U;simp[j0,c1,dv,e0,d1,I,G.gT]
  .cases h
def lO (g:aN K mg "side_of" kP):v7 P w K mg base 1 "side_of" 2 aL:=by
 refine' m9 (k:=0) (F:=_) g CM (λv A B s=>?b) λq d C h=>?_
 case b=>
  refine' (c5 (i9 2 (c7 q8 (PD.pb<|c7 x8 (PD.pb<|c7 x8 (PD.pb<|c7 k9 (PD.pb<|i5 (b9 0) c9)<|PD.pb<|i5 (b9 1) c9)<|PD.pb<|c7 k9 (PD.pb<|i5 (b9 0) c9)<|PD.pb<|i5 (b9 1) c9)<|PD.pb<|c7 k9 (PD.pb<|i5 (b9 0) c9)<|PD.pb<|i5 (b9 1) c9)<|PD.pb<|i5 (b9 0) c9) s)
   (c5 (A0 (l6 xM (b9 2) A2) (d8<|j1 c9) p9)
   (c5 (A0 (l6 FX (b9 2) A2) (d8<|j1<|fS c9) p9)
   (d8<|j1 c9))))
 replace h:=XG h;obtain⟨a,b,c,d,q,rfl,h⟩:=h;replace h:=F8 h;obtain⟨x,y,z,q,rfl,h⟩:=h;replace h:=v5 h;obtain⟨rfl,h⟩:=h
 .skip
  split at h
  .rename_i u;obtain⟨⟨e,f,i⟩,j,l,m⟩:=u;rw[<-h];obtain⟨t,r⟩:∃t,a*x+b*y+c*z-d=t:=⟨_,rfl⟩;have o:DR (.int (a*x+b*y+c*z)) (.int d)=.ok (.int t):=by rw[<-r];rfl
   rw[r];unfold sgn;by_cases p:0<t
   .simp[-wJ,j0,i7 (l8.of e j),i7 (l8.of f l),i7 (l8.of i m),p,o]
   .by_cases n:t<0
    .simp[-wJ,j0,i7 (l8.of e j),i7 (l8.of f l),i7 (l8.of i m),p,n,o]
    .simp[-wJ,j0,i7 (l8.of e j),i7 (l8.of f l),i7 (l8.of i m),p,n,o]
  .cases h
def J6 (i:LH K mg "NO_WAY" [0,0,0])(g:aN K mg "first_real_way" O6):v7 P w K mg base 1 "first_real_way" 1 z6:=by
 refine' m9 (k:=0) (F:=_) g jE (λo j p l=>?b) λm d q h=>?_
 case b=>
  refine' (c5 (J3 aAZ rfl (t7<|c8 0) (u6 1 l)<|d8<|A0 (l6 (mG j) (b9 1)<|PD.pb<|vC i) (d8<|j1<|c8 1) p9)
   (d8<|j1 CN))
 match m,h with
 |[.lst Y],h=>
  simp only[z6]at h;split at h
  .rename_i e f;rw[n8 f];rw[<-h];simp[j0];generalize Sl.v (D.lst<|aDn vd e)=a;generalize Sl.no=b;clear h f;induction e generalizing b with
   |nil=>rfl
   |cons v e n=>
    rw[aAt,G.A4];by_cases c:v=0
    .rw[T8 (ρ2:=[a,.v (vd v)]) rfl (by simp[-EG,ne0,c]),n];simp[c]
    .rw[vH (x:=vd v) rfl (by simp[-EG,ne0,c])];simp[c,CT]
  .cases h
def A1 (o7:v7 P w K mg base 1 "way_between" 2 v8)(J6:v7 P w K mg base 1 "first_real_way" 1 z6)(D4:v7 P w K mg base 1 "cross_of" 2 D9)(x9:v7 P w K mg base 1 "product_of" 2 l5)(fg:mg "len"=none)(H:mg "any"=none)(g:aN K mg "dimension_of" z7):v7 P w K mg base 2 "dimension_of" 1 p8:=by
 refine' m9 (k:=1) (F:=_) g R9 (λt U gu I=>?b) λm d hl h=>?_
 case b=>
  refine' (c5 (A0 (l6 (T5 U) (PD.pb<|QH cI<|b9 0) A2) (d8 lB) p9)
   (c5 (RT 1 ["P"] ["points"] [0] I rfl (P3 (sc:=c6 z7) (N:=M7)) (t7<|c8 0) (SA λ_ _ _ _ _=>(Z5 o7 t (i5 (b9 1) c9)<|c8 0))<|λ_=>u9)
   (c5 (i9 2 (zF J6 t<|c8 1) I)
   (c5 (A0 (l6 RO (b9 2)<|PD.pb CN) (d8<|j1 c9) p9)
   (c5 (i9 3 (zF J6 t<|K7 ["way"] ["along"] [2] rfl (P3 (sc:=c6 z7) (N:=M7)) (t7<|c8 1) (SA λ_ _ _ _ _=>(Z5 D4 t (c8 1)<|c8 0))<|λ_=>u9) I)
   (c5 (A0 (l6 RO (b9 3)<|PD.pb CN) (d8<|j1 c9) p9)
   (c5 (A0 (dW<|QH (ZP rfl)<|PD.pb<|K7 ["way"] ["upright"] [3] rfl (P3 (sc:=c6 z7) (N:=M7)) (t7<|c8 1) (SA λ_ _ _ _ _=>(qB (mG U) (PD.pb<|Z5 x9 t (c8 1)<|c8 0) A2))<|λ_=>u9) (d8<|j1 c9) p9)
   (d8<|j1 c9))))))))
 match m,h with
 |[.lst Y],h=>
  simp only[p8]at h;split at h
  .rename_i J i;rw[n8 i];split at h
   .rename_i hz;rw[<-h];obtain⟨ba,B⟩:=hz;match J,ba with
    |p::n,_=>
    obtain⟨c,a⟩:∃c,(p::n).map vd=c:=⟨_,rfl⟩;have i0:W9 (.lst c) (.int 0)=.ok (vd p):=jD (by rw[cB (by decide),<-a];rfl);have C:B0 (λd ρ=>R.ok (aDW ρ 0<|Sl.v d)) (λx=>R.ok true) (λρ=>(((zG 1 ρ).bind λx=>W9 x (D.int 0)).bind λd=>((dE 0 ρ).bind λd=>R.ok [d]).bind λm=>R.ok (d::m)).bind v8) [.no,.v (.lst c)] c=.ok (((p::n).map (· -p)).map vd):=by rw[aCr];rw[show B0 _ _ _ _ c=B0 _ _ _ _ ((p::n).map vd)by rw[a]];refine eI vd _ _ λq j=>⟨[.v (vd q),Sl.v (.lst c)],rfl,?_⟩;show((W9 (.lst c)<|.int 0).bind _).bind _=_;rw[i0];rfl
    have i:∀w∈(p::n).map (· -p),Sz 1001 w:=λw i=>by obtain⟨q,j,rfl⟩:=aAo.mp i;exact(B.1 q j).sub (B.1 p (.head _))
    have E:(((p::n).map (· -p)).map vd).length<=sizeLine:=by rw[aAj,aAj];exact small B.2
    have A8:c.length<=sizeLine:=by rw[<-a,aAj];exact small B.2
    have e:((c.length:Int)==0)=false:=by rw[<-a];simp;lia
    have r:=DN ((p::n).map (· -p));unfold G.K9;dsimp only;rw[a];generalize(p::n).map (· -p)=W at*
    have l:=λu=>DN (W.map<|G.cr u);cases L:G.A4 W with
    |none=>rw[L]at r;simp[j0,j6,A8,e,C,r,CT,OE]
    |some o=>
     rw[L]at r;obtain⟨hm,_⟩:=G.u0 L;have y:=i o hm;have z:B0 (λd ρ=>R.ok (aDW ρ 0<|Sl.v d)) (λx=>R.ok true) (λρ=>((dE 1 ρ).bind λd=>((dE 0 ρ).bind λd=>R.ok [d]).bind λm=>R.ok (d::m)).bind D9) [.no,.v (vd o)] (W.map vd)=.ok ((W.map<|G.cr o).map vd):=by rw[aCr];refine eI vd _ _ λq j=>⟨[.v (vd q),Sl.v (vd o)],rfl,?_⟩;show D9 [vd o,vd q]=_;exact jI y.mono (i q j).mono
     have l:=DN (W.map<|G.cr o);have eW:(W.map vd).length=W.length:=aAj ..;rw[eW]at E;cases A:G.A4 (W.map<|G.cr o)with
     |none=>rw[A]at l;simp only[aCr]at z l;simp only[A];simp[j0,j6,A8,e,C,r,CT,OE,E,z,l]
     |some f=>
      rw[A]at l;obtain⟨mr,_⟩:=G.u0 A;have O:Sz 2003 f:=by obtain⟨q,j,rfl⟩:=aAo.mp mr;exact(y.cr<|i q j).mono
      have Q:B0 (λd ρ=>R.ok (aDW ρ 0<|Sl.v d)) (λx=>R.ok true) (λρ=>(((dE 1 ρ).bind λd=>((dE 0 ρ).bind λd=>R.ok [d]).bind λm=>R.ok (d::m)).bind l5).bind λx=>QE x (D.int 0)) [.no,.v (vd f)] (W.map vd)=.ok ((W.map λw=>decide (G.d6 f w≠0)).map D.bl):=by rw[aCr];refine eI vd _ _ λq j=>⟨[.v (vd q),Sl.v (vd f)],rfl,?_⟩;show(l5 [vd f,vd q]).bind _=_;rw[iP O.mono (i q j).mono,R.aa0,ZY];congr 2;rw[aDR];simp
      have s:=ZL (W.map λw=>decide (G.d6 f w≠0));have T:(W.map λw=>decide (G.d6 f w≠0)).any id=W.any λw=>decide (G.d6 f w≠0):=by rw[List.any_map];rfl
      rw[T]at s;simp only[aCr]at z l Q s;simp only[A];generalize(λw=>decide (G.d6 f w≠0))=Bf at*
      cases hc:W.any Bf with
      |false=>rw[hc]at s;simp[j0,j6,A8,e,C,r,CT,OE,E,z,l,Q,s]
      |true=>rw[hc]at s;simp[j0,j6,A8,e,C,r,CT,OE,E,z,l,Q,s]
   .cases h
  .cases h
def S5 (n:mg "len"=none)(b:XCls K mg ag "NoPoints" ae)(g:aN K mg "dimension_of" z7):bZ P w K mg base 2 "dimension_of" 1 (sW ae):=by
 obtain⟨f,o,e,c⟩:=g;refine' jP (k:=1) (G:=_) c R9 (c.binds λ_ _ _ _ _ _ i d=>match i,d with|[_],_=>rfl) e (λT A a s H E j=>?hb) ?hm
 case hb=>have l:=j.units;have p:=R9.nd;refine' (Q8<|YO (l6 (T5 l) (PD.pb<|QH cI<|b9 0) A2) (Q8<|yQ U5 rfl b.ex PySem.F.excBase_ValueError b.nm<|d5 OK j4) tT)
 case hm=>
  intro m C d h;match m,h with
  |[.lst []],h=>rw[<-h];simp[j0,ifX,sW]
def Z0 (A1:v7 P w K mg base 2 "dimension_of" 1 p8)(g:aN K mg "refuse_flat" Q5):v7 P w K mg base 3 "refuse_flat" 1 B4:=by
 refine' m9 (k:=2) (F:=_) g V2 (λc n o p=>?b) λf d q h=>?_
 case b=>refine' (d8<|A0 (l6 FX (PD.pb<|zF A1 c<|c8 0) A2) (d8 lB) p9)
 match f,h with
 |[.lst Y],h=>
  simp only[B4]at h;split at h
  .rename_i J i;rw[n8 i];split at h
   .rename_i j;rw[<-h];obtain⟨l,a⟩:=j;have m:J≠[]:=λe=>by subst e;cases a
    have e:=LP m l;rw[a]at e;simp[j0,e]
   .cases h
  .cases h
def W6 (A1:v7 P w K mg base 2 "dimension_of" 1 p8)(S5:bZ P w K mg base 2 "dimension_of" 1 (sW ae))(c:XCls K mg ag "Flat" ah)(g:aN K mg "refuse_flat" Q5):bZ P w K mg base 3 "refuse_flat" 1 (S9 ah ae):=by
 obtain⟨f,r,l,d⟩:=g;refine' jP (k:=2) (G:=_) d V2 (d.binds λ_ _ _ _ _ _ m i=>match m,i with|[_],_=>rfl) l (λT A a s H E b=>?hb) ?hm
 case hb=>have t:=b.units;have u:=V2.nd;refine' (ZH (Q8 (cj (nJ U5 S5 (b.mono (by decide)) (d5 (c8 0) j4)<|l9 B1)))<|Q8<|YO (l6 FX (PD.pb<|zF A1 b<|c8 0) A2) (Q8<|yQ U5 rfl c.ex PySem.F.excBase_ValueError c.nm<|d5 OK j4) tT)
 case hm=>
  intro n C i h;match n,h with
  |[.lst Y],h=>
   rcases JY h with⟨rfl,rfl⟩|⟨J,rfl,j,o,p,rfl⟩
   .simp[j0,mX,sW]
   .have e:=yz o j;have lt:=aq p;have lt':((G.K9 J:Nat):Int)<3:=by lia
    have q:sW ae [.lst (J.map vd)]=none:=by
     match J,j with
     |P::J,_=>rfl
    generalize((G.K9 J:Nat):Int)=v at*
    generalize J.map vd=L at*
    simp[j0,mX,q,e,lt',ifX]
def G5 (lO:v7 P w K mg base 1 "side_of" 2 aL)(g:aN K mg "points_on" X7):v7 P w K mg base 2 "points_on" 2 y9:=by
 refine' m9 (k:=1) (F:=_) g wE (λj l o p=>?b) λf d q h=>?_
 case b=>refine' (d8<|j1<|K7 ["P"] ["plane"] [0] rfl (P3 (sc:=c6 X7) (N:=lU)) (t7<|c8 1) (hxt λ_ _ _ _ _=>⟨(l6 (T5 l) (PD.pb<|Z5 lO j (c8 1)<|c8 0) A2),(c8 0)⟩)<|λ_=>u9)
 replace h:=XG h;obtain⟨a,b,c,d,f,rfl,h⟩:=h;replace h:=gP h;obtain⟨Y,f,rfl,h⟩:=h;replace h:=v5 h;obtain⟨rfl,h⟩:=h
 .skip
  split at h
  .rename_i J m;rw[n8 m];split at h
   .rename_i i;rw[<-h];have e:=aJ vd (G:=λd ρ=>R.ok (aDW ρ 0<|Sl.v d)) (ft:=λρ=>((((dE 1 ρ).bind λd=>((dE 0 ρ).bind λd=>R.ok [d]).bind λf=>R.ok (d::f)).bind aL).bind λx=>GW x (D.int 0)).bind lC) (fe:=dE 0) (ρ:=[.no,.v (.tup [D.int a,D.int b,D.int c,D.int d])])
     (λX=>decide (G.d6 ⟨a,b,c⟩ X=d)) vd J λP n=>⟨[.v (vd P),Sl.v (D.tup [D.int a,D.int b,D.int c,D.int d])],rfl,by simp[TL i.1.mono (i.2.1 P n).mono,a3d,G.d6];exact decide_eq_decide.mpr (by lia),λ_=>rfl⟩
    simp[j0,j6,small i.2.2,e];rfl
   .cases h
  .cases h
def K1 (o7:v7 P w K mg base 1 "way_between" 2 v8)(x9:v7 P w K mg base 1 "product_of" 2 l5)(D4:v7 P w K mg base 1 "cross_of" 2 D9)(S6:v7 P w K mg base 2 "plane_through" 3 S7)(T:LH K mg "NO_WAY" [0,0,0])(g:aN K mg "plane_about" Z7):v7 P w K mg base 3 "plane_about" 2 F4:=by
 refine' m9 (k:=2) (F:=_) g nZ (λr hu gu p=>?b) λI d hl h=>?_
 case b=>
  refine' (c5 (i9 2 (Z5 o7 r (i5 (b9 0) c9)<|i5 (b9 0) c9) p)
   (c5 (i9 3 (vC T) p)
   (c5 (i9 4 (i5 (b9 0) c9) p)
   (c5 (J3 aAZ rfl (t7<|c8 1) (u6 5 p) (c5 (i9 6 (Z5 o7 r (i5 (b9 0) c9)<|c8 5) p)
   (d8 (A0 (GJ.pt<|uU (l6 (T5 hu) (b9 3)<|PD.pb<|vC T)<|nA<|l6 xM (PD.pb<|Z5 x9 r (c8 3)<|c8 6) A2) (c5 (i9 3 (Z5 D4 r (c8 2)<|c8 6) p)
   (d8<|i9 4 (c8 5) p)) p9))))
   (d8<|j1<|pc3 S6 r (i5 (b9 0) c9) (i5 (b9 0) c9)<|c8 4)))))
 replace h:=vI h;obtain⟨U,I,rfl,h⟩:=h;replace h:=gP h;obtain⟨Y,I,rfl,h⟩:=h;replace h:=v5 h;obtain⟨rfl,h⟩:=h;replace h:=F8 h;obtain⟨a,b,c,U,rfl,h⟩:=h;replace h:=F8 h;obtain⟨d,e,f,U,rfl,h⟩:=h;replace h:=v5 h;obtain⟨rfl,h⟩:=h
 .skip
  split at h
  .rename_i J hw;rw[n8 hw];split at h
   .rename_i hz;rw[<-h];obtain⟨q,E,hs,L⟩:=hz;have vA:(.tup [.int a,.int b,.int c]:D)=vd ⟨a,b,c⟩:=rfl;have vB:(.tup [.int d,.int e,.int f]:D)=vd ⟨d,e,f⟩:=rfl;rw[vA,vB];generalize(⟨a,b,c⟩:G.V)=A at*
    generalize(⟨d,e,f⟩:G.V)=B at*
    simp[j0];have z0:(.tup [.int 0,.int 0,.int 0]:D)=vd 0:=rfl;rw[z0];refine pL (λrest ρ=>∃(j i:G.V) (l:List G.V) (x y:Sl),ρ=[.v (.tup [vd A,vd B]),.v (.lst (aDn vd J)),.v (vd<|B-A),.v (vd j),.v (vd i),x,y]/\rest=l.map vd/\Sz 2003 j/\Sz 1000 i/\(∀X∈l,Sz 1000 X)/\G.G0 (B-A) A l j i=G.G0 (B-A) A J 0 A) ?_ ⟨0,A,J,_,_,rfl,rfl,⟨by decide,by decide,by decide⟩,q,hs.1,rfl⟩ ?_
    .rintro d I ρ ⟨j,i,l,x,y,rfl,s,N,O,t,m⟩;match l,s with
     |P::l,s=>
      injection s with e3 e4;subst e3 e4;have Q:=t P (.head _);have H:=Q.sub q;have e0:=eq0 j;rw[show(.tup [.int 0,.int 0,.int 0]:D)=vd 0 from rfl]at e0;have c1:=jI (u:=B-A) (v:=P-A) (E.sub q).mono H.mono;have p1:=iP (u:=j) (v:=P-A) N.mono H.mono;have w1:=bx A P;have i0:W9 (.tup [vd A,vd B]) (.int 0)=.ok (vd A):=rfl
      conv at m=>lhs;unfold G.G0
      simp only[D8,aAA,aAx,K0,G8,C9,z8,R.aa0,i0,w1,C3,e0,FZ,p1,vT];by_cases n:j=0
      .rw[ji (.inl n)]at m;refine⟨_,?_,G.cr (B-A) (P-A),P,l,.v (vd P),.v (vd<|P-A),rfl,rfl,(((E.sub q).cr H).mono),Q,λX C=>t X (.tail _ C),m⟩;rw[decide_eq_true n];simp only[if_true,R.aa0,c1,C3,aAA,aAx,C9,z8]
      .rw[decide_eq_false n];by_cases o:0<G.d6 j (P-A)
       .rw[ji (.inr o)]at m;refine⟨_,?_,G.cr (B-A) (P-A),P,l,.v (vd P),.v (vd<|P-A),rfl,rfl,(((E.sub q).cr H).mono),Q,λX C=>t X (.tail _ C),m⟩;rw[decide_eq_true o];simp only[if_true,aAn,if_false,R.aa0,c1,C3,aAA,aAx,C9,z8]
       .rw[jn (λz=>z.elim n o)]at m;refine⟨_,?_,j,i,l,.v (vd P),.v (vd<|P-A),rfl,rfl,N,O,λX C=>t X (.tail _ C),m⟩;rw[decide_eq_false o];simp only[aAn,if_false,R.aa0]
    .rintro ρ ⟨j,i,l,x,y,rfl,s,N,O,t,m⟩;have:l=[]:=by simpa using s.symm
     subst this;have m:(j,i)=G.G0 (B-A) A J 0 A:=m;have eo:(G.G0 (B-A) A J 0 A).2=i:=by rw[<-m]
     unfold G.b8 at L⊢;rw[eo]at L⊢;have pl:=OA ⟨q,E,O⟩ (UV L);simp[pl]
   .cases h
  .cases h
def bT (G5:v7 P w K mg base 2 "points_on" 2 y9)(K1:v7 P w K mg base 3 "plane_about" 2 F4)(A1:v7 P w K mg base 2 "dimension_of" 1 p8)(j:mg "min"=none)(g:aN K mg "first_pair" aZ):v7 P w K mg base 8 "first_pair" 1 J7:=by
 refine' m9 (k:=7) (F:=_) g rB (λe v gu l=>?b) λz d hl h=>?_
 case b=>
  have A:=e.ad8 (by decide);refine' (c5 (i9 1 (qK (WB rfl A)<|G6 (b9 0) Q7) l)
   (c5 (i9 2 (AS (c8 1)<|BX (i5 (b9 1) c9) (i5 (b9 1) c9)<|c7 x8 (PD.pb<|i5 (b9 1) c9) A2) l)
   (c5 (i9 3 (Z5 G5 e (Z5 K1 e (c8 2)<|c8 0)<|c8 0) l)
   (c5 (A0 (l6 (T5 v) (PD.pb<|zF A1 e<|c8 3) A2) (d8<|j1<|c8 2) p9)
   (d8<|j1<|AS (i5 (b9 3) c9)<|i5 (b9 3) c9)))))
 match z,h with
 |[.lst Y],h=>
  simp only[J7]at h;split at h
  .rename_i m J B;rw[n8 B];split at h
   .rename_i a;rw[<-h];have t:=ZQ a.good.ord;have f:T1 1000 (m::J):=a.sz.mono;have i:Sz 900 m:=a.sz.1 m (.head _);obtain⟨C,E,H,I,N⟩:=G.zU a.good.solid a.good.mem a.good.least;have o:=V8 i.mono (KU i) f C;have p:=yJ i.mono (KU i) f;rw[a0i]at o;have u:=jM (d:=(G.b8 m (m+G.kk) (m::J)).2) p.mono f;obtain⟨x,y,r,c⟩:=PC E I N;have O:=MH (n:=(G.b8 m (m+G.kk) (m::J)).1) (d:=(G.b8 m (m+G.kk) (m::J)).2) f;have q:=LP (J:=G.x6 (G.b8 m (m+G.kk) (m::J)).1 (G.b8 m (m+G.kk) (m::J)).2 (m::J)) (by rw[c];simp) O;have Q:W9 (.lst ((G.x6 (G.b8 m (m+G.kk) (m::J)).1 (G.b8 m (m+G.kk) (m::J)).2 (m::J)).map vd)) (.int 0)=.ok (vd x):=jD (by rw[c];exact a0j _ _);have T:W9 (.lst ((G.x6 (G.b8 m (m+G.kk) (m::J)).1 (G.b8 m (m+G.kk) (m::J)).2 (m::J)).map vd)) (.int 1)=.ok (vd y):=jD (by rw[c];exact wz _ _ _);unfold G.f9;dsimp only;by_cases s:G.K9 (G.x6 (G.b8 m (m+G.kk) (m::J)).1 (G.b8 m (m+G.kk) (m::J)).2 (m::J))=2
    .rw[ji s];rw[s]at q;generalize(m::J).map vd=L at*
     generalize(G.x6 (G.b8 m (m+G.kk) (m::J)).1 (G.b8 m (m+G.kk) (m::J)).2 (m::J)).map vd=L2 at*
     generalize(G.b8 m (m+G.kk) (m::J)).1=U at*
     generalize(G.b8 m (m+G.kk) (m::J)).2=pm at*
     simp[j0,t,o,u,q,G.kk]
    .rw[jn s];have e0:(G.x6 (G.b8 m (m+G.kk) (m::J)).1 (G.b8 m (m+G.kk) (m::J)).2 (m::J)).getD 0 0=x:=by rw[c];rfl
     have e1:(G.x6 (G.b8 m (m+G.kk) (m::J)).1 (G.b8 m (m+G.kk) (m::J)).2 (m::J)).getD 1 0=y:=by rw[c];rfl
     rw[e0,e1];have hb:((G.K9 (G.x6 (G.b8 m (m+G.kk) (m::J)).1 (G.b8 m (m+G.kk) (m::J)).2 (m::J)):Int)==2)=false:=by rw[beq_eq_false_iff_ne];lia
     generalize(m::J).map vd=L at*
     generalize(G.x6 (G.b8 m (m+G.kk) (m::J)).1 (G.b8 m (m+G.kk) (m::J)).2 (m::J)).map vd=L2 at*
     generalize(G.K9 (G.x6 (G.b8 m (m+G.kk) (m::J)).1 (G.b8 m (m+G.kk) (m::J)).2 (m::J)):Int)=dd at*
     generalize(G.b8 m (m+G.kk) (m::J)).1=U at*
     generalize(G.b8 m (m+G.kk) (m::J)).2=pm at*
     simp[j0,t,o,u,q,hb,Q,T]
   .cases h
  .cases h
def jZ (x9:v7 P w K mg base 1 "product_of" 2 l5)(D4:v7 P w K mg base 1 "cross_of" 2 D9)(o7:v7 P w K mg base 1 "way_between" 2 v8)(g:aN K mg "turn_of" kW):v7 P w K mg base 2 "turn_of" 4 eV:=by
 refine' m9 (k:=1) (F:=_) g BV (λm A B C=>?b) λn d E h=>?_
 case b=>refine' (d8<|j1<|Z5 x9 m (c8 0)<|Z5 D4 m (Z5 o7 m (c8 1)<|c8 2)<|Z5 o7 m (c8 2)<|c8 3)
 replace h:=F8 h;obtain⟨a,b,c,n,rfl,h⟩:=h;replace h:=F8 h;obtain⟨d,e,f,n,rfl,h⟩:=h;replace h:=F8 h;obtain⟨g,o,i,n,rfl,h⟩:=h;replace h:=F8 h;obtain⟨j,k,l,n,rfl,h⟩:=h;replace h:=v5 h;obtain⟨rfl,h⟩:=h
 .skip
  split at h
  .rename_i y;obtain⟨p,q,r,s⟩:=y;rw[<-h];have t:=jI (u:=⟨g,o,i⟩-⟨d,e,f⟩) (v:=⟨j,k,l⟩-⟨g,o,i⟩) (r.sub q).mono (s.sub r).mono;have x:=iP (u:=⟨a,b,c⟩) (v:=G.cr (⟨g,o,i⟩-⟨d,e,f⟩) (⟨j,k,l⟩-⟨g,o,i⟩)) p.mono ((r.sub q).cr (s.sub r)).mono;simp only[vd,G.XC,G.XU,G.YC,G.VG,G.UO,G.TY]at t x;have z:∀a b c d e f:Int,v8 [.tup [.int a,.int b,.int c],.tup [.int d,.int e,.int f]]=.ok (.tup [.int (d-a),.int (e-b),.int (f-c)]):=λ_ _ _ _ _ _=>rfl;simp[j0,z,t,x,G.turn,G.i8]
  .cases h
def U4 (jZ:v7 P w K mg base 2 "turn_of" 4 eV)(fg:mg "len"=none)(g:aN K mg "left_chain" bQ):v7 P w K mg base 3 "left_chain" 2 T6:=by
 refine' m9 (k:=2) (F:=_) g rM (λhr hu gu T=>?b) λj d I h=>?_
 case b=>
  refine' (c5 (bW 2 (lL j4) T)
   (c5 (J3 aAZ rfl (t7<|c8 1) (u6 3 T) (c5 (eZ (λ_=>1001) aAZ (GJ.pt<|GL (l6 xM (PD.pb<|QH cI<|b9 2) A2)<|zD<|l6 zw (PD.pb<|pc4 jZ hr (c8 0) (i5 (b9 2)<|fS c9) (i5 (b9 2)<|fS c9)<|c8 3) A2)<|d8<|SO 2)
   (d8<|L4 2<|c8 3)))
   (d8<|wL 2<|j1<|c8 2)))
 replace h:=F8 h;obtain⟨a,b,c,j,rfl,h⟩:=h;replace h:=gP h;obtain⟨Y,j,rfl,h⟩:=h;replace h:=v5 h;obtain⟨rfl,h⟩:=h
 .skip
  split at h
  .rename_i J hw;rw[n8 hw];split at h
   .rename_i L;rw[<-h];obtain⟨U,hs⟩:=L;have vn:(.tup [.int a,.int b,.int c]:D)=vd ⟨a,b,c⟩:=rfl;rw[vn];generalize(⟨a,b,c⟩:G.V)=n at*
    simp[j0];refine pL (λrest ρ=>∃(c i:List G.V) (x:Sl),ρ=[.v (vd n),.v (.lst (aDn vd J)),.o (c.reverse.map vd),x]/\rest=i.map vd/\(∀X∈c,Sz 1000 X)/\(∀X∈i,Sz 1000 X)/\c.length+i.length<=1000/\i.foldl (λc P=>P::G.X5 n P c) c=G.w4 n J) ?_ ⟨[],J,_,rfl,rfl,λX l=>by(cases l),hs.1,by simpa using hs.2,rfl⟩ ?_
    .rintro d j ρ ⟨c,i,x,rfl,t,sc,N,I,u⟩;match i,t with
     |P::i,t=>
      injection t with e3 e4;subst e3 e4;have O:=N P (.head _);simp only[aAu]at I;simp only[D8,aAA,aAx];refine Exists.elim (xT (n:=1001) (ρ:=[.v (vd n),.v (.lst (aDn vd J)),.o (c.reverse.map vd),.v (vd P)]) (Post:=λρ=>∃e,ρ=[.v (vd n),.v (.lst (aDn vd J)),.o (e.reverse.map vd),.v (vd P)]/\(∀X∈e,Sz 1000 X)/\e.length<=c.length/\e=G.X5 n P c)
       (c:=QS (λρ=>((((zG 2 ρ).bind λd=>R.ok [d]).bind WO).bind λx=>gx x (D.int 1)).bind lC) λρ=>((((dE 0 ρ).bind λd=>(((zG 2 ρ).bind λx=>W9 x (D.int (-2))).bind λd=>(((zG 2 ρ).bind λx=>W9 x (D.int (-1))).bind λd=>((dE 3 ρ).bind λd=>R.ok [d]).bind λj=>R.ok (d::j)).bind λj=>R.ok (d::j)).bind λj=>R.ok (d::j)).bind eV).bind λx=>zx x (D.int 0)).bind lC) (F:=λρ=>(AZ 2 ρ).bind λz=>R.ok (Out.nx z.snd))
       (λm ρ=>∃e,ρ=[.v (vd n),.v (.lst (aDn vd J)),.o (e.reverse.map vd),.v (vd P)]/\(∀X∈e,Sz 1000 X)/\e.length<=c.length/\e.length<m/\G.X5 n P e=G.X5 n P c) ?_ (by rintro ρ ⟨e,_,_,_,h,_⟩;lia) ⟨c,rfl,sc,aAh _,by lia,rfl⟩ ?_) ?_
      .rintro m ρ ⟨e,rfl,sub,p,q,f⟩;match e,sub,p,q,f with
       |[],_,_,_,_=>exact .inl (by simp)
       |[a],_,_,_,_=>exact .inl (by simp)
       |b::a::r,sub,p,q,f=>
        have s:(b::a::r).reverse.map vd=r.reverse.map vd++[vd a,vd b]:=by simp
        have A:W9 (.lst ((b::a::r).reverse.map vd)) (.int (-1))=.ok (vd b):=jD (by rw[s];exact YQ _ _ _);have B:W9 (.lst ((b::a::r).reverse.map vd)) (.int (-2))=.ok (vd a):=jD (by rw[s];exact XT _ _ _);have C:=GH U (sub a<|.tail _ (.head _)) (sub b<|.head _) O;have E:(1:Int)<(aDn vd (b::a::r).reverse).length:=by rw[aAj,aCm];simp;lia
        by_cases Q:G.turn n a b P<=0
        .refine .inr ⟨?_,[.v (vd n),.v (.lst (aDn vd J)),.o ((a::r).reverse.map vd),.v (vd P)],?_,a::r,rfl,λX l=>sub X (.tail _ l),?_,?_,?_⟩
         .simp only[uI,K0,oG,R.aa0,uP,vT,decide_eq_true E,FZ,if_true,z8,C9,A,B,C,ED,decide_eq_true Q]
         .show(match(aDn vd (b::a::r).reverse)[(aDn vd (b::a::r).reverse).length-1]? with|some d=>_|none=>_:R (D×Ev)).bind _=_;rw[s];simp
         .simp only[aAu]at p⊢;lia
         .simp only[aAu]at q⊢;lia
         .rw[<-f]
          conv=>rhs;unfold G.X5
          rw[ji Q]
        .refine .inl ?_;simp only[uI,K0,oG,R.aa0,uP,vT,decide_eq_true E,FZ,if_true,z8,C9,A,B,C,ED,decide_eq_false Q]
      .rintro m ρ ⟨e,rfl,sub,p,q,f⟩ H;refine⟨e,rfl,sub,p,?_⟩;match e,sub,p,q,f,H with
       |[],_,_,_,f,_=>exact f
       |[a],_,_,_,f,_=>exact f
       |b::a::r,sub,p,q,f,H=>
        have s:(b::a::r).reverse.map vd=r.reverse.map vd++[vd a,vd b]:=by simp
        have A:W9 (.lst ((b::a::r).reverse.map vd)) (.int (-1))=.ok (vd b):=jD (by rw[s];exact YQ _ _ _);have B:W9 (.lst ((b::a::r).reverse.map vd)) (.int (-2))=.ok (vd a):=jD (by rw[s];exact XT _ _ _);have C:=GH U (sub a<|.tail _ (.head _)) (sub b<|.head _) O;have E:(1:Int)<(aDn vd (b::a::r).reverse).length:=by rw[aAj,aCm];simp;lia
        simp only[uI,K0,oG,R.aa0,uP,vT,decide_eq_true E,FZ,if_true,z8,C9,A,B,C,ED,MC,decide_eq_false_iff_not]at H;rw[<-f]
        conv=>rhs;unfold G.X5
        rw[jn H]
      .rintro ρ2 ⟨ew,e,rfl,sub,p,y⟩;refine⟨[.v (vd n),.v (.lst (aDn vd J)),.o ((P::e).reverse.map vd),.v (vd P)],?_,P::e,i,_,rfl,rfl,?_,λX l=>N X (.tail _ l),?_,?_⟩
       .rw[ew];have L:(aDn vd e.reverse).length<sizeLine:=by rw[aAj,aCm];exact aBN (show e.length<=1000 by lia) (by decide)
        simp only[C3,C9,z8,R.aa0];show(if(aDn vd e.reverse).length<sizeLine then _ else _)=_;rw[ji L];simp
       .intro X l;rcases aAd.mp l with rfl|l
        .exact O
        .exact sub X l
       .simp;lia
       .rw[<-u,aEx,y]
    .rintro ρ ⟨c,i,x,rfl,t,sc,N,I,u⟩;have:i=[]:=by simpa using t.symm
     subst this;have u:c=G.w4 n J:=u;subst u;simp[VD]
   .cases h
  .cases h
def kJ (U4:v7 P w K mg base 3 "left_chain" 2 T6)(y:mg "list"=none)(z:mg "reversed"=none)(g:aN K mg "ring_of" kD):v7 P w K mg base 4 "ring_of" 2 O8:=by
 refine' m9 (k:=3) (F:=_) g DU (λi A B j=>?b) λm d C h=>?_
 case b=>
  refine' (c5 (i9 2 (Z5 U4 i (c8 0)<|c8 1) j)
   (c5 (i9 3 (Z5 U4 i (c8 0)<|PF.pd<|CH (b9 1) rfl) j)
   (d8<|j1<|c7 x8 (PD.pb<|xJ (b9 2) cO<|cC<|fS c9)<|PD.pb<|xJ (b9 3) cO<|cC<|fS c9)))
 replace h:=F8 h;obtain⟨a,b,c,m,rfl,h⟩:=h;replace h:=gP h;obtain⟨Y,m,rfl,h⟩:=h;replace h:=v5 h;obtain⟨rfl,h⟩:=h
 .skip
  split at h
  .rename_i J q;rw[n8 q];split at h
   .rename_i r;rw[<-h];obtain⟨o,e⟩:=r;have s:(.tup [.int a,.int b,.int c]:D)=vd ⟨a,b,c⟩:=rfl;rw[s];generalize(⟨a,b,c⟩:G.V)=n at*
    have t:=WZ o e;have f:T1 1000 J.reverse:=e.sub (λP u=>by simpa using u) (by simp);have p:=WZ o f;rw[aFt (l:=J)]at p;have E:=sE n J;have v:=sE n J.reverse;rw[aCm]at v;have x:kF (.lst ((G.w4 n J).reverse.map vd).dropLast) (.lst ((G.w4 n J.reverse).reverse.map vd).dropLast)=.ok (.lst ((G.j8 n J).map vd)):=by rw[GI (by simp only[aFN,aAj,aCm];exact aAw (show _<=2000 by have:=e.2;lia) (by decide))];unfold G.j8;rw[aBJ,List.map_dropLast,List.map_dropLast]
    simp[-aFt,j0,t,p,TX,x,tx]
   .cases h
  .cases h
def Y7 (l:mg "list"=none)(a:mg "zip"=none)(g:aN K mg "pairs_round" Z4):v7 P w K mg base 1 "pairs_round" 1 y8:=by
 refine' m9 (k:=0) (F:=_) g oJ (λm n o p=>?b) λf d q h=>?_
 case b=>refine' (d8<|j1<|PF.pd<|BO (b9 0) (PD.pb<|c7 x8 (PD.pb<|xJ (b9 0) (cC c9) cO)<|PD.pb<|xJ (b9 0) cO<|cC c9) rfl)
 match f,h with
 |[.lst Y],h=>
  simp only[y8]at h;split at h
  .rename_i J i;rw[n8 i];split at h
   .rename_i r;rw[<-h];have j:kF (.lst (J.map vd).tail) (.lst ((J.map vd).take 1))=.ok (.lst ((J.tail++J.take 1).map vd)):=by rw[GI (by simp only[List.length_tail,aBT,aAj];exact MA (by lia))];rw[aBJ,List.map_tail,List.map_take]
    have c:(J.map vd).length=((J.tail++J.take 1).map vd).length:=by
     simp only[aAj,aAF,List.length_tail,aBT]
     lia
    have e:SN [.lst (J.map vd),.lst ((J.tail++J.take 1).map vd)]=.ok ((G.U7 J).map J0):=by show(if _ then _ else _)=_;rw[ji c,sD (β:=Unit)];rfl
    simp[-aBJ,-List.map_tail,-List.map_take,j0,SK,jw,j,e]
   .cases h
  .cases h
def bG (K1:v7 P w K mg base 3 "plane_about" 2 F4)(kJ:v7 P w K mg base 4 "ring_of" 2 O8)(Y7:v7 P w K mg base 1 "pairs_round" 1 y8)(z:mg "len"=none)(B:mg "sorted"=none)(g:aN K mg "faces_from" bC):WY P w K mg base 8 3 "faces_from" J1:=by
 obtain⟨f,C,o,i⟩:=g;refine' WD (k:=7) (F:=_) i fL rfl (i.binds λ_ _ _ _ _ _ p q=>match p,q with|[_,_,_],_=>rfl) o (λT A c s H E a=>?hb) ?hm
 case hb=>
  have I:=a.units;have j:=a.ae0;have r:=a.ad8 (by decide);have b:=fL.nd;refine' (c5 (bW 3 (lL j4) b)
   (c5 (LV 4 b)
   (c5 (bW 5 (lL<|d5 (c8 0) j4) b)
   (c5 (eZ (λ_=>5000) aAZ (l6 xM (PD.pb<|QH cI<|b9 5) A2) (c5 (CI 6 5 b)
   (d8 (A0 (IJ 4 (c8 6) j) (c5 (i9 7 (Z5 K1 a (c8 6) (yT 1 (k:=3) (Φ:=KG P w K mg base 3 1) rfl (d5 (i5 (b9 6) c9) j4) (l9 B1) (a.mono (by decide)))) b)
   (c5 (i9 8 (Z5 kJ a (xJ (b9 7) cO<|cC c9) (yT 2 (k:=3) (Φ:=KG P w K mg base 3 1) rfl (d5 (c8 7) j4) (l9 B1) (a.mono (by decide)))) b)
   (c5 (L4 3<|AS (c8 7)<|c8 8)
   (d8 (J3 aAZ rfl (t7<|zF Y7 a<|c8 8) (u6 9 b) (c5 (BP 4 W4 (c8 9) j)
   (d8<|L4 5<|AS (i5 (b9 9) c9)<|i5 (b9 9) c9))))))) p9))))
   (d8<|j1<|PF.pd<|CZ (b9 3) rfl r)))))
 case hm=>
  intro d L N O h;simp only[J1]at h;split at h
  .rename_i Y t;split at h
   .rename_i m J u;split at h
    .rename_i e;rw[<-h];obtain⟨e,v,x,l,n⟩:=e;rw[n8 u]at l n;subst x l n;have y:(1:Nat)<=sizeLine:=by decide
     simp only[kN,z8,l7,p5,R.aa0,aAu,aAY,aDr,y,if_true,C3];exact a0n (Φ:=KG P w K mg base 3 1) e v
    .cases h
   .cases h
  .cases h
def rX:Nst:=⟨"about",FI,E6 dN,o6 dN,c6 dN,EO dN,["corner"],[],["spread"],[1],(λρ=>(dE 1 ρ).bind λd=>.ok (.rt d)),K4,2⟩
def cP:Nst:=⟨"touched_by",jG,E6 J9,o6 J9,c6 J9,EO J9,["plane"],[],["spread"],[1],(λρ=>((t8 (dE 0) (t8 (dE 1) X1) ρ).bind y9).bind λd=>.ok (.rt d)),D7,3⟩
def KB {f:bc}{T:af}{A:cf}{a:List Env}{s:a9}{H:Hp}{E:XK}:NstOk (SF P w K mg base gJ "faces_of" (c6 G7) f T A a s H E) 2 rX where
 sc:=⟨rfl,rfl,rfl,by decide+kernel,by decide+kernel,by decide+kernel,λx h=>GB h,by decide+kernel⟩
 one:=rfl
 body:=λr g c A a s H k=>by have t:=k.units;exact(d8<|j1<|c8 1)
 mm:=by
  intro l m d b e h;match l,m,b,e,h with
  |[_],[_],_,_,h=>cases h;rfl
 bind:=λc n u g o p q=>match p,q with|[_],_=>rfl
 len:=rfl
 at_:=λi j x b e=>match i,b,e with
  |0,b,e=>by obtain rfl:1=j:=aAl b;obtain rfl:("spread":Str)=x:=aAl e;exact⟨rfl,rfl⟩
  |i+1,b,_=>nomatch(show(none:Option Nat)=some j from b)
 d0:=rfl
 k0:=rfl
 nm:=rfl
 lc:=.inl rfl
 st:=.inl rfl
 dbg:=by decide
 cdt:=by decide
def pE (G5:v7 P w K mg base 2 "points_on" 2 y9){f:bc}{T:af}{A:cf}{a:List Env}{s:a9}{H:Hp}{E:XK}:NstOk (SF P w K mg base gJ "faces_of" (c6 G7) f T A a s H E) 2 cP where
 sc:=⟨rfl,rfl,rfl,by decide+kernel,by decide+kernel,by decide+kernel,λx h=>GB h,by decide+kernel⟩
 one:=rfl
 body:=λu l c A a s H k=>by have y:=k.units;exact(d8<|j1<|Z5 G5 k (c8 0)<|c8 1)
 mm:=by
  intro m n d b g h;match m,n,b,g,h with
  |[w],[p],_,_,h=>have h:y9 [p,w]=.ok d:=h;show M5 (((t8 (dE 0) (t8 (dE 1) X1) [.v p,.v w]).bind y9).bind λd=>.ok (.rt d))=.ok d;have e:t8 (dE 0) (t8 (dE 1) X1) [.v p,.v w]=.ok [p,w]:=rfl;rw[e,R.aa0,h];rfl
 bind:=λc o z l q r t=>match r,t with|[_],_=>rfl
 len:=rfl
 at_:=λi j x b g=>match i,b,g with
  |0,b,g=>by obtain rfl:1=j:=aAl b;obtain rfl:("spread":Str)=x:=aAl g;exact⟨rfl,rfl⟩
  |i+1,b,_=>nomatch(show(none:Option Nat)=some j from b)
 d0:=rfl
 k0:=rfl
 nm:=rfl
 lc:=.inl rfl
 st:=.inl rfl
 dbg:=by decide
 cdt:=by decide
def gD {q:bc}(G5:v7 P w K mg base 2 "points_on" 2 y9)(Z0:v7 P w K mg base 3 "refuse_flat" 1 B4)(bT:v7 P w K mg base 8 "first_pair" 1 J7)(bG:WY P w K mg base 8 3 "faces_from" J1)(cb:mg "sorted"=none)(oo:mg "set"=none)(O:jC mg base)(i:(q,tbK)∈Tabs.tbs)(g:nj K mg "faces_of" G7 q):v7 P w K mg base 9 "faces_of" 1 O7:=by
 obtain⟨f,fd,cd,Q,T,t⟩:=g;refine' UF (k:=8) (F:=_) t Y3 (t.fn.binds λ_ _ _ _ _ _ U u=>match U,u with|[_],_=>rfl) Q (λA j s H E a=>?hb) ?hm
 case hb=>
  have hu:=a.units;have gu:=a.ae0;have za:=a.ad8 (by decide);have y:=Y3.nd;refine' (c5 (NS<|zF Z0 a<|c8 0)
   (c5 (i9 1 (PF.pd<|bF (b9 0) rfl za) y)
   (DP (n1:=rX) (n2:=cP) (clos1:=[("spread",s.heap.objs.size+1)]) (clos2:=[("spread",s.heap.objs.size+1)]) (tb:=tbK) KB (pE G5) ?co1 ?co2 ?hA O rfl T i (by decide+kernel) (by decide+kernel) (by decide+kernel) (by decide+kernel) (by decide) y bG (a.mono (by decide)) (zF bT a<|c8 1) (λ_=>rfl))))
  case co1=>exact⟨rfl,rfl,rfl,λx c h=>h,λx l=>⟨_,by obtain rfl:x= "spread":=aBb.mp l;rfl⟩⟩
  case co2=>exact⟨rfl,rfl,rfl,λx c h=>h,λx l=>⟨_,by obtain rfl:x= "spread":=aBb.mp l;rfl⟩⟩
  case hA=>exact KA
 case hm=>
  intro o d u h;match o,h with
  |[.lst Y],h=>
   simp only[O7]at h;split at h
   .rename_i J hw;rw[n8 hw];split at h
    .rename_i hz;rw[<-h];obtain⟨z,B,C⟩:=hz;obtain⟨m,r,e,L⟩:=P9 z B (by lia);have p:=LC (J:=J) (by lia);have fl:=WJ (z.mono (n:=1000)) B;rw[e]at C p⊢;have I:=a0c L;have N:=fy L C;obtain⟨b,eL⟩:∃b,(m::r).map vd=b:=⟨_,rfl⟩;rw[eL]at p I N;show M5 (C0 ((B4 [D.lst (J.map vd)]).bind λ_=>R.ok (Out.nx [.v (.lst (J.map vd)),.no,.no,.no])) _)=_;rw[fl,R.aa0,C3];show M5 (C0 (((ssR<|.lst (J.map vd)).bind λo=>R.ok (D.lst o)).bind λd=>R.ok (Out.nx [.v (.lst (J.map vd)),.v d,.no,.no])) _)=_;rw[p,R.aa0,R.aa0,C3];show M5 (((J7 [D.lst b]).bind λd1=>(R.ok [D.lst b]).bind λw1=>(R.ok [D.lst b]).bind λw2=>J1 d1 (K4 w1) (D7 w2)).bind λd=>R.ok (Out.rt d))=_;rw[I,R.aa0,R.aa0,R.aa0,N];rfl
    .cases h
   .cases h
def dU {e:bc}(W6:bZ P w K mg base 3 "refuse_flat" 1 (S9 ah ae))(g:nj K mg "faces_of" G7 e):bZ P w K mg base 9 "faces_of" 1 (S9 ah ae):=by
 obtain⟨f,m,n,i,o,b⟩:=g;refine' jP (k:=8) (G:=_) b.fn Y3 (b.fn.binds λ_ _ _ _ _ _ j c=>match j,c with|[_],_=>rfl) i (λT A a s H E d=>?hb) ?hm
 case hb=>have p:=d.units;have q:=Y3.nd;refine' (Q8 (VP (nJ U5 W6 (d.mono (by decide)) (d5 (c8 0) j4)<|l9 B1)))
 case hm=>
  intro l C c h;match l,h with
  |[.lst Y],h=>simp[j0,mX,h]
def Y8 (q:mg "sorted"=none)(r:mg "set"=none)(g:aN K mg "corners_in" bK):kZ P w K mg base 8 "corners_in" 1 E8:=by
 refine' oP (k:=7) (F:=_) g rF (λi s t c=>?b) λj d u h=>?_
 case b=>
  have l:=i.ad8 (by decide);refine' (sV (bW 1 (lL j4) c)
   (sV (J3 aAZ rfl (t7<|c8 0) (GN (n:=2) rfl<|aQ (u6 2 c)<|aQ (u6 3 c) xY)<|d8<|AY 1<|c8 3)
   (pU<|bF (b9 1) rfl l)))
 match j,h with
 |[.lst Y],h=>
  simp only[E8]at h;split at h
  .rename_i m o;split at h
   .rename_i f;rw[<-h];obtain⟨x,y,e⟩:=lY (a:=Sl.v (D.lst Y)) Y m [] Sl.no Sl.no o (by simpa using f.1);rw[aCe,aBA]at e;have p:=LC f.2;simp[j0,-List.map_flatten,e,p]
   .cases h
  .cases h
def fX (gD:v7 P w K mg base 9 "faces_of" 1 O7)(Y8:kZ P w K mg base 8 "corners_in" 1 E8)(g:aN K mg "body_of" fD):kZ P w K mg base 10 "body_of" 1 U6:=by
 refine' oP (k:=9) (F:=_) g fV (λc q s t=>?b) λj d u h=>?_
 case b=>refine' (pU (BB Y8 (c.mono (by decide)) (d5 (zF gD c<|c8 0) j4)<|l9 B1))
 match j,h with
 |[.lst Y],h=>
  simp only[U6]at h;split at h
  .rename_i J l;rw[n8 l];split at h
   .rename_i n;rw[<-h];obtain⟨f,i,a⟩:=n;obtain⟨m,r,e,L⟩:=P9 f i (by lia);have o:=ML f i a;have v:((o5<|d9 J).flatMap (G.l4<|d9 J)).length<=200/\(d9<|(o5<|d9 J).flatMap (G.l4<|d9 J)).length<=14:=by rw[e]at a⊢;exact rY L a
    have p:=BA (J:=d9 J) (fs:=o5 (d9 J)) (by lia) (by lia);simp[j0,o,p,w8]
   .cases h
  .cases h
def gS (a:v7 P w K mg base 8 "corners_in" 1 E8)(dU:bZ P w K mg base 9 "faces_of" 1 (S9 ah ae))(g:aN K mg "body_of" fD):bZ P w K mg base 10 "body_of" 1 (S9 ah ae):=by
 obtain⟨f,m,i,c⟩:=g;refine' jP (k:=9) (G:=_) c fV (c.binds λ_ _ _ _ _ _ j d=>match j,d with|[_],_=>rfl) i (λT A b s H E e=>?hb) ?hm
 case hb=>have n:=e.units;have o:=fV.nd;refine' (Q8 (MW (TH a (nJ U5 dU (e.mono (by decide)) (d5 (c8 0) j4)<|l9 B1))))
 case hm=>
  intro l C d h;match l,h with
  |[.lst Y],h=>simp[j0,mX,h]
end
section
variable [Tabs]
variable{P:bu} {w:cp} {K:ka} {mg:Y1} {base:cq}
variable{ag ah ae df dg dh dn fm bp:bc}
def bH (iU:v7 P w K mg base 1 "times" 2 iW)(fX:kZ P w K mg base 10 "body_of" 1 U6)(g:aN K mg "body_fold" M3):kZ P w K mg base 11 "body_fold" 2 lH:=by
 refine' oP (k:=10) (F:=_) g bO (λc a p q=>?b) λe d r h=>?_
 case b=>refine' (pU (BB fX (c.mono (by decide)) (d5 (K7 ["P"] ["k"] [1] rfl (P3 (sc:=c6 M3) (N:=cR)) (t7<|c8 0) (SA λ_ _ _ _ _=>(Z5 iU c (c8 0)<|c8 1))<|λ_=>u9) j4)<|l9 B1))
 replace h:=iI h;obtain⟨l,e,rfl,h⟩:=h;replace h:=C1 h;obtain⟨k,e,rfl,h⟩:=h;replace h:=v5 h;obtain⟨rfl,h⟩:=h;replace h:=V0 h;obtain⟨⟨f,i,j,a⟩,rfl⟩:=h;have m:=WM a.1 a.2.1 a.2.2;have n:l.length<=sizeLine:=small j;simp only[j0,aAt,aCe,aAI,aBA,aAu,aAY,aCC,aCD,aBv,aBw];simp-implicitDefEqProofs only[l7,p5,C9,z8,R.aa0,L8,aAj,ji n];rw[cH vd vd (G.J8 k) l ?h]
 case h=>exactλP o=>⟨[.v (vd P),.v (.int k)],rfl,sH (f P o) i⟩
 simp-implicitDefEqProofs only[R.aa0,m,unl];rfl
def bU (iU:v7 P w K mg base 1 "times" 2 iW)(gS:bZ P w K mg base 10 "body_of" 1 (S9 ah ae))(g:aN K mg "body_fold" M3):bZ P w K mg base 11 "body_fold" 2 (iF ah ae):=by
 obtain⟨f,r,j,c⟩:=g;refine' jP (k:=10) (G:=_) c bO (c.binds λ_ _ _ _ _ _ m d=>match m,d with|[_,_],_=>rfl) j (λT A a s H E b=>?hb) ?hm
 case hb=>have t:=b.units;have u:=bO.nd;refine' (Q8 (MW (nJ U5 gS (b.mono (by decide)) (d5 (K7 ["P"] ["k"] [1] rfl (P3 (sc:=c6 M3) (N:=cR)) (t7<|c8 0) (SA λ_ _ _ _ _=>(Z5 iU b (c8 0)<|c8 1))<|λ_=>u9) j4)<|l9 B1)))
 case hm=>
  intro x C d h;obtain⟨l,rfl,n,e,i,rfl⟩:=HH h;have o:l.length<=sizeLine:=small i;have p:=WS (cF:=ah) (cN:=ae) n e i;simp only[j0,aAt,aCe,aAI,aBA,aAu,aAY,aCC,aCD,aBv,aBw];unfold mX;simp-implicitDefEqProofs only[l7,p5,C9,z8,R.aa0,L8,aAj,ji o];rw[cH vd vd (G.J8 0) l ?h]
  case h=>exactλP q=>⟨[.v (vd P),.v (.int 0)],rfl,sH (e P q) (by decide)⟩
  exact p
end
section
variable [Tabs]
variable{P:bu} {w:cp} {K:ka} {mg:Y1} {base:cq}
variable{ag ah ae df dg dh dn fm bp:bc}
def C8 (n:mg "len"=none)(g:aN K mg "_law_cell" cD):v7 P w K mg base 1 "_law_cell" 2 aO:=by
 refine' m9 (k:=0) (F:=_) g wS (λo p q r=>?b) λi d s h=>?_
 case b=>
  refine' (c5 (A0 (l6 FX (b9 1)<|PD.pb<|QH cI<|b9 0) (d8<|j1<|i5 (b9 0)<|c8 1) p9)
   (d8<|j1<|c7 x8 (PD.pb<|c7 x8 (PD.pb<|c7 k9 (PD.pb<|c7 k9 A2<|b9 1)<|b9 1)<|PD.pb<|c7 k9 A2<|b9 1) A2))
 match i,h with
 |[.lst Y,.int k],h=>
  simp only[aO]at h;split at h
  .rename_i j;obtain⟨l,t⟩:=j;rw[<-h];have a:bits k<=20:=Y0 (by lia) (by lia);have c:bits (11*k)<=30:=Y0 (by lia) (by lia);by_cases f:k<Y.length
   .have e:Y[k.toNat]?=some Y[k.toNat]:=aAg (by lia);have m:qP Y k=some Y[k.toNat]:=by rw[cB l,e]
    simp[j0,f,jD m,tK,e]
   .have e:Y[k.toNat]?=none:=aCq.mpr (by lia);simp[j0,f,tK,e,i7 (l8.of (show bits 11<=10 by decide) a),i7 (l8.of c a),i7 (l8.of (show bits 5<=10 by decide) a),M.pA]
  .cases h
def bL (e:mg "isinstance"=none)(f:mg "bool"=none)(a:mg "int"=none)(g:aN K mg "_law_whole" bV):v7 P w K mg base 1 "_law_whole" 1 dS:=by
 refine' m9 (k:=0) (F:=_) g rC (λi j l m=>?b) λc d n h=>?_
 case b=>refine' (d8<|j1<|pM (vV VB<|b9 0)<|CV<|iw<|vV LL<|b9 0)
 match c,h with
 |[x],h=>rw[<-h];cases x<;>rfl
def P6 (g:aN K mg "_law_dot" gZ):v7 P w K mg base 1 "_law_dot" 2 l5:=by
 refine' m9 (k:=0) (F:=_) g zB (λp q r s=>?b) λe d u h=>?_
 case b=>refine' (d8<|j1<|c7 x8 (PD.pb<|c7 x8 (PD.pb<|c7 k9 (PD.pb<|i5 (b9 0) c9)<|PD.pb<|i5 (b9 1) c9)<|PD.pb<|c7 k9 (PD.pb<|i5 (b9 0) c9)<|PD.pb<|i5 (b9 1) c9)<|PD.pb<|c7 k9 (PD.pb<|i5 (b9 0) c9)<|PD.pb<|i5 (b9 1) c9)
 replace h:=YI h;obtain⟨a,b,c,t,e,rfl,h⟩:=h;replace h:=F8 h;obtain⟨v,x,y,e,rfl,h⟩:=h;replace h:=v5 h;obtain⟨rfl,h⟩:=h;split at h
 .rename_i f;obtain⟨⟨i,j,l⟩,m,n,o⟩:=f;rw[<-h];simp[j0,GC,GP,FU,i7 (l8.of i m),i7 (l8.of j n),i7 (l8.of l o)]
 .cases h
def bN (g:aN K mg "_law_cross" bI):v7 P w K mg base 1 "_law_cross" 3 uN:=by
 refine' m9 (k:=0) (F:=_) g qU (λz A B m=>?b) λl d C h=>?_
 case b=>
  refine' (c5 (AN 3 4 5 rfl m<|d5 (c7 q8 (PD.pb<|i5 (b9 1) c9)<|PD.pb<|i5 (b9 0) c9)<|d5 (c7 q8 (PD.pb<|i5 (b9 1) c9)<|PD.pb<|i5 (b9 0) c9)<|d5 (c7 q8 (PD.pb<|i5 (b9 1) c9)<|PD.pb<|i5 (b9 0) c9) j4)
   (c5 (AN 6 7 8 rfl m<|d5 (c7 q8 (PD.pb<|i5 (b9 2) c9)<|PD.pb<|i5 (b9 0) c9)<|d5 (c7 q8 (PD.pb<|i5 (b9 2) c9)<|PD.pb<|i5 (b9 0) c9)<|d5 (c7 q8 (PD.pb<|i5 (b9 2) c9)<|PD.pb<|i5 (b9 0) c9) j4)
   (d8<|j1<|BX (c7 q8 (PD.pb<|c7 k9 (b9 4)<|b9 8)<|PD.pb<|c7 k9 (b9 5)<|b9 7) (c7 q8 (PD.pb<|c7 k9 (b9 5)<|b9 6)<|PD.pb<|c7 k9 (b9 3)<|b9 8)<|c7 q8 (PD.pb<|c7 k9 (b9 3)<|b9 7)<|PD.pb<|c7 k9 (b9 4)<|b9 6)))
 replace h:=F8 h;obtain⟨a,b,c,l,rfl,h⟩:=h;replace h:=F8 h;obtain⟨d,e,f,l,rfl,h⟩:=h;replace h:=F8 h;obtain⟨g,i,j,l,rfl,h⟩:=h;replace h:=v5 h;obtain⟨rfl,h⟩:=h;replace h:=V0 h;obtain⟨⟨n,o,p⟩,rfl⟩:=h;have u:=o.sub n;have v:=p.sub n;have q:aM (.int (e-b)) (.int (j-c))=.ok (.int ((e-b)*(j-c))):=i7 (l8.of u.2.1 v.2.2);have r:aM (.int (f-c)) (.int (i-b))=.ok (.int ((f-c)*(i-b))):=i7 (l8.of u.2.2 v.2.1);have s:aM (.int (f-c)) (.int (g-a))=.ok (.int ((f-c)*(g-a))):=i7 (l8.of u.2.2 v.1);have t:aM (.int (d-a)) (.int (j-c))=.ok (.int ((d-a)*(j-c))):=i7 (l8.of u.1 v.2.2);have x:aM (.int (d-a)) (.int (i-b))=.ok (.int ((d-a)*(i-b))):=i7 (l8.of u.1 v.2.1);have y:aM (.int (e-b)) (.int (g-a))=.ok (.int ((e-b)*(g-a))):=i7 (l8.of u.2.1 v.1);simp[j0,GC,GP,FU,q,r,s,t,x,y,vd,dH,sizeLine]
def N1 (p:mg "abs"=none)(g:aN K mg "_law_divisor" V5):v7 P w K mg base 1 "_law_divisor" 2 F6:=by
 refine' m9 (k:=0) (F:=_) g mJ (λq i r j=>?b) λl d s h=>?_
 case b=>
  refine' (c5 (eZ (XA 1) aAZ (l6 (mG i) (b9 1) A2)<|d8<|NG 0 1 rfl j<|d5 (c8 1)<|d5 (c7 B5 (b9 0)<|b9 1) j4)
   (d8<|j1<|QH LS<|b9 0))
 match l,h with
 |[.int a,.int b],h=>
  rw[<-h];simp only[j0,aAt,aCe,aAI,aBA,F6];refine rN (Iv:=λn ρ=>∃x y:Int,ρ=[.v (.int x),.v (.int y)]/\y.natAbs<n/\aDT x y=aDT a b) ?_ ⟨a,b,rfl,by show b.natAbs<b.natAbs+2;lia,rfl⟩ ?_
  .rintro n ρ ⟨x,y,rfl,m,f⟩;by_cases c:y=0
   .exact .inl (by simp[c])
   .refine .inr ⟨by simp[c],[.v (.int y),.v (.int (x.fmod y))],by simp[pF c],y,x.fmod y,rfl,?_,by rw[NF,f]⟩;have:=SV (a:=x) c
    lia
  .rintro n ρ ⟨x,y,rfl,m,f⟩ o;have c:y=0:=by
    by_cases z:y=0
    .exact z
    .simp[z]at o
   subst c;have e:(x.natAbs:Int)=aDT a b:=by rw[<-f];simp
   rw[<-e];by_cases z:x<0
   .simp[z];lia
   .simp[z];lia
def Z2 (bN:v7 P w K mg base 1 "_law_cross" 3 uN)(N1:v7 P w K mg base 1 "_law_divisor" 2 F6)(P6:v7 P w K mg base 1 "_law_dot" 2 l5)(kr:mg "range"=none)(fg:mg "len"=none)(b_max:mg "max"=none)(g:aN K mg "_law_planes" Q4):v7 P w K mg base 2 "_law_planes" 1 uR:=by
 refine' m9 (k:=1) (F:=_) g oN (λr s gu l=>?b) λds d hl h=>?_
 case b=>
  refine' (c5 (bW 1 (lL j4) l)
   (c5 (J3 aAZ rfl (eU<|G6 (PD.pb<|QH cI<|b9 0) Q7) (u6 2 l) (d8 (J3 aAZ rfl (eU<|G6 (b9 2) Q7) (u6 3 l) (d8 (J3 aAZ rfl (eU<|G6 (b9 3) Q7) (u6 4 l) (c5 (i9 5 (pc3 bN r (i5 (b9 0)<|c8 2) (i5 (b9 0)<|c8 3)<|i5 (b9 0)<|c8 4) l)
   (c5 (i9 6 (Z5 N1 r (Z5 N1 r (i5 (b9 5) c9)<|i5 (b9 5) c9)<|i5 (b9 5) c9) l)
   (d8 (J3 aAZ rfl (t7<|bA<|d5 (c8 6)<|d5 (c7 q8 A2<|b9 6) j4) (u6 7 l) (d8 (A0 (l6 (mG s) (b9 7) A2) (c5 (i9 8 (BX (c7 y3 (PD.pb<|i5 (b9 5) c9)<|b9 7) (c7 y3 (PD.pb<|i5 (b9 5) c9)<|b9 7)<|c7 y3 (PD.pb<|i5 (b9 5) c9)<|b9 7) l)
   (c5 (i9 9 (Z5 P6 r (c8 8)<|i5 (b9 0)<|c8 2) l)
   (c5 (i9 10 (vU<|d5 (i5 (b9 8) c9)<|d5 (i5 (b9 8) c9)<|d5 (i5 (b9 8) c9)<|d5 (c8 9) j4) l)
   (d8<|A0 (GJ.pt<|GL (l6 (LQ s) (b9 10)<|b9 1)<|zD<|l6 (T5 s) (PD.pb<|qK (VV rfl)<|G6 (PD.pb<|K7 ["p"] ["way"] [8] rfl (P3 (sc:=c6 Q4) (N:=fG)) (t7<|c8 0) (SA λ_ _ _ _ _=>(Z5 P6 r (c8 1)<|c8 0))<|λ_=>u9) Q7)<|b9 9) (d8<|L4 1<|c8 10) p9)))) p9)))))))))))
   (d8<|wL 1<|j1<|c8 1)))
 replace h:=iI h;obtain⟨S,ds,rfl,h⟩:=h;replace h:=v5 h;obtain⟨rfl,h⟩:=h;replace h:=V0 h;obtain⟨⟨sz,hs,ho,qh⟩,rfl⟩:=h;have hl:S.length<=sizeLine:=aAw qh (by decide);simp only[j0,aAt,aCe,aAI,aBA,aAu,aAY,aCC,aCD,aBv,aBw];refine v9 (ρ:=[.v (.lst (S.map vd)),.o [],.no,.no,.no,.no,.no,.no,.no,.no,.no]) rfl ?_;have r1:=λn (hn:n<=S.length)=>YJ (n:=n) (by lia);refine EZ (x:=fO 0 S.length) (by simp-implicitDefEqProofs [r1 S.length (aAh _)]) ?_;refine ER (qw1 S) ?_ ⟨_,_,_,_,_,_,_,_,_,rfl⟩ ?_
 .rintro i _ Q ρ ⟨a2,a3,t,u,E,H,I,J,L,rfl⟩;have Q:i<S.length:=by lia
  have oi:=uH (S:=S) (n:=i) (by lia);have e1:lp (i+1) (VE S) []=lp i (RZ S i) (lp i (VE S) []):=rfl;generalize lp i (VE S) []=fs at*
  simp-implicitDefEqProofs only[D8,aAA,aAx];refine KY (x:=fO 0 i) (by simp-implicitDefEqProofs [r1 i (by lia)]) ?_;refine MB (λj=>qw2 S i j fs) ?_ ⟨_,_,_,_,_,_,_,_,rfl⟩ ?_
  .rintro j _ hj ρ ⟨a3,t,u,E,H,I,J,L,rfl⟩;have hj:j<S.length:=by lia
   have qp:=RM Q oi (n:=j) (by lia);have e2:lp (j+1) (RZ S i) fs=lp j (kS S i j) (lp j (RZ S i) fs):=rfl;generalize lp j (RZ S i) fs=T at*
   simp-implicitDefEqProofs only[D8,aAA,aAx];refine KY (x:=fO 0 j) (by simp-implicitDefEqProofs [r1 j (by lia)]) ?_;refine MB (λk=>qw3 S i j k T) ?_ ⟨_,_,_,_,_,_,_,rfl⟩ ?_
   .rintro k _ hk ρ ⟨t,u,E,H,I,J,L,rfl⟩;have hk:k<S.length:=by lia
    have m:=KO Q hj qp (n:=k) (by lia);have e3:lp (k+1) (kS S i j) T=kS S i j k (lp k (kS S i j) T):=rfl;unfold qw3;rw[e3];generalize lp k (kS S i j) T=us at*
    obtain⟨A,U⟩:∃A,S[i]?=some A:=⟨S[i],aAg Q⟩;obtain⟨B,Y⟩:∃A,S[j]?=some A:=⟨S[j],aAg hj⟩;obtain⟨C,eC⟩:∃A,S[k]?=some A:=⟨S[k],aAg hk⟩;have gt:∀{i:Nat} {A:G.V},S[i]?=some A->S.getD i 0=A:=λe=>by rw[aAq,e];rfl
    unfold kS;rw[gt U,gt Y,gt eC,<-OT];have q:=aAm U;have hB:=aAm Y;have hC:=aAm eC;have l1:us.length<=63:=m.few hs ho qh;have l2:(iH S (G.cr (B-A)<|C-A) A (G.n6 (G.cr (B-A)<|C-A):Int) us).length<=63:=by
     by_cases z:G.cr (B-A) (C-A)=0
     .unfold iH;rw[ji (by rw[z];rfl)];exact l1
     .have g0:(G.n6 (G.cr (B-A)<|C-A):Int)≠0:=λy=>z (G.dZ (by lia));unfold iH;rw[jn g0,HB];exact(xA m λy=>oV q hB hC z y).few hs ho qh
    have CR:=SM (sz A q).mono (sz B hB).mono (sz C hC).mono;have nz:Sz 2003 (G.cr (B-A)<|C-A):=(((sz B hB).sub (sz A q)).cr ((sz C hC).sub (sz A q))).mono;have iA:=CS U;have iB:=CS Y;have iC:=CS eC;have szA:=sz A q;clear m qp oi e1 e2 e3 gt U Y eC;generalize G.cr (B-A) (C-A)=n at*
    have D1:F6 [.int n.x,.int n.y]=.ok (.int (aDT n.x n.y:Nat)):=rfl;have D2:F6 [.int (aDT n.x n.y:Nat),.int n.z]=.ok (.int (G.n6 n:Nat)):=rfl;have i0:∀v:G.V,W9 (vd v) (.int 0)=.ok (.int v.x)/\W9 (vd v) (.int 1)=.ok (.int v.y)/\W9 (vd v) (.int 2)=.ok (.int v.z):=λ_=>⟨rfl,rfl,rfl⟩;simp-implicitDefEqProofs only[D8,aAA,aAx];refine CQ (by simp-implicitDefEqProofs only[l7,p5,K0,G8,C9,z8,R.aa0,iA,iB,iC,CR,aAA,aAx];rfl) ?_;refine CQ (by simp-implicitDefEqProofs only[l7,p5,K0,G8,C6,R.aa0,i0,D1,D2,aAA,aAx];rfl) ?_;refine KY (x:=[.int (G.n6 n:Int),.int (0-(G.n6 n:Int))]) rfl ?_;have gb:bits (G.n6 n:Int)<=2003:=uG nz;generalize(G.n6 n:Int)=g at*
    refine HF (S:=S) (n:=n) (A:=A) (us:=us) (λus a b c d=>[.v (.lst (S.map vd)),.o (us.map cZ),.v (.int (i:Int)),.v (.int (j:Int)),.v (.int (k:Int)),.v (vd n),.v (.int g),a,b,c,d]) ?_ gb l1 l2 (λa b c d=>⟨_,_,_,a,b,c,d,rfl⟩);intro h us a b c d bh s;have n0:QE (.int h) (.int 0)=.ok (.bl (!decide (h=0))):=rfl;by_cases h0:h=0
    .subst h0;exact⟨_,b,c,d,rfl⟩
    rw[decide_eq_false h0]at n0;have fd:∀x:Int,fF (.int x) (.int h)=.ok (.int (x.fdiv h)):=λx=>lR ⟨h0,bh⟩;have hp:=ak (A:=A) (h:=h) nz;have mx:=TF (S:=S) (A:=A) (w:=(A8 n A h).1) q;have md:=UE (S:=S) (w:=(A8 n A h).1) q;have ni:=OC (fs:=us) (f:=A8 n A h);have tp:dH [.int (n.x.fdiv h),.int (n.y.fdiv h),.int (n.z.fdiv h)]=.ok (vd (A8 n A h).1):=rfl;have f2:(A8 n A h).2=G.d6 (A8 n A h).1 A:=rfl;have ha:iH S n A h us=kU S (A8 n A h) us:=jn h0;rw[ha];generalize A8 n A h=f at*
    have pr:∀X:G.V,Sz 900 X->l5 [vd f.1,vd X]=.ok (.int (G.d6 f.1 X)):=λX hX=>iP hp.mono hX.mono;have t4:dH [.int f.1.x,.int f.1.y,.int f.1.z,.int (G.d6 f.1 A)]=.ok (cZ f):=by rw[<-f2];rfl
    refine⟨.v (.int h),.v (vd f.1),.v (.int (G.d6 f.1 A)),.v (cZ f),?_⟩;simp-implicitDefEqProofs only[D8,aAA,aAx,K0,G8,C6,R.aa0,n0,lC,Bool.not_false,if_true];refine LD (ρ:=[.v (.lst (S.map vd)),.o (us.map cZ),.v (.int (i:Int)),.v (.int (j:Int)),.v (.int (k:Int)),.v (vd n),.v (.int g),.v (.int h),.v (vd f.1),c,d]) (by simp-implicitDefEqProofs only[l7,p5,K0,G8,C6,R.aa0,i0,fd,tp,aAA,aAx]) ?_;refine LD (ρ:=[.v (.lst (S.map vd)),.o (us.map cZ),.v (.int (i:Int)),.v (.int (j:Int)),.v (.int (k:Int)),.v (vd n),.v (.int g),.v (.int h),.v (vd f.1),.v (.int (G.d6 f.1 A)),d]) (by simp-implicitDefEqProofs only[l7,p5,K0,G8,C9,z8,R.aa0,iA,pr A szA,aAA,aAx]) ?_;refine LD (ρ:=[.v (.lst (S.map vd)),.o (us.map cZ),.v (.int (i:Int)),.v (.int (j:Int)),.v (.int (k:Int)),.v (vd n),.v (.int g),.v (.int h),.v (vd f.1),.v (.int (G.d6 f.1 A)),.v (cZ f)]) (by simp-implicitDefEqProofs only[l7,p5,K0,G8,C9,z8,C6,R.aa0,i0,t4,aAA,aAx]) ?_;by_cases q1:f∈us
    .have O:kU S f us=us:=jn λz=>z.1 q1;rw[decide_eq_false (λz=>z q1)]at ni;rw[O];simp-implicitDefEqProofs only[QS,K0,G8,oG,R.aa0,ni,lC,aAn,if_false]
    .rw[decide_eq_true q1]at ni;simp-implicitDefEqProofs only[QS,l7,p5,K0,G8,oG,C9,z8,R.aa0,ni,lC,if_true,L8,aAj,ji hl];rw[cH vd D.int (G.d6 f.1) S ?h]
     case h=>exactλX hX=>⟨[.v (vd X),.v (vd f.1)],rfl,pr X (sz X hX)⟩
     simp-implicitDefEqProofs only[R.aa0,md];have eq:GW (.int (wA<|S.map<|G.d6 f.1)) (.int (G.d6 f.1 A))=.ok (.bl (decide (wA (S.map<|G.d6 f.1)=G.d6 f.1 A))):=rfl;by_cases q2:ZA S f
     .have O:kU S f us=us++[f]:=ji ⟨q1,q2⟩;rw[decide_eq_true (mx.mpr (by rw[<-f2];exact q2))]at eq;rw[O,aBJ];simp-implicitDefEqProofs only[eq,R.aa0,lC,if_true];exact ji (by rw[aAj];exact aBN s (by decide))
     .have O:kU S f us=us:=jn λz=>q2 z.2;rw[decide_eq_false (λz=>q2 (by have:=mx.mp z;rw[<-f2]at this;exact this))]at eq;rw[O];simp-implicitDefEqProofs only[eq,R.aa0,lC,aAn,if_false]
   .rintro ρ ⟨t,u,E,H,I,J,L,rfl⟩;unfold qw2;rw[e2,aDr];exact⟨_,_,_,_,_,_,_,_,rfl⟩
  .rintro ρ ⟨a3,t,u,E,H,I,J,L,rfl⟩;unfold qw1;rw[e1,aDr];exact⟨_,_,_,_,_,_,_,_,_,rfl⟩
 .rintro ρ ⟨a2,a3,t,u,E,H,I,J,L,rfl⟩;rw[aDr];rfl
def dI (Z2:v7 P w K mg base 2 "_law_planes" 1 uR)(P6:v7 P w K mg base 1 "_law_dot" 2 l5)(T:mg "sorted"=none)(U:mg "set"=none)(Y:mg "len"=none)(g:aN K mg "_law_hull" X6):v7 P w K mg base 8 "_law_hull" 1 wG:=by
 refine' m9 (k:=7) (F:=_) g wM (λi s gu o=>?b) λt d hl h=>?_
 case b=>
  have u:=i.ad8 (by decide);refine' (c5 (i9 1 (PF.pd<|bF (b9 0) rfl u) o)
   (c5 (i9 2 (zF Z2 i<|c8 1) o)
   (d8<|j1<|K7 ["p"] ["planes"] [2] rfl (P3 (sc:=c6 X6) (N:=lS)) (t7<|c8 1) (hxt λ_ _ _ _ _=>⟨(l6 xM (PD.pb<|QH cI<|PD.pb<|K7 ["plane"] ["p"] [0] rfl UZ (t7<|c8 1) (hxt λ_ _ _ _ _=>⟨(l6 (T5 s) (PD.pb<|Z5 P6 i (c8 0)<|c8 1)<|PD.pb<|i5 (b9 0) c9),c9⟩)<|λ_=>u9) A2),(c8 0)⟩)<|λ_=>u9)))
 replace h:=iI h;obtain⟨l,t,rfl,h⟩:=h;replace h:=v5 h;obtain⟨rfl,h⟩:=h;replace h:=V0 h;obtain⟨⟨a,q,c⟩,rfl⟩:=h;have x:=LC (J:=l) (by lia);obtain⟨m,r,e,L⟩:=P9 a q (by lia);rw[<-e]at L;have sz:∀P∈d9 l,Sz 900 P:=λP y=>a.1 P (k8.mp y);have z:=OU sz L.good.solid (t9 l) c;have j:=uH (S:=d9 l) (aAh _);have A:∀f∈YK (d9 l),Sz 2003 f.1:=λf n=>TN a (j.2 f n);have B:(YK<|d9 l).length<=sizeLine:=aAw (j.few L.good.solid (t9 l) c) (by decide);have C:(d9 l).length<=sizeLine:=aAw c (by decide);rw[<-IM a q c];clear j L e;generalize YK (d9 l)=fs at*
 generalize d9 l=S at*
 simp only[j0,aAt,aCe,aAI,aBA,aAu,aAY,aCC,aCD,aBv,aBw];refine v9 (ρ:=[.v (.lst (l.map vd)),.v (.lst (S.map vd)),.no]) (by simp-implicitDefEqProofs only[G8,R.aa0,x];rfl) ?_;refine v9 (ρ:=[.v (.lst (l.map vd)),.v (.lst (S.map vd)),.v (.lst (fs.map cZ))]) (by simp-implicitDefEqProofs only[l7,p5,C9,z8,R.aa0,z];rfl) ?_;simp-implicitDefEqProofs only[C9,z8,R.aa0,L8,aAj,ji C];rw[aJ vd (λX=>decide (2<(AT fs X).length)) vd S ?h]
 case h=>
  intro X E;refine⟨[.v (vd X),.v (.lst (fs.map cZ))],rfl,?_,λ_=>rfl⟩;simp-implicitDefEqProofs only[l7,p5,K0,G8,C9,z8,C6,R.aa0,L8,aAj,ji B];rw[aJ cZ (λf=>decide (G.d6 f.1 X=f.2)) (λ_=>.int 1) fs ?k]
  case k=>intro f n;have H:=NN (A f n) (sz X E).mono;have I:W9 (cZ f) (.int 3)=.ok (.int f.2):=rfl;have O:GW (.int (G.d6 f.1 X)) (.int f.2)=.ok (.bl (decide (G.d6 f.1 X=f.2))):=rfl;refine⟨[.v (cZ f),.v (vd X)],rfl,?_,λ_=>rfl⟩;simp-implicitDefEqProofs only[l7,p5,K0,G8,C9,z8,C6,R.aa0,H,I,O,lC]
  have Q:gx (.int ((AT fs X).length:Int)) (.int 2)=.ok (.bl (decide (2<(AT fs X).length))):=by show R.ok (D.bl<|decide _)=_;congr 2;exact decide_eq_decide.mpr (by lia)
  simp-implicitDefEqProofs only[R.aa0,uP,aAj];exact(jr (λr=>r.bind lC) Q)
 rfl
def iE (g:aN K mg "_law_put" gR):v7 P w K mg base 1 "_law_put" 3 wC:=by
 refine' m9 (k:=0) (F:=_) g AK (λC E H e=>?b) λi d I h=>?_
 case b=>
  refine' (c5 (TZ (c8 0)<|GN (n:=3) rfl<|aQ (u6 3 e)<|aQ (u6 4 e)<|aQ (u6 5 e) xY)
   (c5 (i9 3 (c7 x8 (b9 3)<|PD.pb<|c7 k9 (PD.pb<|i5 (b9 1) c9)<|b9 4) e)
   (c5 (i9 4 (c7 x8 (b9 4)<|PD.pb<|c7 k9 (PD.pb<|i5 (b9 1) c9)<|b9 5) e)
   (c5 (i9 5 (c7 x8 (b9 5)<|PD.pb<|c7 k9 (PD.pb<|i5 (b9 1) c9)<|b9 3) e)
   (d8<|j1<|BX (c7 x8 (b9 3)<|b9 2) (c7 q8 (b9 4)<|PD.pb<|c7 k9 A2<|b9 2)<|c7 x8 (b9 5)<|PD.pb<|c7 y3 (b9 2) A2)))))
 replace h:=F8 h;obtain⟨x,y,z,i,rfl,h⟩:=h;replace h:=xq h;obtain⟨a,b,c,i,rfl,h⟩:=h;replace h:=C1 h;obtain⟨f,i,rfl,h⟩:=h;replace h:=v5 h;obtain⟨rfl,h⟩:=h;replace h:=V0 h;obtain⟨⟨⟨m,j,o⟩,l,p,q,r⟩,rfl⟩:=h;have s:aM (.int a) (.int y)=.ok (.int (a*y)):=i7 (l8.of l j);have t:aM (.int b) (.int z)=.ok (.int (b*z)):=i7 (l8.of p o);have u:aM (.int c) (.int (x+a*y))=.ok (.int (c*(x+a*y))):=i7 (l8.of q<|bits_add (i6 (n:=600) m)<|i6<|bits_mul l j);have v:aM (.int 2) (.int f)=.ok (.int (2*f)):=i7 (l8.of (show bits 2<=10 by decide) r);have A:fF (.int f) (.int 3)=.ok (.int (f.fdiv 3)):=kB (by decide) (by decide);have B:W9 (.lst [.int a,.int b,.int c]) (.int 0)=.ok (.int a)/\W9 (.lst [.int a,.int b,.int c]) (.int 1)=.ok (.int b)/\W9 (.lst [.int a,.int b,.int c]) (.int 2)=.ok (.int c):=⟨rfl,rfl,rfl⟩;simp[j0,vd,B,s,t,u,v,A,putL,dH,sizeLine,aj,yI,qD,NT]
def dD (C8:v7 P w K mg base 1 "_law_cell" 2 aO)(dI:v7 P w K mg base 8 "_law_hull" 1 wG)(iE:v7 P w K mg base 1 "_law_put" 3 wC)(kr:mg "range"=none)(ku:mg "tuple"=none)(g:aN K mg "_law_body" R3):v7 P w K mg base 9 "_law_body" 3 nM:=by
 refine' m9 (k:=8) (F:=_) g uX (λz A gu j=>?b) λC d hl h=>?_
 case b=>
  refine' (c5 (i9 3 (Z5 C8 z (c8 0)<|c8 1) j)
   (c5 (bW 4 (lL<|d5 (BX c9 c9 c9)<|d5 (BX (c7 x8 A2<|PD.pb<|c7 B5 (b9 3) A2) c9 c9)<|d5 (BX c9 c9 c9)<|d5 (BX (c7 B5 (PD.pb<|c7 y3 (b9 3) A2) A2) (c7 B5 (PD.pb<|c7 y3 (b9 3) A2) A2) c9) j4) j)
   (c5 (J3 aAZ rfl (eU<|G6 (b9 2) Q7) (u6 5 j) (c5 (i9 6 (Z5 C8 z (c8 0)<|c7 x8 (PD.pb<|c7 x8 (b9 1) A2)<|b9 5) j)
   (d8<|A0 (l6 (T5 A) (PD.pb<|c7 B5 (PD.pb<|c7 y3 (b9 3) A2) A2) A2) (d8<|L4 4<|tW QP<|G6 (PD.pb<|K7 ["many"] ["cell"] [6] rfl (P3 (sc:=c6 R3) (N:=cV)) (t7<|bA<|d5 c9<|d5 c9<|d5 c9 j4) (SA λ_ _ _ _ _=>(c7 q8 (PD.pb<|c7 B5 (PD.pb<|c7 k9 (b9 1)<|b9 0) A2) A2))<|λ_=>u9) Q7)<|d8<|L4 4<|BX (c7 q8 (PD.pb<|c7 B5 (b9 6) A2) A2) (c7 q8 (PD.pb<|c7 B5 (PD.pb<|c7 y3 (b9 6) A2) A2) A2)<|c7 q8 (PD.pb<|c7 B5 (PD.pb<|c7 y3 (b9 6) A2) A2) A2)))
   (c5 (i9 7 (bA<|d5 (c7 q8 (PD.pb<|c7 B5 (PD.pb<|c7 y3 (b9 3) A2) A2) A2)<|d5 (c7 q8 (PD.pb<|c7 B5 (PD.pb<|c7 y3 (b9 3) A2) A2) A2)<|d5 (c7 q8 (PD.pb<|c7 B5 (PD.pb<|c7 y3 (b9 3) A2) A2) A2) j4) j)
   (c5 (i9 8 c9 j)
   (c5 (A0 (l6 (T5 A) (PD.pb<|c7 B5 (PD.pb<|c7 y3 (b9 3) A2) A2) A2) (c5 (i9 7 (bA<|d5 (c7 q8 (PD.pb<|c7 B5 (PD.pb<|c7 k9 (b9 3) A2) A2) A2)<|d5 (c7 q8 (PD.pb<|c7 B5 (PD.pb<|c7 k9 (b9 3) A2) A2) A2)<|d5 (c7 q8 (PD.pb<|c7 B5 (PD.pb<|c7 y3 (b9 3) A2) A2) A2) j4) j)
   (d8<|i9 8 (c7 q8 (PD.pb<|c7 B5 (PD.pb<|c7 k9 (b9 3)<|PD.pb<|c7 x8 (PD.pb<|c7 jS A2 A2) A2)<|PD.pb<|c7 x8 (PD.pb<|c7 k9 A2<|PD.pb<|c7 jS A2 A2) A2)<|PD.pb<|c7 jS A2 A2) j)) p9)
   (d8<|wL 4<|j1<|zF dI z<|K7 ["p"] ["slants", "far"] [7,8] rfl (P3 (sc:=c6 R3) (N:=cV)) (t7<|c8 4) (SA λ_ _ _ _ _=>(pc3 iE z (c8 0) (c8 1)<|c8 2))<|λ_=>u9)))))))
 replace h:=gP h;obtain⟨Y,C,rfl,h⟩:=h;replace h:=C1 h;obtain⟨i,C,rfl,h⟩:=h;replace h:=C1 h;obtain⟨m,C,rfl,h⟩:=h;replace h:=v5 h;obtain⟨rfl,h⟩:=h;replace h:=V0 h;obtain⟨⟨hi,hs,hm⟩,rfl⟩:=h;obtain⟨M,rfl⟩:∃M:Nat,m=(M:Int):=⟨m.toNat,by lia⟩;rw[aCl];obtain⟨c0,b0⟩:=yK hi i hs.1 (by lia);obtain⟨A,hz⟩:=YF Y i (m:=M) (by lia);have HU:=NI A;obtain⟨pz,_,pl⟩:=wZ Y i M;have ll:(iG Y i M).length<=sizeLine:=by rw[pl];exact small (by lia)
 have PO:=EK (cK Y i);unfold rT;have cm:=λ(k:Nat) (hk:k<M)=>yK hi (i+1+(k:Int)) (by lia) (by lia);have st:∀k,iG Y i (k+1)=iG Y i k++[fH (cK Y i) (cK Y<|i+1+(k:Int))]:=λk=>by unfold iG;rw[List.range_succ,aBJ,aDY];rfl
 have st0:iG Y i 0=fR (cK Y i):=by unfold iG;simp
 have len:=λk=>(wZ Y i k).2.2;generalize iG Y i=pb at*
 generalize cK Y i=f at*
 have t:∀{x w:Int},0<w->w<1000000000000000->fF (.int x) (.int w)=.ok (.int (x.fdiv w)):=λE w1=>kB E w1;have u:∀{x w:Int},0<w->rA (.int x) (.int w)=.ok (.int (x.fmod w)):=λE=>jK E;have B:∀x y:Int,DR (.int x) (.int y)=.ok (.int (x-y)):=λ_ _=>rfl;have eq:∀x y:Int,GW (.int x) (.int y)=.ok (.bl (decide (x=y))):=λ_ _=>rfl;have r1:=YJ (n:=M) (by lia);simp only[j0,aAt,aCe,aAI,aBA,aAu,aAY,aCC,aCD,aBv,aBw];refine v9 (by simp-implicitDefEqProofs only[l7,p5,C9,z8,R.aa0,c0,aAA,aAx];rfl) ?_;refine v9 (ρ:=[.v (.lst Y),.v (.int i),.v (.int (M:Int)),.v (.int f),.o ((pb 0).map vd),.no,.no,.no,.no]) ?_ ?_
 .rw[st0];simp-implicitDefEqProofs [t,u,dH,sizeLine,fR,vd]
 refine EZ (x:=fO 0 M) (by simp-implicitDefEqProofs [r1]) ?_;refine ER (λk ρ=>∃l r,ρ=[.v (.lst Y),.v (.int i),.v (.int (M:Int)),.v (.int f),.o ((pb k).map vd),l,r,.no,.no]) ?_ ⟨_,_,rfl⟩ ?_
 .rintro k _ hk ρ ⟨l,r,rfl⟩;obtain⟨c1,b1⟩:=cm k (by lia);have H:(pb k).length<sizeLine:=by rw[len k];exact aBN (show 4+k<=1000 by lia) (by decide)
  have I:kF (.int i) (.int 1)=.ok (.int (i+1)):=rfl;have J:kF (.int (i+1)) (.int (k:Int))=.ok (.int (i+1+(k:Int))):=rfl;simp-implicitDefEqProofs only[D8,aAA,aAx];rw[st k,aBJ];generalize cK Y (i+1+(k:Int))=c at*
  refine CQ (by simp-implicitDefEqProofs only[l7,p5,K0,G8,C9,z8,C6,R.aa0,I,J,c1,aAA,aAx];rfl) ?_;have ap:vS 4 [.v (.lst Y),.v (.int i),.v (.int (M:Int)),.v (.int f),.o ((pb k).map vd),.v (.int (k:Int)),.v (.int c),.no,.no] (vd<|fH f c)=.ok (.nx [.v (.lst Y),.v (.int i),.v (.int (M:Int)),.v (.int f),.o ((pb k).map vd++[vd (fH f c)]),.v (.int (k:Int)),.v (.int c),.no,.no]):=ji (by rw[aAj];exact H);refine⟨[.v (.lst Y),.v (.int i),.v (.int (M:Int)),.v (.int f),.o ((pb k).map vd++[vd (fH f c)]),.v (.int (k:Int)),.v (.int c),.no,.no],Eq.trans ?_ ap,_,_,rfl⟩;generalize vS 4 [.v (.lst Y),.v (.int i),.v (.int (M:Int)),.v (.int f),.o ((pb k).map vd),.v (.int (k:Int)),.v (.int c),.no,.no]=AP;clear ap;have s:∀y:Int,bits y<=40->aM (.int c) (.int y)=.ok (.int (c*y)):=λy L=>i7 (l8.of b1 L);have O:=s 48271 (by decide);have Q:=s 16811 (by decide);have T:=s 69623 (by decide);by_cases q:(f.fdiv 648).fmod 3=1
  .have e:fH f c=⟨oA c 48271,oA c 16811,oA c 69623⟩:=ji q;rw[e];have tu:∀a b c:D,OJ [.lst [a,b,c]]=.ok (.tup [a,b,c]):=λ_ _ _=>rfl;simp-implicitDefEqProofs [t,u,q,j6,O,Q,T,B,tu,oA,sizeLine,vd]
  .have e:fH f c=⟨c.fmod 7-3,(c.fdiv 7).fmod 7-3,(c.fdiv 49).fmod 7-3⟩:=jn q;rw[e];simp-implicitDefEqProofs [t,u,q,B,dH,sizeLine,vd]
 rintro ρ ⟨l,r,rfl⟩;rw[aDr];have big:(wV f)=((f.fdiv 216).fmod 3=1):=rfl;refine v9 (by simp-implicitDefEqProofs [t,u,B,DM,sizeLine];rfl) ?_;refine v9 (ρ:=[.v (.lst Y),.v (.int i),.v (.int (M:Int)),.v (.int f),.o ((pb M).map vd),l,r,.v (.lst [.int ((f.fdiv 8).fmod 3-1),.int ((f.fdiv 24).fmod 3-1),.int ((f.fdiv 72).fmod 3-1)]),.v (.int 0)]) rfl ?_;refine v9 (ρ:=[.v (.lst Y),.v (.int i),.v (.int (M:Int)),.v (.int f),.o ((pb M).map vd),l,r,.v (.lst [.int (qX f).1,.int (qX f).2.1,.int (qX f).2.2]),.v (.int (VT f))]) ?_ ?_
 .by_cases q:(f.fdiv 216).fmod 3=1
  .have U:qX f=_:=ji q;have e2:VT f=_:=ji q;have s:∀y:Int,bits y<=80->aM (.int f) (.int y)=.ok (.int (f*y)):=λy L=>i7 (l8.of b0 L);have O:=s 48271 (by decide);have Q:=s 16811 (by decide);have T:=s 10000000000000000051 (by decide);have p19:yF (.int 10) (.int 19)=.ok (.int 10000000000000000000):=(jA ⟨by decide,by decide,by decide⟩).trans (by rfl);have p20:yF (.int 10) (.int 20)=.ok (.int 100000000000000000000):=(jA ⟨by decide,by decide,by decide⟩).trans (by rfl);have u4:aM (.int 2) (.int 100000000000000000000)=.ok (.int 200000000000000000000):=(i7 (l8.of (show bits 2<=10 by decide) (show bits 100000000000000000000<=80 by decide))).trans (by rfl);rw[U,e2];simp-implicitDefEqProofs [t,u,B,DM,sizeLine,q,O,Q,T,u4,p19,p20,oA]
  .have U:qX f=_:=jn q;have e2:VT f=_:=jn q;rw[U,e2];simp-implicitDefEqProofs [t,u,q]
 have e0:VD 4 [.v (.lst Y),.v (.int i),.v (.int (M:Int)),.v (.int f),.o ((pb M).map vd),l,r,.v (.lst [.int (qX f).1,.int (qX f).2.1,.int (qX f).2.2]),.v (.int (VT f))]=[.v (.lst Y),.v (.int i),.v (.int (M:Int)),.v (.int f),.v (.lst ((pb M).map vd)),l,r,.v (.lst [.int (qX f).1,.int (qX f).2.1,.int (qX f).2.2]),.v (.int (VT f))]:=rfl;rw[e0];simp-implicitDefEqProofs only[l7,p5,C9,z8,R.aa0,L8,aAj,ji ll];rw[cH vd vd (QQ f) (pb M) ?h]
 case h=>exactλP hP=>⟨[.v (vd P),.v (.lst [.int (qX f).1,.int (qX f).2.1,.int (qX f).2.2]),.v (.int (VT f))],rfl,UJ (pz P hP) PO⟩
 simp-implicitDefEqProofs only[R.aa0,HU];rfl
def M8 (g:aN K mg "_law_times" bX):v7 P w K mg base 1 "_law_times" 1 FA:=by
 refine' m9 (k:=0) (F:=_) g qY (λE o H p=>?b) λu d I h=>?_
 case b=>
  refine' (c5 (A0 (l6 (T5 o) (PD.pb<|c7 B5 (b9 0) A2) A2) (d8<|i9 0 (c7 q8 (PD.pb<|c7 B5 (PD.pb<|c7 k9 (PD.pb<|c7 y3 (b9 0) A2)<|PD.pb<|c7 x8 (PD.pb<|c7 jS A2 A2) A2)<|PD.pb<|c7 x8 (PD.pb<|c7 k9 A2<|PD.pb<|c7 jS A2 A2) A2)<|PD.pb<|c7 jS A2 A2) p)<|d8<|i9 0 (c7 q8 (PD.pb<|c7 B5 (PD.pb<|c7 y3 (b9 0) A2) A2) A2) p)
   (c5 (A0 (l6 (T5 o) (b9 0) A2) (d8<|j1<|fS c9) p9)
   (d8<|j1<|c8 0)))
 replace h:=C1 h;obtain⟨c,u,rfl,h⟩:=h;replace h:=v5 h;obtain⟨rfl,h⟩:=h;replace h:=V0 h;obtain⟨z,rfl⟩:=h;have f:yF (.int 10) (.int 59)=.ok (.int T59):=jA ⟨by decide,by decide,by decide⟩;have i:yF (.int 10) (.int 60)=.ok (.int YE):=jA ⟨by decide,by decide,by decide⟩;have j:kF (.int T59) (.int 51)=.ok (.int qw):=rfl;have l:aM (.int 2) (.int YE)=.ok (.int (2*YE)):=i7 (l8.of (show bits 2<=10 by decide) (show bits YE<=210 by decide));have m:kF (.int (2*YE)) (.int 1)=.ok (.int xk):=rfl;have r:fF (.int c) (.int 3)=.ok (.int (c.fdiv 3)):=kB (by decide) (by decide);have s:rA (.int c) (.int 3)=.ok (.int (c.fmod 3)):=jK (by decide);have A:∀x:Int,rA (.int x) (.int xk)=.ok (.int (x.fmod xk)):=λx=>jK (by decide);have n:∀x:Int,rA (.int x) (.int 41)=.ok (.int (x.fmod 41)):=λx=>jK (by decide);have B:aM (.int (c.fdiv 3)) (.int qw)=.ok (.int (c.fdiv 3*qw)):=i7 (l8.of (bits_fdiv z) (show bits qw<=210 by decide));have t:∀x y:Int,DR (.int x) (.int y)=.ok (.int (x-y)):=λ_ _=>rfl;have a:∀x y:Int,GW (.int x) (.int y)=.ok (.bl (decide (x=y))):=λ_ _=>rfl;have C:TQ (.int 1)=.ok (.int (-1)):=rfl;simp only[j0,aAt,aCe,aAI,aBA,aAu,aAY,aCC,aCD,aBv,aBw];refine v9 (ρ:=[.v (.int (ay c))]) ?_ ?_
 .by_cases q:c.fmod 3=1
  .have e:ay c=(c.fdiv 3*qw).fmod xk-YE:=ji q;rw[e];simp-implicitDefEqProofs only[G8,C6,R.aa0,s,a,decide_eq_true q,lC,if_true,r,f,j,B,i,l,m,A,t,aAx]
  .have e:ay c=(c.fdiv 3).fmod 41-20:=jn q;rw[e];simp-implicitDefEqProofs only[G8,C6,R.aa0,s,a,decide_eq_false q,lC,aAn,if_false,r,n,t,aAx]
 unfold WH;by_cases q:ay c=0
 .rw[ji q];simp-implicitDefEqProofs only[G8,C6,R.aa0,a,decide_eq_true q,lC,if_true,C];rfl
 .rw[jn q];simp-implicitDefEqProofs only[G8,C6,R.aa0,a,decide_eq_false q,lC,aAn,if_false];rfl
def K3 (E:mg "sorted"=none)(g:aN K mg "_law_folded" Q0):v7 P w K mg base 8 "_law_folded" 2 aR:=by
 refine' m9 (k:=7) (F:=_) g pQ (λi H I L=>?b) λf d O h=>?_
 case b=>have j:=i.ad8 (by decide);refine' (d8<|j1<|PF.pd<|BZ (PD.pb<|K7 ["p"] ["k"] [1] rfl (P3 (sc:=c6 Q0) (N:=fN)) (t7<|c8 0) (SA λ_ _ _ _ _=>(BX (c7 k9 (b9 1)<|PD.pb<|i5 (b9 0) c9) (c7 k9 (b9 1)<|PD.pb<|i5 (b9 0) c9)<|c7 k9 (b9 1)<|PD.pb<|i5 (b9 0) c9))<|λ_=>u9) rfl j)
 replace h:=iI h;obtain⟨l,f,rfl,h⟩:=h;replace h:=C1 h;obtain⟨k,f,rfl,h⟩:=h;replace h:=v5 h;obtain⟨rfl,h⟩:=h;replace h:=V0 h;obtain⟨⟨m,o,c,q,r⟩,rfl⟩:=h;have s:l.length<=sizeLine:=small (by lia);have SP:=JQ (J:=l.map (G.J8 k)) (aBB.mpr<|r.imp λ{a b} n e=>n (WP m a b e)) (by rw[aAj];exact q);simp only[j0,aAt,aCe,aAI,aBA,aAu,aAY,aCC,aCD,aBv,aBw];simp-implicitDefEqProofs only[C9,z8,R.aa0,L8,aAj,ji s];rw[cH vd vd (G.J8 k) l ?h]
 case h=>intro P t;obtain⟨u,A,B⟩:=o P t;have C:W9 (vd P) (.int 0)=.ok (.int P.x)/\W9 (vd P) (.int 1)=.ok (.int P.y)/\W9 (vd P) (.int 2)=.ok (.int P.z):=⟨rfl,rfl,rfl⟩;refine⟨[.v (vd P),.v (.int k)],rfl,?_⟩;simp-implicitDefEqProofs only[l7,p5,K0,G8,C6,R.aa0,C,i7 (l8.of c u),i7 (l8.of c A),i7 (l8.of c B)];rfl
 simp-implicitDefEqProofs only[R.aa0,SP];rfl
def Y5 (bL:v7 P w K mg base 1 "_law_whole" 1 dS)(n:mg "isinstance"=none)(o:mg "list"=none)(p:mg "len"=none)(q:mg "tuple"=none)(g:aN K mg "_law_good" X9):v7 P w K mg base 2 "_law_good" 2 fA:=by
 refine' m9 (k:=1) (F:=_) g wN (λe a r f=>?b) λc d s h=>?_
 case b=>
  refine' (c5 (A0 (GJ.pt<|uU (nH<|dW<|vV KQ<|b9 0)<|nA<|l6 (mG a) (b9 0)<|b9 1) (d8<|j1 W4) p9)
   (c5 (J3 aAZ rfl (t7<|c8 0) (u6 2 f)<|d8<|A0 (GJ.pt<|uU (nH<|dW<|vV IW<|b9 2)<|nA<|l6 (mG a) (PD.pb<|QH cI<|PD.pb<|K7 ["x"] [] [] rfl (P3 (sc:=c6 X9) (N:=mE)) (GA<|c8 2) (hxt λ_ _ _ _ _=>⟨(dW<|zF bL e<|c8 0),(c8 0)⟩)<|λ_=>u9) A2) (d8<|j1 W4) p9)
   (d8<|j1 W4)))
 replace h:=iI h;obtain⟨l,c,rfl,h⟩:=h;replace h:=iI h;obtain⟨t,c,rfl,h⟩:=h;replace h:=v5 h;obtain⟨rfl,h⟩:=h;replace h:=V0 h;obtain⟨rfl,rfl⟩:=h;have i:=EX (GM l);have j:∀l:List D,JA "list" (.lst l)=true:=λ_=>rfl;simp only[j0,aAt,aCe,aAI,aBA,aAu,aAY,aCC,aCD,aBv,aBw];refine v9 (by simp-implicitDefEqProofs only[orB,UA,K0,G8,R.aa0,j,i,lC,aAn,if_false,aCz];rfl) ?_;refine EZ (x:=l.map vd) rfl ?_;refine AQ (λρ=>∃z,ρ=[.v (.lst (l.map vd)),.v (.lst (l.map vd)),z]) ?_ ⟨_,rfl⟩ (λ_ _=>?_)
 .rintro d m ρ ⟨z,rfl⟩;obtain⟨P,_,rfl⟩:=aAo.mp m;exact⟨[.v (.lst (l.map vd)),.v (.lst (l.map vd)),.v (vd P)],rfl,_,rfl⟩
 .rfl
section
seal PySem.eval
def cG (A:mg "isinstance"=none)(H:mg "ValueError"=none)(bU:bZ P w K mg base 11 "body_fold" 2 (iF ah ae))(C:XCls K mg ag "BodyError" ag)(E:XCls K mg ag "Flat" ah)(I:XCls K mg ag "NoPoints" ae)(J:mg "NoName"=some (.ref dn))(N:mg "NoMove"=some (.ref dg))(O:mg "NoAxis"=some (.ref df))(Q:mg "Flat"=some (.ref ah))(U:mg "TooGreat"=some (.ref bp))(Y:mg "NoText"=some (.ref dh))(ql:mg "NoRow"=some (.ref fm))(ic:mg "NoPoints"=some (.ref ae))(f:PySem.W.kitOne K (.ref ah) (.type "ValueError")=some true)(a:PySem.W.kitOne K (.ref ae) (.type "ValueError")=some true)(t:PySem.W.kitOne K (.ref ah) (.ref dn)=some false)(j:PySem.W.kitOne K (.ref ae) (.ref dn)=some false)(u:PySem.W.kitOne K (.ref ah) (.ref dg)=some false)(m:PySem.W.kitOne K (.ref ae) (.ref dg)=some false)(v:PySem.W.kitOne K (.ref ah) (.ref df)=some false)(n:PySem.W.kitOne K (.ref ae) (.ref df)=some false)(z:PySem.W.kitOne K (.ref ah) (.ref ah)=some true)(q:PySem.W.kitOne K (.ref ae) (.ref ah)=some false)(r:PySem.W.kitOne K (.ref ah) (.ref bp)=some false)(c:PySem.W.kitOne K (.ref ae) (.ref bp)=some false)(x:PySem.W.kitOne K (.ref ah) (.ref dh)=some false)(o:PySem.W.kitOne K (.ref ae) (.ref dh)=some false)(y:PySem.W.kitOne K (.ref ah) (.ref fm)=some false)(p:PySem.W.kitOne K (.ref ae) (.ref fm)=some false)(s:PySem.W.kitOne K (.ref ah) (.ref ae)=some false)(e:PySem.W.kitOne K (.ref ae) (.ref ae)=some true)(g:aN K mg "_law_flat" cE):v7 P w K mg base 12 "_law_flat" 1 kC:=by
 refine' m9 (k:=11) (F:=_) g wK (λhr hu gu B=>?b) λds d hl h=>?_
 case b=>
  refine' (c5 (i9 1 (bA j4) B)
   (c5 (i9 2 W4 B)
   (c5 (SU 3 (AG ah ae) B rfl rfl rfl (OB E I) C.ex (by decide) C.nm BG (by exact(RB (WG bU (hr.mono (by decide)) (d5 (c8 0)<|d5 c9 j4)<|l9<|l9 B1))) (by intro _;exact(c5 (i9 2 (VX (K:=K) (i:=3) (T:= "ValueError") (by decide+kernel) H A) B)
   (c5 (i9 1 (bA<|d5 (Y2 (K:=K) (i:=3) Q A)<|d5 (Y2 (K:=K) (i:=3) O A)<|d5 (Y2 (K:=K) (i:=3) N A)<|d5 (Y2 (K:=K) (i:=3) J A) j4) B)
   (d8<|i9 1 (c7 x8 (b9 1)<|PD.pb<|bA<|d5 (Y2 (K:=K) (i:=3) ic A)<|d5 (Y2 (K:=K) (i:=3) ql A)<|d5 (Y2 (K:=K) (i:=3) Y A)<|d5 (Y2 (K:=K) (i:=3) U A) j4) B)))))
   (d8<|j1<|pM (c8 2)<|CV<|qB (T5 hu) (b9 1)<|PD.pb<|bA<|d5 W4<|d5 W4<|d5 W4<|d5 W4<|d5 W4<|d5 W4<|d5 W4<|d5 W4 j4))))
 replace h:=iI h;obtain⟨l,ds,rfl,h⟩:=h;replace h:=v5 h;obtain⟨rfl,h⟩:=h;replace h:=V0 h;obtain⟨⟨hn,h1,h3⟩,rfl⟩:=h;have oF:=E.ok;have oi:AG ah ae (.ref ah)=true:=by simp[AG]
 have e1:=IH (cF:=ah) (cN:=ae) hn h1 h3;generalize l.map vd=L at*
 simp[j0,ZI,ifX,mX,e1,oi,xz,oF,z,f,v,u,t,s,y,x,r,q,a,n,m,j,e,p,o,c,unset,sizeLine,DM,kF];rfl
end
section
seal PySem.eval
def o_law {f:bc}{fd:dC}(dD:v7 P w K mg base 9 "_law_body" 3 nM)(M8:v7 P w K mg base 1 "_law_times" 1 FA)(C8:v7 P w K mg base 1 "_law_cell" 2 aO)(Y5:v7 P w K mg base 2 "_law_good" 2 fA)(B:v7 P w K mg base 11 "body_fold" 2 lH)(K3:v7 P w K mg base 8 "_law_folded" 2 aR)(cG:v7 P w K mg base 12 "_law_flat" 1 kC)(bH:kZ P w K mg base 11 "body_fold" 2 lH)(jc:mg "list"=none)(F0:Fun K "law" "law" iJ f fd):FnOk P w K mg base rV 13 f fd ["script"] (qj K 1 jO):=by
 refine' fnD (k:=12) (F:=_) F0 RP (λT A C s H E g=>?b) λds d hl h=>?_
 case b=>
  have n:=g.units;have gu:=g.ae0;have j:=RP.nd;refine' (c5 (i9 1 (pc3 dD g (c8 0) c9 c9) j)
   (c5 (i9 2 (zF M8 g<|Z5 C8 g (c8 0) c9) j)
   (c5 (i9 3 (zF M8 g<|Z5 C8 g (c8 0) c9) j)
   (c5 (i9 4 (tW TK<|G6 (b9 1) Q7) j)
   (c5 (J3 aAZ rfl (t7<|bA<|d5 (c8 2)<|d5 (c8 3)<|d5 (zF M8 g<|Z5 C8 g (c8 0) c9)<|d5 c9<|d5 (fS c9) j4) (u6 5 j)<|d8<|A0 (GJ.pt<|uU (nH<|dW<|Z5 Y5 g (Z5 B g (c8 4)<|c8 5)<|Z5 K3 g (c8 1)<|c8 5)<|nA<|l6 (mG n) (b9 4)<|b9 1) (d8<|j1 W4) p9)
   (c5 (A0 (nH<|dW<|Z5 Y5 g (Z5 B g (Z5 K3 g (c8 1)<|c8 2)<|c8 3)<|Z5 K3 g (c8 1)<|c7 k9 (b9 2)<|b9 3) (d8<|j1 W4) p9)
   (c5 (bW 6 (BB bH (g.mono (by decide)) (d5 (c8 4)<|d5 c9 j4)<|l9<|l9 B1) j)
   (c5 (L4 6<|BX c9 c9 c9)
   (d8<|j1<|pM (qB (T5 n) (b9 4)<|b9 1)<|pM (zF cG g<|c8 4)<|pM (qB (T5 n) (b9 4)<|b9 1)<|CV<|qB (T5 n) (PD.pb<|Z5 B g (c8 4) c9)<|b9 1)))))))))
 match ds,h with
 |[.lst Y],h=>
  simp only[jO]at h;split at h
  .rename_i hc;rw[<-h];obtain⟨hl,u⟩:=hc;have LB:nM [.lst Y,.int 3,.int 2]=.ok (.lst ((rT Y 3 2).map vd)):=NJ u (by decide) (by decide);have i:=PR Y 3 (m:=2) (by decide);obtain⟨c0,b0⟩:=yK u 0 (by decide) (by decide);obtain⟨c1,b1⟩:=yK u 1 (by decide) (by decide);obtain⟨c2,b2⟩:=yK u 2 (by decide) (by decide);have I:=DX (j9 b0 (show 2000000<=3000000 by decide));have t1:=DX (j9 b1 (show 2000000<=3000000 by decide));have t2:=DX (j9 b2 (show 2000000<=3000000 by decide));obtain⟨J,pb⟩:=CL (cK Y 0);obtain⟨N,y⟩:=CL (cK Y 1);obtain⟨r0,rb⟩:=CL (cK Y 2);generalize rT Y 3 2=L at*
   generalize cK Y 0=k0 at*
   generalize cK Y 1=k1 at*
   generalize cK Y 2=k2 at*
   generalize WH k0=p at*
   generalize WH k1=q at*
   generalize WH k2=r at*
   have F:=λ(t:Int) (h0:t≠0) (hb:bits t<=250)=>vD h0 hb i;obtain⟨_,f2,f3⟩:=F p J pb;obtain⟨g1,_,_⟩:=vD N y f3;obtain⟨_,g2,_⟩:=vD (t:=p*q) (k:=500) (λz=>(aAv.mp z).elim J N) (bits_mul pb y) i;rw[LZ]at g1;have mu:aM (.int p) (.int q)=.ok (.int (p*q)):=i7 (l8.of pb y);have O:=(F 1 (by decide) (by decide)).1;rw[QR i.2.2.2.2]at O;have fl:=EC (l:=L) (λz=>by obtain⟨A,hA,_⟩:=i.2.1;rw[z]at hA;cases hA) (λP hP=>(i.1 P hP).mono) (by have:=i.2.2.1;lia)
   have Q:=GM L;have n1:=EX Q;have U:GW (.lst (L.map vd)) (.lst (L.map vd))=.ok (.bl true):=by unfold GW;rw[ji ⟨Q,Q⟩,N7]
   have ll:L.length<sizeLine:=aBN i.2.2.1 (by decide);have ng:TQ (.int 1)=.ok (.int (-1)):=rfl;have lsl:∀a b c d e:D,DM [a,b,c,d,e]=.ok (.lst [a,b,c,d,e]):=λ_ _ _ _ _=>rfl;simp only[j0,aAt,aCe,aAI,aBA,aAu,aAY,aCC,aCD,aBv,aBw];refine v9 (by simp-implicitDefEqProofs only[l7,p5,z8,C6,R.aa0,LB,aAA,aAx];rfl) ?_;refine v9 (by simp-implicitDefEqProofs only[l7,p5,z8,C6,R.aa0,c0,I,aAA,aAx];rfl) ?_;refine v9 (by simp-implicitDefEqProofs only[l7,p5,z8,C6,R.aa0,c1,t1,aAA,aAx];rfl) ?_;refine v9 (by simp-implicitDefEqProofs [XJ];rfl) ?_;refine EZ (x:=[.int p,.int q,.int r,.int 1,.int (-1)]) (by simp-implicitDefEqProofs only[l7,p5,C9,z8,C6,R.aa0,c2,t2,ng,lsl,L8]) ?_;refine AQ (λρ=>∃z,ρ=[.v (.lst Y),.v (.lst (L.map vd)),.v (.int p),.v (.int q),.v (.lst (L.map vd)),z,.no]) ?_ ⟨_,rfl⟩ ?_
   .rintro d hd ρ ⟨z,rfl⟩;have ht:∃t:Int,d=.int t/\t≠0/\bits t<=250:=by
     simp only[aAd,aAG,or_false]at hd;rcases hd with rfl|rfl|rfl|rfl|rfl
     .exact⟨p,rfl,J,pb⟩
     .exact⟨q,rfl,N,y⟩
     .exact⟨r,rfl,r0,rb⟩
     .exact⟨1,rfl,by decide,by decide⟩
     .exact⟨-1,rfl,by decide,by decide⟩
    obtain⟨t,rfl,I,tb⟩:=ht;obtain⟨a1,a2,_⟩:=F t I tb;have gd:=qI (d9<|L.map<|G.J8 t);refine⟨[.v (.lst Y),.v (.lst (L.map vd)),.v (.int p),.v (.int q),.v (.lst (L.map vd)),.v (.int t),.no],?_,_,rfl⟩;simp-implicitDefEqProofs only[D8,aAA,aAx,orB,UA,l7,p5,K0,G8,C9,z8,R.aa0,a1,a2,gd,n1,lC,aCz,aAn,if_false]
   rintro ρ ⟨z,rfl⟩;have gd:=qI (d9<|L.map<|G.J8<|p*q);refine v9 (by simp-implicitDefEqProofs only[UA,l7,p5,K0,G8,C9,z8,R.aa0,f2,g1,mu,g2,gd,lC,aCz,aAn,if_false];rfl) ?_;refine v9 (by simp-implicitDefEqProofs only[l7,p5,C9,z8,C6,R.aa0,O,unl,aAA,aAx];rfl) ?_;refine v9 (ρ:=[.v (.lst Y),.v (.lst (L.map vd)),.v (.int p),.v (.int q),.v (.lst (L.map vd)),z,.o (L.map vd++[vd 0])]) ?_ ?_
   .have tp:dH [.int 0,.int 0,.int 0]=.ok (vd 0):=rfl;simp-implicitDefEqProofs only[l7,p5,C6,R.aa0,tp];exact ji (by rw[aAj];exact ll)
   simp-implicitDefEqProofs only[lw,l7,p5,K0,G8,C9,z8,C6,R.aa0,U,fl,O];rfl
  .cases h
end
end
end K51
section
namespace K51
open PySem L2 DL M
def truth (ns:List Int)(a:ns.length<=63)(b:∀x∈ns,aAW x<=1048576):jO [.lst (ns.map D.int)]=.ok (.bl true):=by unfold jO;exact ji ⟨by simpa using a,UH b⟩
section
variable [Tabs]
def all_mk {l:PySem.W.OpenLaw}{w:cp}{K:ka}{h:cq}{mg:Y1}{fa f35 Pt:bc}(X:K.In h)(G:h.Ns bt mg)(hfa:mg "law"=some (.ref fa))
  (g0:Got K "way_between" Z1)
  (g1:Got K "times" vK)
  (g2:Got K "cross_of" gF)
  (g3:Got K "product_of" bR)
  (g4:Got K "common_divisor" O9)
  (g5:Got K "plane_through" R8)
  (g6:Got K "side_of" kP)
  (g7:Got K "first_real_way" O6)
  (g8:Got K "dimension_of" z7)
  (g9:Got K "refuse_flat" Q5)
  (g10:Got K "points_on" X7)
  (g11:Got K "plane_about" Z7)
  (g12:Got K "first_pair" aZ)
  (g13:Got K "turn_of" kW)
  (g14:Got K "left_chain" bQ)
  (g15:Got K "ring_of" kD)
  (g16:Got K "pairs_round" Z4)
  (g17:Got K "faces_from" bC)
  (g18:TC K "faces_of" G7 Pt)
  (g19:Got K "corners_in" bK)
  (g20:Got K "body_of" fD)
  (g21:Got K "body_fold" M3)
  (g22:Got K "_law_cell" cD)
  (g23:Got K "_law_whole" bV)
  (g24:Got K "_law_dot" gZ)
  (g25:Got K "_law_cross" bI)
  (g26:Got K "_law_divisor" V5)
  (g27:Got K "_law_planes" Q4)
  (g28:Got K "_law_hull" X6)
  (g29:Got K "_law_put" gR)
  (g30:Got K "_law_body" R3)
  (g31:Got K "_law_times" bX)
  (g32:Got K "_law_folded" Q0)
  (g33:Got K "_law_good" X9)
  (g34:Got K "_law_flat" cE)
  {od35 an35:Option bc} {sl35:Array (Option af)} {oc35 kV35 dc35 pm35 cd35 ct35:af}
  (a35:PySem.W.nsIn K bt "law"=some (some (.ref f35))) (l35:K.lookup f35=some ⟨oc35,od35,.func (PySem.W.fnOf "law" "law" (E6 iJ) (o6 iJ) (c6 iJ) .none kV35 dc35 pm35 an35 cd35 ct35),sl35⟩) (e35:PySem.W.codeIn K cd35 "law"=true) (k35:PySem.W.keepIn K (.ref f35)=true)
  (z_abs:PySem.W.nsIn K bt "abs"=some none)
  (z_len:PySem.W.nsIn K bt "len"=some none)
  (z_any:PySem.W.nsIn K bt "any"=some none)
  (z_min:PySem.W.nsIn K bt "min"=some none)
  (z_list:PySem.W.nsIn K bt "list"=some none)
  (z_reversed:PySem.W.nsIn K bt "reversed"=some none)
  (z_zip:PySem.W.nsIn K bt "zip"=some none)
  (z_sorted:PySem.W.nsIn K bt "sorted"=some none)
  (z_set:PySem.W.nsIn K bt "set"=some none)
  (O:PySem.W.nsIn K bt "isinstance"=some none)
  (z_bool:PySem.W.nsIn K bt "bool"=some none)
  (z_int:PySem.W.nsIn K bt "int"=some none)
  (z_range:PySem.W.nsIn K bt "range"=some none)
  (z_max:PySem.W.nsIn K bt "max"=some none)
  (z_tuple:PySem.W.nsIn K bt "tuple"=some none)
  (Q:PySem.W.nsIn K bt "ValueError"=some none)
  {ou:bc} {dd_NO_WAY:Option bc} {tk0_NO_WAY tk1_NO_WAY tk2_NO_WAY:Tok} {nn_NO_WAY:Nat} {ss_NO_WAY:Array (Option af)}
  (ca_NO_WAY:PySem.W.nsIn K bt "NO_WAY"=some (some (.ref ou))) (cl_NO_WAY:K.lookup ou=some ⟨.type "tuple",dd_NO_WAY,.seq #[.int 0 tk0_NO_WAY,.int 0 tk1_NO_WAY,.int 0 tk2_NO_WAY] nn_NO_WAY,ss_NO_WAY⟩)
  (nt:(Pt,tbK)∈Tabs.tbs)
  {u y ag dn dg df bp dh fm:bc} {cd_NoPoints cd_Flat T:ClassData}
  (n_NoPoints:PySem.W.nsIn K bt "NoPoints"=some (some (.ref u)))
  (n_Flat:PySem.W.nsIn K bt "Flat"=some (some (.ref y)))
  (n_BodyError:PySem.W.nsIn K bt "BodyError"=some (some (.ref ag)))
  (n_NoName:PySem.W.nsIn K bt "NoName"=some (some (.ref dn)))
  (n_NoMove:PySem.W.nsIn K bt "NoMove"=some (some (.ref dg)))
  (n_NoAxis:PySem.W.nsIn K bt "NoAxis"=some (some (.ref df)))
  (n_TooGreat:PySem.W.nsIn K bt "TooGreat"=some (some (.ref bp)))
  (n_NoText:PySem.W.nsIn K bt "NoText"=some (some (.ref dh)))
  (n_NoRow:PySem.W.nsIn K bt "NoRow"=some (some (.ref fm)))
  (e_NoPoints:PySem.W.excIn K u uj "ValueError.__new__"=true) (h1_NoPoints:PySem.W.clsIn K u=some cd_NoPoints) (h2_NoPoints:PySem.W.mroIn K u (.type "object")=some true) (h3_NoPoints:PySem.W.mroIn K u (.type "BaseException")=some true)
  (h4_NoPoints:PySem.W.findIn K (.ref u) "__class__"=some (some (.builtin "object.__class__"))) (h5_NoPoints:PySem.W.findIn K (.ref u) "__getattribute__"=some (some (.builtin "BaseException.__getattribute__"))) (h6_NoPoints:PySem.W.findIn K (.ref u) "__getattr__"=some none) (s_NoPoints:PySem.W.mroIn K u (.ref ag)=some true)
  (e_Flat:PySem.W.excIn K y uj "ValueError.__new__"=true) (h1_Flat:PySem.W.clsIn K y=some cd_Flat) (h2_Flat:PySem.W.mroIn K y (.type "object")=some true) (h3_Flat:PySem.W.mroIn K y (.type "BaseException")=some true)
  (h4_Flat:PySem.W.findIn K (.ref y) "__class__"=some (some (.builtin "object.__class__"))) (h5_Flat:PySem.W.findIn K (.ref y) "__getattribute__"=some (some (.builtin "BaseException.__getattribute__"))) (h6_Flat:PySem.W.findIn K (.ref y) "__getattr__"=some none) (s_Flat:PySem.W.mroIn K y (.ref ag)=some true)
  (e_BodyError:PySem.W.excIn K ag uj "ValueError.__new__"=true) (U:PySem.W.clsIn K ag=some T) (Y:PySem.W.mroIn K ag (.type "object")=some true) (h3_BodyError:PySem.W.mroIn K ag (.type "BaseException")=some true)
  (h4_BodyError:PySem.W.findIn K (.ref ag) "__class__"=some (some (.builtin "object.__class__"))) (h5_BodyError:PySem.W.findIn K (.ref ag) "__getattribute__"=some (some (.builtin "BaseException.__getattribute__"))) (h6_BodyError:PySem.W.findIn K (.ref ag) "__getattr__"=some none) (s_BodyError:PySem.W.mroIn K ag (.ref ag)=some true)
  (d:PySem.W.kitOne K (.ref y) (.type "ValueError")=some true)
  (a:PySem.W.kitOne K (.ref u) (.type "ValueError")=some true)
  (B:PySem.W.kitOne K (.ref y) (.ref dn)=some false)
  (f:PySem.W.kitOne K (.ref u) (.ref dn)=some false)
  (C:PySem.W.kitOne K (.ref y) (.ref dg)=some false)
  (g:PySem.W.kitOne K (.ref u) (.ref dg)=some false)
  (E:PySem.W.kitOne K (.ref y) (.ref df)=some false)
  (i:PySem.W.kitOne K (.ref u) (.ref df)=some false)
  (i_Flat_Flat:PySem.W.kitOne K (.ref y) (.ref y)=some true)
  (o:PySem.W.kitOne K (.ref u) (.ref y)=some false)
  (p:PySem.W.kitOne K (.ref y) (.ref bp)=some false)
  (b:PySem.W.kitOne K (.ref u) (.ref bp)=some false)
  (H:PySem.W.kitOne K (.ref y) (.ref dh)=some false)
  (j:PySem.W.kitOne K (.ref u) (.ref dh)=some false)
  (i_Flat_NoRow:PySem.W.kitOne K (.ref y) (.ref fm)=some false)
  (k:PySem.W.kitOne K (.ref u) (.ref fm)=some false)
  (q:PySem.W.kitOne K (.ref y) (.ref u)=some false)
  (c:PySem.W.kitOne K (.ref u) (.ref u)=some true)
  (truth:∀ns:List Int,ns.length<=63->(∀x∈ns,aAW x<=1048576)->jO [.lst (ns.map D.int)]=.ok (.bl true)):
  ∃fd:dC,(∀(s:a9) (v:af),BindsTo s fd ⟨[v],[]⟩ [("script",v)])/\∀base:cq,K.In base->base.Ns bt mg->jC mg base->FnOk l.prog w K mg base rV 13 fa fd ["script"] (wP K):=by
 have e:=hfa.symm.trans (PySem.W.mg_of X G a35);cases e;have vg:=PySem.W.mg_none_of X G z_abs;have fg:=PySem.W.mg_none_of X G z_len;have b_any:=PySem.W.mg_none_of X G z_any;have b_min:=PySem.W.mg_none_of X G z_min;have jc:=PySem.W.mg_none_of X G z_list;have ma:=PySem.W.mg_none_of X G z_reversed;have b_zip:=PySem.W.mg_none_of X G z_zip;have cb:=PySem.W.mg_none_of X G z_sorted;have oo:=PySem.W.mg_none_of X G z_set;have ai:=PySem.W.mg_none_of X G O;have zb:=PySem.W.mg_none_of X G z_bool;have b_int:=PySem.W.mg_none_of X G z_int;have kr:=PySem.W.mg_none_of X G z_range;have b_max:=PySem.W.mg_none_of X G z_max;have ku:=PySem.W.mg_none_of X G z_tuple;have ib:=PySem.W.mg_none_of X G Q;have ic:=PySem.W.mg_of X G n_NoPoints;have qi:=PySem.W.mg_of X G n_Flat;have k_BodyError:=PySem.W.mg_of X G n_BodyError;have me:=PySem.W.mg_of X G n_NoName;have mf:=PySem.W.mg_of X G n_NoMove;have mh:=PySem.W.mg_of X G n_NoAxis;have jl:=PySem.W.mg_of X G n_TooGreat;have mi:=PySem.W.mg_of X G n_NoText;have ql:=PySem.W.mg_of X G n_NoRow;have gc:LH K mg "NO_WAY" [0,0,0]:=YY (PySem.W.mg_of X G ca_NO_WAY) cl_NO_WAY;have dc:XCls K mg ag "NoPoints" u:=wW ic e_NoPoints h1_NoPoints h2_NoPoints h3_NoPoints h4_NoPoints h5_NoPoints h6_NoPoints s_NoPoints;have jb:XCls K mg ag "Flat" y:=wW qi e_Flat h1_Flat h2_Flat h3_Flat h4_Flat h5_Flat h6_Flat s_Flat;have gm:XCls K mg ag "BodyError" ag:=wW k_BodyError e_BodyError U Y h3_BodyError h4_BodyError h5_BodyError h6_BodyError s_BodyError;refine⟨PySem.W.fnOf "law" "law" (E6 iJ) (o6 iJ) (c6 iJ) .none kV35 dc35 pm35 an35 cd35 ct35,λs v=>.of_eq rfl,λbase _ _ hB=>?_⟩;have eh:v7 l.prog w K mg base 1 "way_between" 2 v8:=o7 (g0.def X G);have vh:v7 l.prog w K mg base 1 "times" 2 iW:=iU (g1.def X G);have ie:v7 l.prog w K mg base 1 "cross_of" 2 D9:=D4 (g2.def X G);have fu:v7 l.prog w K mg base 1 "product_of" 2 l5:=x9 (g3.def X G);have m:v7 l.prog w K mg base 1 "common_divisor" 1 J4:=P7 vg (g4.def X G);have r:=S6 ie eh m fu (g5.def X G);have r_side_of:v7 l.prog w K mg base 1 "side_of" 2 aL:=lO (g6.def X G);have n:v7 l.prog w K mg base 1 "first_real_way" 1 z6:=J6 gc (g7.def X G);have gg:v7 l.prog w K mg base 2 "dimension_of" 1 p8:=A1 eh n ie fu fg b_any (g8.def X G);have t:bZ l.prog w K mg base 2 "dimension_of" 1 (sW u):=S5 fg dc (g8.def X G);have I:v7 l.prog w K mg base 3 "refuse_flat" 1 B4:=Z0 gg (g9.def X G);have z:bZ l.prog w K mg base 3 "refuse_flat" 1 (S9 y u):=W6 gg t jb (g9.def X G);have kg:=G5 r_side_of (g10.def X G);have jg:=K1 eh fu ie r gc (g11.def X G);have r_first_pair:=bT kg jg gg b_min (g12.def X G);have r_turn_of:=jZ fu ie eh (g13.def X G);have r_left_chain:=U4 r_turn_of fg (g14.def X G);have r_ring_of:=kJ r_left_chain jc ma (g15.def X G);have J:v7 l.prog w K mg base 1 "pairs_round" 1 y8:=Y7 jc b_zip (g16.def X G);have r_faces_from:=bG jg r_ring_of J fg cb (g17.def X G);have r_faces_of:v7 l.prog w K mg base 9 "faces_of" 1 O7:=gD kg I r_first_pair r_faces_from cb oo hB nt (g18.def X G);have rx_faces_of:bZ l.prog w K mg base 9 "faces_of" 1 (S9 y u):=dU z (g18.def X G);have jh:kZ l.prog w K mg base 8 "corners_in" 1 E8:=Y8 cb oo (g19.def X G);have r_corners_in:=jh.cal;have ml:kZ l.prog w K mg base 10 "body_of" 1 U6:=fX r_faces_of jh (g20.def X G);have r_body_of:=ml.cal;have rx_body_of:bZ l.prog w K mg base 10 "body_of" 1 (S9 y u):=gS r_corners_in rx_faces_of (g20.def X G);have jt:kZ l.prog w K mg base 11 "body_fold" 2 lH:=bH vh ml (g21.def X G);have r_body_fold:=jt.cal;have rx_body_fold:bZ l.prog w K mg base 11 "body_fold" 2 (iF y u):=bU vh rx_body_of (g21.def X G);have kh:v7 l.prog w K mg base 1 "_law_cell" 2 aO:=C8 fg (g22.def X G);have r__law_whole:v7 l.prog w K mg base 1 "_law_whole" 1 dS:=bL ai zb b_int (g23.def X G);have mn:v7 l.prog w K mg base 1 "_law_dot" 2 l5:=P6 (g24.def X G);have r__law_cross:v7 l.prog w K mg base 1 "_law_cross" 3 uN:=bN (g25.def X G);have A:v7 l.prog w K mg base 1 "_law_divisor" 2 F6:=N1 vg (g26.def X G);have L:=Z2 r__law_cross A mn kr fg b_max (g27.def X G);have r__law_hull:=dI L mn cb oo fg (g28.def X G);have r__law_put:v7 l.prog w K mg base 1 "_law_put" 3 wC:=iE (g29.def X G);have r__law_body:=dD kh r__law_hull r__law_put kr ku (g30.def X G);have r__law_times:v7 l.prog w K mg base 1 "_law_times" 1 FA:=M8 (g31.def X G);have N:v7 l.prog w K mg base 8 "_law_folded" 2 aR:=K3 cb (g32.def X G);have r__law_good:=Y5 r__law_whole ai jc fg ku (g33.def X G);have r__law_flat:=cG ai ib rx_body_fold gm jb dc me mf mh qi jl mi ql ic d a B f C g E i i_Flat_Flat o p b H j i_Flat_NoRow k q c (g34.def X G);exact UB (o_law r__law_body r__law_times kh r__law_good r_body_fold N r__law_flat jt jc<|OM (st:=iJ) l35 e35 k35) truth
end
end K51
namespace PySem.W.Fast
def tw13442422339576655132:=0
def tw16368908524807331373:=0
def tw4528852875692656642:=0
def tw15208520901574663377:=0
def tw1214646889095739922:=0
def tw14929619124118795176:=0
def tw8517384281799153760:=0
def tw15733462070620721624:=0
def tw13478171316460756413:=0
def tw3419324530677664428:=0
def tw12462778780387601914:=0
def tw3765826937808413399:=0
def tw16053345158619551819:=0
def tw11327016194795755870:=0
def tw8932171140562754555:=0
def tw14139683054170034941:=0
def tw5358079840342932841:=0
def tw11661121769584274177:=0
def tw16178894732541475660:=0
def tw206175215032283030:=0
def tw1947577165087254280:=0
def tw8453237434169605301:=0
def tw8167570905010145708:=0
def tw9904425714407980327:=0
def tw1613415423324090579:=0
def tw10858312275286016664:=0
def tw12852917897494984377:=0
def tw12232120365832310950:=0
def tw13385450599592907824:=0
def tw12523654517222703136:=0
def tw14921877247345325406:=0
def tw1979660716177535103:=0
def tw2272894821608254153:=0
def tw11598048964725541318:=0
def tw3111221138219279666:=0
def tw15870697365953438282:=0
def tw14387632731475221827:=0
def tw16446078606163866439:=0
def tw9783122313589534978:=0
def tw15220684197936037420:=0
def tw14512797315103395974:=0
def tw10392900094621139302:=0
def tw401516945720069613:=0
def tw12385831656832089865:=0
def tw4951761513720081874:=0
def tw14088739858426334519:=0
def tw9728093944702532517:=0
def tw18252584832450946287:=0
def tw15794911823964412148:=0
def tw10900483008819538823:=0
def tw17103927153607290058:=0
def tw9061031252477663055:=0
def tw16300534343867982240:=0
def tw8965181856210205676:=0
def tw17986791739066126103:=0
def tw3778607369319421177:=0
def tw5475021036169894998:=0
def tw7120452621041617776:=0
def tw16726802855425961485:=0
def tw6976807989180706137:=0
def tw10407999022566397240:=0
def tw5071241576768760598:=0
def tw458714519730699270:=0
def tw6650118108103913314:=0
def tw17592575322124732081:=0
def tw8655005077229339418:=0
def tw4941063564912273734:=0
def tw10790466559304286878:=0
def tw10044233262923672122:=0
def tw13739997079931765126:=0
def tw15123232580694696296:=0
def tw12453290888108540843:=0
def tw12513329852736351238:=0
def tw14205135235151924429:=0
def tw8926527881787962037:=0
def tw978377742280578793:=0
def tw16312510282696069839:=0
def tw18121392157692209037:=0
def tw7179618456106335153:=0
def tw9342779097240074114:=0
def tw1169548244342045484:=0
def tw5535504033393121100:=0
def tw9114702454622446249:=0
def tw17990371067904861745:=0
def tw12877207704909511323:=0
def tw10439832053716764835:=0
def tw14097558561372354789:=0
def tw2230576822265424138:=0
def tw15831512088594345137:=0
def tw4468215259293219666:=0
def tw13116441516253273612:=0
def tw9825507943373420979:=0
def tw7364151746337660608:=0
def tw6928412218920158482:=0
def tw15803941527356828018:=0
def tw6279241707773461977:=0
def tw11084225038168739210:=0
def tw15547286713647686503:=0
def tw5613281949278850616:=0
def tw3278360617609916576:=0
def tw1181252486185324482:=0
def tw8883203922315855797:=0
def tw18354019291349638300:=0
def tw11420265774854830780:=0
def tw16220088478331537078:=0
def tw7069848281365736440:=0
def tw11896781954270209561:=0
def tw17161152464349959615:=0
def tw11455440972306077608:=0
def tw241134651774209297:=0
def tw14120436934239088733:=0
def tw2781288088138336563:=0
def tw10675425581827779907:=0
def tw216189718663307368:=0
def tw13990374235564290969:=0
def tw16121529973204269744:=0
def tw3357184713320118099:=0
def tw1218919733102023481:=0
def tw14292745684862137584:=0
def tw5047929612876338368:=0
def tw9148293210896972950:=0
def tw4340288926792133017:=0
def tw5009874055742648241:=0
def tw8562325946441965063:=0
def tw15817565094010467985:=0
def tw3426314109392828210:=0
def tw559651532356240509:=0
def tw11100213922145183338:=0
def tw4385862021272814081:=0
def tw7209467527548700659:=0
def tw8527342948281880133:=0
def tw9982429124118032235:=0
def tw6862754740290568847:=0
def tw14764005022577260859:=0
def tw14401699948657690239:=0
def tw13257679299584396038:=0
def tw13921740879744119366:=0
def tw5982805392829880125:=0
def tw7048506351497339275:=0
def tw11543118312225766998:=0
def tw9891884600502573364:=0
def tw7680197135309180422:=0
def tw17708910411405817945:=0
def tw447918458875931960:=0
def tw13080795994586027008:=0
def tw13790311850125060936:=0
def tw15564227237249747558:=0
def tw16129674399202866071:=0
def tw5762342798475394244:=0
def tw1278118686911266157:=0
def tw1743698705269782718:=0
def tw11506801194546138110:=0
def tw5839840232137857398:=0
def tw3485864995684318634:=0
def tw10876512652476279180:=0
end PySem.W.Fast
open PySem PySem.W PyProof.Rows
set_option maxRecDepth 100000 in
theorem PySem.Challenge.cw_stakebodies_k51_folds_holds : PySem.Challenge.rw_stakebodies_k51_folds.Holds := by
 w_on;o_law;k_head;(case hw=>w_witness2)
 k_fill
 letI tabs9:DL.Tabs:=⟨[(248,K51.tbK)]⟩
 refine DL.UC (l:=PySem.Challenge.rw_stakebodies_k51_folds) (k:=13) rfl rfl ⟨rfl,by decide,by decide⟩ (λw h Y=>⟨PySem.W.km_in_of Y,PySem.W.km_tabs_of Y⟩) (DL.SX (c:=252) (by k_mem) (λw=>by kernel_rfl)) (aAR.mpr ⟨aAG,aDh⟩) (λw=>by kernel_rfl) ?F
 case F=>
  intro w mg fa h KX G hmg;refine' K51.all_mk KX G hmg ?_ ?_ ?_ ?_ ?_ ?_ ?_ ?_ ?_ ?_ ?_ ?_ ?_ ?_ ?_ ?_ ?_ ?_ ?_ ?_ ?_ ?_ ?_ ?_ ?_ ?_ ?_ ?_ ?_ ?_ ?_ ?_ ?_ ?_ ?_ ?a35 ?l35 ?e35 ?k35 ?z_abs ?z_len ?z_any ?z_min ?z_list ?z_reversed ?z_zip ?z_sorted ?z_set ?z_isinstance ?z_bool ?z_int ?z_range ?z_max ?z_tuple ?z_ValueError ?ca_NO_WAY ?cl_NO_WAY (aBb.mpr rfl) ?n_NoPoints ?n_Flat ?n_BodyError ?n_NoName ?n_NoMove ?n_NoAxis ?n_TooGreat ?n_NoText ?n_NoRow ?e_NoPoints ?h1_NoPoints ?h2_NoPoints ?h3_NoPoints ?h4_NoPoints ?h5_NoPoints ?h6_NoPoints ?s_NoPoints ?e_Flat ?h1_Flat ?h2_Flat ?h3_Flat ?h4_Flat ?h5_Flat ?h6_Flat ?s_Flat ?e_BodyError ?h1_BodyError ?h2_BodyError ?h3_BodyError ?h4_BodyError ?h5_BodyError ?h6_BodyError ?s_BodyError ?i_Flat_ValueError ?i_NoPoints_ValueError ?i_Flat_NoName ?i_NoPoints_NoName ?i_Flat_NoMove ?i_NoPoints_NoMove ?i_Flat_NoAxis ?i_NoPoints_NoAxis ?i_Flat_Flat ?i_NoPoints_Flat ?i_Flat_TooGreat ?i_NoPoints_TooGreat ?i_Flat_NoText ?i_NoPoints_NoText ?i_Flat_NoRow ?i_NoPoints_NoRow ?i_Flat_NoPoints ?i_NoPoints_NoPoints K51.truth
  all_goals first|(refine' DL.kj ?a ?l ?c ?k;(case a=>k_is);(case l=>k_is);(case c=>k_is);(case k=>k_is))|(refine' DL.TV ?a ?l ?c ?k rfl ?n;(case a=>k_is);(case l=>k_is);(case c=>k_is);(case k=>k_is);(case n=>kernel_rfl))|k_is|k_exc|kit_is|skip
end
