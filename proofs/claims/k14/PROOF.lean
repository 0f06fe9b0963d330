import PyProof.Rows.All
import Wide.All
import OpenK.AllK
import Wide.FinOn
import Lean
import PyProof.EqAt
import PyProof.EqKinds
import PyProof.TupleCall
import PyProof.NeKinds
import KE.RegKIsAll
import PyProof.ExcClass3
import PySem.SetTable
import PySem.Value
import PyProof.Rows.SortShellK
import OpenK.KOwn
import KE.KNestM
import PyProof.Rows.StrWeight2
import KE.KRevSl
import PyProof.CollectIter
import PyProof.SetKind
import PyProof.Walks
import PyProof.ForAny
import PyProof.FactsAll.set_1
import PyProof.FactsAll.set_2
import PyProof.ZipIter
import KE.KRevIter
import PyProof.ListNew
import PyProof.ConsumeS
import KE.KIsAll
import PyProof.DictWalks
import KE.KDictList
import PyProof.WalksMore
import PySem.Challenge.RW_stakebodies_k14_the_same_body
set_option Elab.async false
set_option linter.all false
set_option backward.eqns.nonrecursive false
set_option maxRecDepth 100000
set_option maxHeartbeats 4000000
theorem i6{c:Prop}{h:Decidable c}(k:c){α:Sort _}{t e:α}:ite c t e=t:=if_pos k
theorem ja{c:Prop}{h:Decidable c}(k:¬c){α:Sort _}{t e:α}:ite c t e=e:=if_neg k
theorem jk{α:Sort _}{β:Sort _}{a b:α}(f:α->β)(h:a=b):f a=f b:=congrArg f h
abbrev ka:=PySem.W.Frag
abbrev kc:PySem.Str:="__debug__"
abbrev kd:PySem.Str:="__classdict__"
open PySem renaming Value → au, wpAny → av, starEach → a5, Shared → a9, Addr → bb, model → bc, Program → be, mainGlobals → bt, Around → cp, World → cq, Heap → cv, bootBuiltins → cy, Expr → df, Stmt → dm, backTo → dq, cLine → dA, eval → dC, rawInt → d3, FuncData → d9, assignEach → ee, cellsFrom → ek, binaryOp → et, NameKind → eu, compareOp → ez, swapsWith → eQ, argBest → eR, SetTable → eY, codeAmong → eZ, pyNext → ff, foldedSetIterable → fh, holding → fo, codeAny → fu, IsPair → gh, swapsWithSole → gn, swappedStores → gr, attributeBase → gs, sysModules → gW, assign → hV, sliceBounds → h9, DictEntry → ij, updateSeq → ik, behindInMarks → il, numAt → i3, Scope → i4, pickOrder → i5, wpAny_bind → aAa, wpAny_pure → aAb, wpAny_holding → aAN, wpAny_Call_Name_kw → aAO, wpAny_newObj_type → aAX, wpAny_call_entry → aBp, wpAny_specialOf → aBB, codeAny_builtin → aBC, wpAny_truthy_bool → aBO, wpAny_seqItems → aBR, plainId_quiet → aBT, wpAny_callSpecial?_slot → aCb, wpAny_setField_rec → aCd, wpAny_updateSeq → aCf, wpAny_setState_of → aCl, builtinLookup_eq_fast → aCq, wpAny_forIn_list → aCv, wpAny_mono → aCE, wpAny_field → aCQ, wpAny_passesOwn → aCS, wpAny_isInstance → aDf, wpAny_typeNameOfWhole_keyiter → aDg, wpAny_nextOf_list_item → aDk, wpAny_callSpecialIfBoundUnlessNone?_slot → aDp, typeLookup_type → aDv, wpAny_rule → aDx, wpAny_pyIter_list → aDz, codeAny_mono → aDQ, wpAny_typeOf → aDR, wpAny_attempt → aDY, wpAny_pyIter_slot → aEe, wpAny_letGo → aEf, wpAny_execs_cons → aEs, wpAny_standAt → aEz, wpAny_execs_nil → aEE, wpAny_loadPart' → aEF, pushCells_keeps → aEG, wpAny_setEntries_of → aEI, slot_dict_contains → aFe, isSubtype_type → aFh, wpAny_tryCatch → aFi, wpAny_Assign_Name → aFn, slot_list_getitem → aFq, sizeLine_eq → aFv, noFill_tuple_add → aFD, beq_builtin_none → aFE, wpAny_askSetting → aFF, concat_meets → aFP, wpAny_newTuple → aGc, wpAny_runValue → aGe, wpAny_fieldsOf → aGf, wpAny_setField → aGg, isSubtype_stop → aGh, wpAny_of_eq → aGn
open PySem.Heap renaming get?_push_of_some → aAc, lt_size → aAh, get?_push_size → aAq, get?_update_other → aAE, get?_update_self → aBh, size_push → aBJ, get?_none_of_le → aEy
open List renaming getElem?_eq_getElem → aAd, mem_cons → aAe, length_map → aAf, mem_cons_of_mem → aAg, getD_eq_getElem?_getD → aAi, size_toArray → aAn, mem_of_getElem? → aAo, mem_map → aAp, length_cons → aAt, map_cons → aAu, length_append → aAx, getElem?_eq_some_iff → aAy, pairwise_cons → aAA, getElem?_append_right → aAB, mem_append_right → aAC, getElem?_map → aAF, not_mem_nil → aAG, nodup_cons → aAH, set_cons_succ → aAI, set_cons_zero → aAJ, reverse_cons → aAK, mem_append → aAL, range → aAQ, mem_singleton → aAT, getElem?_append_left → aAU, mem_cons_self → aAW, cons_append → aBb, length_take → aBd, mem_append_left → aBf, lookup_cons → aBi, getElem_of_mem → aBj, length_nil → aBm, getLast?_cons_cons → aBq, mem_map_of_mem → aBs, dropLast_concat → aBt, all_eq_true → aBu, pairwise_map → aBv, map_map → aBw, getElem?_replicate → aBz, mem_flatMap → aBA, eq_nil_of_length_eq_zero → aBD, getElem_mem → aBE, map_append → aBF, getElem?_zip_eq_some → aBH, getElem?_set_self → aBL, lookup_cons_self → aBN, mem_range → aBP, getElem?_eq_none_iff → aBQ, length_reverse → aBV, mem_iff_getElem? → aBX, zip_cons_cons → aBY, mem_filterMap → aBZ, mem_filter → aCa, forall_mem_cons → aCg, mem_reverse → aCh, nodup_iff_pairwise_ne → aCj, pairwise_iff_getElem → aCm, length_replicate → aCp, length_drop → aCu, getElem?_set_ne → aCw, map → aCy, set → aCz, nodup_append → aCD, filterMap_cons → aCG, append_nil → aCH, perm_ext_iff_of_nodup → aCL, getElem?_toArray → aCN, replicate → aCO, mem_of_getLast? → aCR, forIn_cons → aCW, nil_append → aCX, getElem?_cons_zero → aCZ, getElem?_cons_succ → aDb, replicate_succ → aDd, replicate_zero → aDe, nodup_nil → aDh, take_of_length_le → aDj, filterMap_map → aDl, foldl_cons → aDs, ext_getElem? → aDw, mem_of_mem_take → aDC, mem_of_mem_drop → aDD, drop_eq_getElem_cons → aDH, length_tail → aDL, map_congr_left → aDM, length_pos_iff → aDN, map_nil → aDS, pairwise_singleton → aDU, of_mem_zip → aDV, sum_cons → aDW, length_pos_of_mem → aEd, forIn_nil → aEg, pairwise_reverse → aEi, take_append_drop → aEk, dropLast_eq_take → aEp, getElem?_eq_none → aEq, any_eq_true → aEr, zipIdx_cons → aEu, getElem_map → aEv, map_reverse → aEw, zipIdx_nil → aEH, filter_sublist → aEO, exists_cons_of_ne_nil → aEP, head?_reverse → aEU, getLast?_cons → aEV, exists_mem_of_ne_nil → aFf, drop_zero → aFg, length_erase_of_mem → aFk, append_assoc → aFr, length → aFt, eraseIdx_cons_succ → aFw, map_take → aFz, nodup_range → aFB, getElem_inj → aFC, range_succ_eq_map → aFI, drop_eq_nil_of_le → aFL, length_set → aFQ, mem_erase_of_ne → aFU, length_dropLast → aFW, range_eq_range' → aGb, all_cons → aGq, map_tail → aGt
open Nat renaming le_refl → aAj, ne_of_lt → aAm, le_trans → aAr, lt_of_lt_of_le → aAv, zero_le → aBk, lt_irrefl → aBo, lt_succ_of_lt → aBK, ne_of_gt → aCA, le_of_succ_le → aCF, lt_or_eq_of_le → aDm, lt_of_le_of_lt → aDn, le_of_lt → aDt, lt_succ_self → aDK, zero_add → aDO, mod_lt → aDP, min_eq_left → aDZ, mul_le_mul → aEh, le_of_eq → aEo, le_of_not_lt → aEt, reduceAdd → aEA, reduceSub → aEB, lt_or_gt_of_ne → aEY, le_of_lt_succ → aFm, gcd_dvd_left → aFA, le_add_right → aFG, not_lt_zero → aFN, gcd_comm → aFS, gcd → aGi, lt_trans → aGE, succ_pos → aGF
open False renaming elim → aAk
open Option.some renaming inj → aAl, injEq → aGx
open Bool renaming false_eq_true → aAs, and_eq_true → aAP, false_ne_true → aAY, eq_iff_iff → aCV, not_true → aDa, and_eq_true_iff → aGa, and_false → aGd
open Int renaming mul_eq_zero → aAw, le_of_lt → aAS, mul_le_mul_of_nonneg_right → aAV, toNat_natCast → aAZ, mul_pos → aBa, mul_le_mul_of_nonneg_left → aBc, mul_neg_of_pos_of_neg → aBr, mul_nonneg → aBG, le_refl → aCt, neg_mul_neg → aDq, lt_or_le → aDr, fmod_eq_emod_of_nonneg → aDB, eq_of_mul_eq_mul_left → aDE, mul_nonpos_of_nonneg_of_nonpos → aDT, mul_zero → aEj, mul_ediv_cancel' → aEx, toNat → aEJ, mul_lt_mul_of_pos_left → aEQ, le_of_mul_le_mul_right → aER, natAbs_eq_zero → aEW, ofNat_dvd_left → aEX, neg_nonneg_of_nonpos → aFj, mul_assoc → aFs, gcd → aGA, le_total → aGC, mul_comm → aGD
open Array renaming getElem?_eq_getElem → aAz, getElem?_toList → aAD, length_toList → aBl, getElem?_eq_none → aBM, getElem?_eq_some_iff → aCk, forIn_toList → aCs, replicate → aED, perm_iff_toList_perm → aES, getD → aFl, toList → aFO, getElem_toList → aFZ, toList_append → aGm
open PySem.Builtin.Tuple renaming tupleHashOf → aAM, tupleExact → aCT, tupleItemsOf → aDA
open PySem.PassesOwn renaming never → aAR
open PySem.Builtin.Int renaming intBits → aBe
open PySem.Around renaming under_plainId → aBg, frames_deeper → aFV
open PyProof.Rows renaming callWith_type1 → aBn, callWith_builtin1 → aBx, wpS_bind → aBy, wpS_pure → aCn, slot_tuple_getitem → aCC, wpS_forRange → aEm, listItems_at → aEn, envOfC → aEN, pairsOf_size → aEZ, assignInOrder_cons → aFa, KK_mirror_equal → aFM, mirror_perm → aGj, wpS_reverse → aGk
open PySem.Obj renaming mapSeq → aBI, putSet → aEC
open PySem.Builtin.SmallTypes renaming nextOf → aBS, ownedTupleIsFree → aBW, ownedTupleHandOut → aDJ
open Or renaming inr → aBU, inl → aCK
open PySem.NameKind renaming cell → aCc
open PySem.Builtin.List renaming listExtendWith → aCe, listLengthHint → aCI, listItems → aCJ, listTooLong → aCU, listSameRef → aCY, listTouch → aFK
open Ne renaming symm → aCi
open ForInStep renaming yield → aCo
open PySem.Value renaming type → aCr, ref → aDu, bool → aDy, builtin → aGr, int → aGJ
open PySem.Builtin.Range renaming rangeSize → aCx, small → aGl
open PySem.Str renaming ofString → aCB
open PySem.F renaming plain_min_loop → aCM, plain_extend_loop → aDc, slot_dict_keyiterator_next → aDo, slot_zip_next → aEc, entry_min_loop → aFH
open PySem.Builtin.Slice renaming slicePlaces → aCP, sliceAdjust → aDG, sliceApplied → aET
open Option renaming map_eq_some_iff → aDi, isSome_iff_exists → aFp
open Classical renaming byContradiction → aDF, propDecidable → aEb
open PySem.SetTable renaming below → aDI, bits → aDX, fits → aGs, insertAt → aGB, tooFull → aGH
open PySem.SeqAt.EqAt renaming same → aEa, int_int → aFc, of_refs → aFd, int_tuple → aFX, tuple_int → aFY, int_str → aGo, str_int → aGp
open PySem.Heap.SameBut renaming update → aEK, refl → aGz
open PySem.Builtin.Builtins renaming bindParams → aEL
open List.cons renaming injEq → aEM
open PySem.Calls renaming spliced_cons → aFb, spliced_nil → aFo, callWith_builtin → aFJ
open Prod renaming ext → aFu
open PySem.Moved renaming trans → aFx
open PySem.Builtin.Frozenset renaming slot0 → aFy
open PySem.Builtin.Dict renaming showsAll → aFR
open List.Pairwise renaming filter → aFT, nil → aGu
open Sum renaming inl → aGv, inr → aGw
open True renaming intro → aGy
open PySem.pickOrder renaming go → aGG
open Array.Perm renaming refl → aGI
abbrev F5:=PySem.Value->PySem.Shared->Prop
abbrev Q6:=List (PySem.Addr×PySem.Obj)
abbrev fL:=PySem.Str->Option PySem.Value
abbrev AD:=Bool->PySem.Shared->Prop
noncomputable section
namespace G
structure V where
 x:Int
 y:Int
 z:Int
deriving DecidableEq
instance:Add V:=⟨λu v=>⟨u.x+v.x,u.y+v.y,u.z+v.z⟩⟩
instance:Sub V:=⟨λu v=>⟨u.x-v.x,u.y-v.y,u.z-v.z⟩⟩
instance:Neg V:=⟨λu=>⟨-u.x,-u.y,-u.z⟩⟩
instance:HMul Int V V:=⟨λk u=>⟨k*u.x,k*u.y,k*u.z⟩⟩
instance:OfNat V 0:=⟨⟨0,0,0⟩⟩
@[simp]def a3y (u v:V):(u+v).x=u.x+v.x:=rfl
@[simp]def a5a (u v:V):(u+v).y=u.y+v.y:=rfl
@[simp]def a4l (u v:V):(u+v).z=u.z+v.z:=rfl
@[simp]def XS (u v:V):(u-v).x=u.x-v.x:=rfl
@[simp]def YV (u v:V):(u-v).y=u.y-v.y:=rfl
@[simp]def YY (u v:V):(u-v).z=u.z-v.z:=rfl
@[simp]def YT (u:V):(-u).x=-u.x:=rfl
@[simp]def YS (u:V):(-u).y=-u.y:=rfl
@[simp]def YC (u:V):(-u).z=-u.z:=rfl
@[simp]def RU (k:Int)(u:V):(k*u).x=k*u.x:=rfl
@[simp]def TD (k:Int)(u:V):(k*u).y=k*u.y:=rfl
@[simp]def NQ (k:Int)(u:V):(k*u).z=k*u.z:=rfl
@[simp]def bG:(0:V).x=0:=rfl
@[simp]def aS:(0:V).y=0:=rfl
@[simp]def aW:(0:V).z=0:=rfl
def ext {u v:V}(a:u.x=v.x)(b:u.y=v.y)(c:u.z=v.z):u=v:=by cases u;cases v;simp_all
def qT {u v:V}:u=v↔u.x=v.x/\u.y=v.y/\u.z=v.z:=⟨λh=>by subst h;exact⟨rfl,rfl,rfl⟩,λ⟨a,b,c⟩=>ext a b c⟩
def c9 (u v:V):Int:=u.x*v.x+u.y*v.y+u.z*v.z
def cr (u v:V):V:=⟨u.y*v.z-u.z*v.y,u.z*v.x-u.x*v.z,u.x*v.y-u.y*v.x⟩
def i9 (a u v:V):Int:=c9 a (cr u v)
@[simp]def TZ (u v:V):(cr u v).x=u.y*v.z-u.z*v.y:=rfl
@[simp]def US (u v:V):(cr u v).y=u.z*v.x-u.x*v.z:=rfl
@[simp]def UU (u v:V):(cr u v).z=u.x*v.y-u.y*v.x:=rfl
def CI (a u v w:V):i9 a u v*w+i9 a v w*u+i9 a w u*v=i9 u v w*a:=by apply ext<;>simp[i9,c9]<;>grind
def TF (f a u v w:V):i9 a u v*c9 f w+i9 a v w*c9 f u+i9 a w u*c9 f v=i9 u v w*c9 f a:=by simp[i9,c9];grind
def l6 (a u v:V):i9 a v u=-i9 a u v:=by simp[i9,c9];grind
def D6 (a u:V):i9 a u u=0:=by simp[i9,c9];grind
def bQ (a u v w:V):i9 a (u+v) w=i9 a u w+i9 a v w:=by simp[i9,c9];grind
def bZ (a u v w:V):i9 a u (v+w)=i9 a u v+i9 a u w:=by simp[i9,c9];grind
def NX (a u v w:V):i9 a u (v-w)=i9 a u v-i9 a u w:=by simp[i9,c9];grind
def BX (a:V)(k:Int)(u v:V):i9 a u (k*v)=k*i9 a u v:=by simp[i9,c9];grind
def fU (u v:V):c9 u v=c9 v u:=by simp[c9];grind
def aJ (f u v:V):c9 f (u+v)=c9 f u+c9 f v:=by simp[c9];grind
def d8 (f u v:V):c9 f (u-v)=c9 f u-c9 f v:=by simp[c9];grind
def u6 (f:V)(k:Int)(v:V):c9 f (k*v)=k*c9 f v:=by simp[c9];grind
def J7 (f:V)(k:Int)(v:V):c9 (k*f) v=k*c9 f v:=by simp[c9];grind
def L6 (f:V):c9 f 0=0:=by simp[c9]
def X6 (a u v:V):c9 (cr a u) v=i9 a u v:=by simp[i9,c9];grind
def A7 {u:V}(h:u≠0):0<c9 u u:=by
 have f:u.x≠0\/u.y≠0\/u.z≠0:=by
  by_cases a:u.x=0
  .by_cases b:u.y=0
   .by_cases c:u.z=0
    .exact absurd (ext a b c) h
    .exact .inr (.inr c)
   .exact .inr (.inl b)
  .exact .inl a
 have e:∀t:Int,0<=t*t:=λt=>by
  rcases aGC 0 t with q|q
  .exact aBG q q
  .have:=aBG (aFj q) (aFj q);rwa [aDq]at this
 have d:∀t:Int,t≠0->0<t*t:=λt g=>by
  have:=e t;have:t*t≠0:=λz=>by rcases aAw.mp z with q|q<;>exact g q
  omega
 have a:=e u.x;have b:=e u.y;have c:=e u.z;unfold c9;rcases f with q|q|q
 .have:=d _ q;omega
 .have:=d _ q;omega
 .have:=d _ q;omega
def A3 (h:n≠0)(a:c9 n u=0)(b:c9 n v=0)(c:c9 n w=0):i9 u v w=0:=by
 have e:i9 u v w*c9 n n=0:=by have:=TF n n u v w;rw[a,b,c]at this;simp at this;omega
 rcases aAw.mp e with q|q
 .exact q
 .have:=A7 h;omega
def x6 (v:V):(0:Int)*v=0:=ext (by simp) (by simp) (by simp)
def qU (v:V):v+0=v:=ext (by simp) (by simp) (by simp)
def jK (v:V):0+v=v:=ext (by simp) (by simp) (by simp)
structure Cone (Pos:V->Prop):Prop where
 add:∀{u v},Pos u->Pos v->Pos (u+v)
 mul:∀{k:Int} {u},0<k->Pos u->Pos (k*u)
 irr:¬Pos 0
section
variable{Pos:V->Prop} (C:Cone Pos)
include C
theorem Cone.comb {p q:Int}{u w:V}(a:0<p)(d:0<=q)(b:Pos w)(c:Pos u):Pos (p*w+q*u):=by
 by_cases h:q=0
 .subst h;rw[x6,qU];exact C.mul a b
 .exact C.add (C.mul a b) (C.mul (by lia) c)
theorem Cone.sgn {k:Int}{v:V}(b:Pos v)(h:Pos (k*v)):0<k:=by
 by_cases c:0<k
 .exact c
 .exfalso;by_cases d:k=0
  .subst d;rw[x6]at h;exact C.irr h
  .have a:=C.add h (C.mul (k:=-k) (by lia) b);have e:k*v+-k*v=0:=ext (by simp;grind) (by simp;grind) (by simp;grind);rw[e]at a;exact C.irr a
theorem Cone.tr {a u v w:V}(b:Pos u)(c:Pos v)(d:Pos w)(f:i9 u v w=0)(g:0<i9 a u v)(l:0<=i9 a v w):0<i9 a u w:=by
 refine C.sgn c (k:=i9 a u w) ?_;have e:i9 a u w*v=i9 a u v*w+i9 a v w*u:=by have h:=CI a u v w;rw[f,x6,l6 a u w]at h;have m:=jk V.x h;have n:=jk V.y h;have o:=jk V.z h;simp at m n o;exact ext (by simp;grind) (by simp;grind) (by simp;grind)
 rw[e];exact C.comb g l d b
theorem Cone.tr' {a u v w:V}(b:Pos u)(c:Pos v)(d:Pos w)(f:i9 u v w=0)(g:0<=i9 a u v)(l:0<i9 a v w):0<i9 a u w:=by
 refine C.sgn c (k:=i9 a u w) ?_;have e:i9 a u w*v=i9 a v w*u+i9 a u v*w:=by have h:=CI a u v w;rw[f,x6,l6 a u w]at h;have m:=jk V.x h;have n:=jk V.y h;have o:=jk V.z h;simp at m n o;exact ext (by simp;grind) (by simp;grind) (by simp;grind)
 rw[e];exact C.comb l g b d
end
structure ConeM (a:V)(Pos:V->Prop):Prop extends Cone Pos where
 inv:∀{u} (k:Int),Pos u->Pos (u+k*a)
def ConeM.tr {a:V}{Pos:V->Prop}(C:ConeM a Pos){u v w:V}(b:Pos u)(c:Pos v)(d:Pos w)(f:0<i9 a u v)(g:0<=i9 a v w):0<i9 a u w:=by
 refine C.sgn c (k:=i9 a u w) ?_;have e:i9 a u w*v=(i9 a u v*w+i9 a v w*u)+(-i9 u v w)*a:=by have h:=CI a u v w;rw[l6 a u w]at h;have l:=jk V.x h;have m:=jk V.y h;have n:=jk V.z h;simp at l m n;exact ext (by simp;grind) (by simp;grind) (by simp;grind)
 rw[e];exact C.inv _ (C.comb f g d b)
def f6 (w:V):Prop:=0<w.x\/(w.x=0/\(0<w.y\/(w.y=0/\0<w.z)))
instance(w:V):Decidable (f6 w):=inferInstanceAs (Decidable<|_\/_)
def A4:Cone f6 where
 add:=λ{u v} d e=>by unfold f6 at*;simp;lia
 mul:=λ{k u} a h=>by
  unfold f6 at*
  simp;rcases h with h|⟨h,b|⟨b,c⟩⟩
  .exact .inl (aBa a h)
  .exact .inr ⟨by rw[h];simp,.inl (aBa a b)⟩
  .exact .inr ⟨by rw[h];simp,.inr ⟨by rw[b];simp,aBa a c⟩⟩
 irr:=by unfold f6;simp
def P7 (w:V):Prop:=f6 (-w)
def FP:-(0:V)=0:=rfl
def bT:Cone P7 where
 add:=λ{u v} a b=>by have e:-(u+v)=-u+-v:=ext (by simp;lia) (by simp;lia) (by simp;lia);unfold P7 at*;rw[e];exact A4.add a b
 mul:=λ{k u} c h=>by have e:-(k*u)=k*(-u):=ext (by simp;grind) (by simp;grind) (by simp;grind);unfold P7 at*;rw[e];exact A4.mul c h
 irr:=by unfold P7;rw[FP];exact A4.irr
def TX (w:V):f6 w\/w=0\/P7 w:=by
 unfold P7 f6;rw[qT];simp
 lia
def y8 (v:V):v-v=0:=ext (by simp) (by simp) (by simp)
def gJ (a u:V):i9 a u 0=0:=by simp[i9,c9]
def L5 (a u v:V):i9 a u (-v)=-i9 a u v:=by simp[i9,c9];grind
def bV (a u v:V):i9 a (-u) v=-i9 a u v:=by simp[i9,c9];grind
structure Row (n:V)(Pos:V->Prop)(T:V->Prop):Prop where
 cone:Cone Pos
 nz:n≠0
 pl:∀X Y,T X->T Y->c9 n (X-Y)=0
 tot:∀X Y,T X->T Y->X=Y\/Pos (X-Y)\/Pos (Y-X)
def Lft (n:V)(Pos:V->Prop)(a b X:V):Prop:=0<=i9 n (b-a) (X-a)/\(i9 n (b-a) (X-a)=0->(X=a\/Pos (X-a))/\(X=b\/Pos (b-X)))
def turn (n P Q R:V):Int:=i9 n (Q-P) (R-Q)
def aI (n P:V):List V->List V
 |b::a::r=>if turn n a b P<=0 then aI n P (a::r)else b::a::r
 |r=>r
def z7 (n:V)(ps:List V):List V:=ps.foldl (λc P=>P::aI n P c) []
def F7:List V->List (V×V)
 |b::a::r=>(a,b)::F7 (a::r)
 |_=>[]
def vF (n:V):List V->Prop
 |b::a::c::r=>0<i9 n (a-c) (b-a)/\vF n (a::c::r)
 |_=>True
def vF.tail (h:vF n (b::r)):vF n r:=by
 match r,h with
 |[],_=>trivial
 |[_],_=>trivial
 |_::_::_,h=>exact h.2
def T0 (h:e∈F7 r):e∈F7 (b::r):=by
 match r,h with
 |a::r,h=>exact aAg _ h
section
variable{n:V} {Pos:V->Prop} {T:V->Prop} (F:Row n Pos T)
include F
structure W3 (n:V)(Pos:V->Prop)(done:V->Prop)(c:List V):Prop where
 mem:∀X∈c,done X
 ed:∀e∈F7 c,Pos (e.2-e.1)/\∀X,done X->Lft n Pos e.1 e.2 X
 bend:vF n c
 last:∀X,done X->∀z,c.getLast?=some z->X=z\/Pos (X-z)
theorem Row.ac8 {done:V->Prop}(f:∀X,done X->T X)(p:Pos x)(s:c9 n x=0):∀(c:List V),(∀X∈c,done X)->(∀e∈F7 c,Pos (e.2-e.1))->vF n c->(∀b a r,c=b::a::r->0<i9 n (b-a) x)->∀e∈F7 c,0<i9 n (e.2-e.1) x
 |[],_,_,_,_,e,d=>by cases d
 |[_],_,_,_,_,e,d=>by cases d
 |[b,a],_,_,_,h,e,d=>by simp[F7]at d;subst d;exact h b a [] rfl
 |b::a::t::r,g,l,u,h,e,d=>by
  have k:=h b a _ rfl;rcases aAe.mp d with q|q
  .subst q;exact k
  .refine Row.ac8 f p s (a::t::r) (λX v=>g X (aAg _ v)) (λe d=>l e (T0 d)) u.tail ?_ e q;intro z A B m;injection m with m o;injection o with o C;subst m o;have w:=l (t,a) (T0 (by simp[F7]));have y:=l (a,b) (by simp[F7]);exact F.cone.tr w y p (A3 F.nz (F.pl _ _ (f _ (g _ (by simp))) (f _ (g _ (by simp)))) (F.pl _ _ (f _ (g _ (by simp))) (f _ (g _ (by simp)))) s) u.1 (aAS k)
theorem Row.weak (c:Pos u)(a:Pos v)(d:Pos w)(l:c9 n u=0)(m:c9 n v=0)(o:c9 n w=0)(p:0<=i9 n u v)(q:0<=i9 n v w):0<=i9 n u w:=by
 have b:=A3 F.nz l m o;by_cases r:0<i9 n u v
 .exact aAS (F.cone.tr c a d b r q)
 .by_cases s:0<i9 n v w
  .exact aAS (F.cone.tr' c a d b p s)
  .have t:i9 n u v=0:=by lia
   have A:i9 n v w=0:=by lia
   have h:=CI n u v w;rw[t,A,b,x6,x6,x6,jK,jK]at h;by_cases z:i9 n w u=0
   .rw[l6];lia
   .exfalso;have e:v=0:=by have f:=jk V.x h;have g:=jk V.y h;have k:=jk V.z h;simp at f g k;exact ext ((aAw.mp f).resolve_left z) ((aAw.mp g).resolve_left z) ((aAw.mp k).resolve_left z)
    rw[e]at a;exact F.cone.irr a
theorem Row.ad6 {done:V->Prop}(hd:∀X,done X->T X)(A:T P)(s:∀X,done X->Pos (P-X)):∀(c:List V),W3 n Pos done c->c≠[]->
  (∀X q,c.head?=some q->done X->(X=q\/Pos (X-q))->0<=i9 n (P-q) (X-q))->
  ∃q r,aI n P c=q::r/\W3 n Pos done (q::r)/\(∀X,done X->(X=q\/Pos (X-q))->0<=i9 n (P-q) (X-q))/\∀a B,r=a::B->0<turn n a q P
 |[],_,h,_=>absurd rfl h
 |[b],ok,_,t=>⟨b,[],rfl,ok,λX d h=>t X b rfl d h,λa B e=>by cases e⟩
 |b::a::r,ok,_,t=>by
  by_cases C:turn n a b P<=0
  .have e:aI n P (b::a::r)=aI n P (a::r):=by rw[aI,i6 C]
   rw[e];have k:=ok.mem b (by simp);have v:=ok.mem a (by simp);have U:=ok.ed (a,b) (by simp[F7]);refine Row.ad6 hd A s (a::r) ⟨λX d=>ok.mem X (aAg _ d),λe he=>ok.ed e (T0 he),ok.bend.tail,λX d z w=>ok.last X d z (by rw[aBq];exact w)⟩ (by simp) ?_;intro X q hq d E;have H:a=q:=aAl hq;subst H;have hu:Pos (b-a):=U.1;have hp:Pos (P-b):=s b k;have Y:Pos (P-a):=s a v;have pu:c9 n (b-a)=0:=F.pl _ _ (hd _ k) (hd _ v);have pp:c9 n (P-b)=0:=F.pl _ _ A (hd _ k);have I:c9 n (P-a)=0:=F.pl _ _ A (hd _ v);unfold turn at C;have J:0<=i9 n (P-b) (b-a):=by rw[l6];lia
   rcases F.tot X b (hd X d) (hd b k)with z|z|z
   .
    subst z;have f:P-a=(P-X)+(X-a):=ext (by simp;lia) (by simp;lia) (by simp;lia);rw[f,bQ,D6];lia
   .
    have L:=t X b rfl d (.inr z);have px:c9 n (X-b)=0:=F.pl _ _ (hd _ d) (hd _ k);have l:Pos (P-X):=s X d;have N:i9 n (P-a) (X-a)*(P-b)=i9 n (P-b) (X-b)*(P-a)+i9 n (P-b) (b-a)*(P-X):=by
     have m:=CI n (b-a) (X-b) (P-b);rw[A3 F.nz pu px pp,x6]at m;have f:P-a=(b-a)+(P-b):=ext (by simp;lia) (by simp;lia) (by simp;lia);have e2:X-a=(b-a)+(X-b):=ext (by simp;lia) (by simp;lia) (by simp;lia);have e3:P-X=(P-b)-(X-b):=ext (by simp;lia) (by simp;lia) (by simp;lia);rw[f,e2,e3];generalize b-a=u at*
     generalize X-b=x at*
     generalize P-b=p at*
     rw[bQ,bZ,bZ,D6];have L:=jk V.x m;have hy:=jk V.y m;have w:=jk V.z m;rw[l6 n p x]at m L hy w;simp at L hy w;have s1:=l6 n p x;have s2:=l6 n p u;have s3:=l6 n u x;apply ext<;>simp<;>grind
    by_cases zz:0<=i9 n (P-a) (X-a)
    .exact zz
    .exfalso;have O:Pos ((-i9 n (P-a) (X-a))*(P-b)):=F.cone.mul (by lia) hp;have Q:Pos (-i9 n (P-a) (X-a)*(P-b)+(i9 n (P-b) (X-b)*(P-a)+i9 n (P-b) (b-a)*(P-X))):=by
      by_cases y1:i9 n (P-b) (X-b)=0
      .rw[y1,x6,jK];by_cases y2:i9 n (P-b) (b-a)=0
       .rw[y2,x6,qU];exact O
       .exact F.cone.add O (F.cone.mul (by lia) l)
      .exact F.cone.add O (F.cone.comb (by lia) J Y l)
     rw[<-N]at Q;have e0:-i9 n (P-a) (X-a)*(P-b)+i9 n (P-a) (X-a)*(P-b)=0:=by apply ext<;>simp<;>grind
     rw[e0]at Q;exact F.cone.irr Q
   .
    rcases E with g|g
    .subst g;rw[y8,gJ];exact aCt _
    .have hl:=(U.2 X d).1;have o:0<=i9 n (P-a) (b-a):=by have f:P-a=(P-b)+(b-a):=ext (by simp;lia) (by simp;lia) (by simp;lia);rw[f,bQ,D6];lia
     exact F.weak Y hu g I pu (F.pl _ _ (hd _ d)<|hd _ v) o hl
  .have e:aI n P (b::a::r)=b::a::r:=by rw[aI,ja C]
   refine⟨b,a::r,e,ok,λX d h=>t X b rfl d h,λa' B e'=>?_⟩;injection e' with f _;subst f
   lia
theorem Row.push {done:V->Prop}(hd:∀X,done X->T X)(H:T P)(u:∀X,done X->Pos (P-X))(ok:W3 n Pos done c)(L:c≠[])(N:∀X q,c.head?=some q->done X->X=q\/Pos (q-X)):
  W3 n Pos (λX=>done X\/X=P) (P::aI n P c):=by
 obtain⟨q,r,e,f,w,l⟩:=F.ad6 hd H u c ok L (λX q w d h=>by
  rcases h with h|h
  .subst h;rw[y8,gJ];exact aCt _
  .exfalso;rcases N X q w d with z|z
   .subst z;rw[y8]at h;exact F.cone.irr h
   .have:=F.cone.add h z;have x:X-q+(q-X)=0:=ext (by simp;lia) (by simp;lia) (by simp;lia);rw[x]at this;exact F.cone.irr this)
 rw[e];have o:=f.mem q (by simp);have k:Pos (P-q):=u q o;have p:c9 n (P-q)=0:=F.pl _ _ H (hd _ o);refine⟨λX d=>?_,λg A=>?_,?_,λX d z v=>?_⟩
 .rcases aAe.mp d with h|h
  .exact .inr h
  .exact .inl (f.mem X h)
 .rcases aAe.mp A with h|h
  .subst h;refine⟨k,λX d=>?_⟩;rcases d with d|d
   .rcases F.tot X q (hd _ d) (hd _ o)with z|z|z
    .subst z;exact⟨by rw[y8,gJ];exact aCt _,λ_=>⟨.inl rfl,.inr k⟩⟩
    .exact⟨w X d (.inr z),λ_=>⟨.inr z,.inr (u X d)⟩⟩
    .
     have:0<i9 n (P-q) (X-q):=by
      match r,l,f with
      |[],_,f=>
       rcases f.last X d q rfl with y|y
       .subst y;rw[y8]at z;exact absurd z F.cone.irr
       .exfalso;have:=F.cone.add y z;have x:X-q+(q-X)=0:=ext (by simp;lia) (by simp;lia) (by simp;lia);rw[x]at this;exact F.cone.irr this
      |a::s,l,f=>
       have B:=l a s rfl;unfold turn at B;have O:=f.mem a (by simp);have I:=f.ed (a,q) (by simp[F7]);have J:=(I.2 X d).1;have t:X-a=(q-a)-(q-X):=ext (by simp;lia) (by simp;lia) (by simp;lia);dsimp only at J;rw[t,NX,D6]at J;have Q:0<=i9 n (q-X) (q-a):=by rw[l6];lia
       have:=F.cone.tr' (a:=n) z I.1 k (A3 F.nz (F.pl _ _ (hd _ o)<|hd _ d) (F.pl _ _ (hd _ o)<|hd _ O) p) Q B;have C:X-q=-(q-X):=ext (by simp;lia) (by simp;lia) (by simp;lia);rw[C,L5,l6];lia
     exact⟨aAS this,λz=>by dsimp only at z;lia⟩
   .subst d;exact⟨by rw[D6];exact aCt _,λ_=>⟨.inr k,.inl rfl⟩⟩
  .
   have m:=f.ed g h;refine⟨m.1,λX d=>?_⟩;rcases d with d|d
   .exact m.2 X d
   .subst d;have B:=F.ac8 hd k p (q::r) f.mem (λe A=>(f.ed e A).1) f.bend (λb a s U=>by injection U with t C;subst t;exact l a s C) g h
    have Y:=(m.2 q o).1;have:0<i9 n (g.2-g.1) (X-g.1):=by have t:X-g.1=(q-g.1)+(X-q):=ext (by simp;lia) (by simp;lia) (by simp;lia);rw[t,bZ];lia
    exact⟨aAS this,λz=>by lia⟩
 .match r,l,f with
  |[],_,_=>trivial
  |a::s,l,f=>exact⟨l a s rfl,f.bend⟩
 .rcases d with d|d
  .exact f.last X d z (by rw[aBq]at v;exact v)
  .subst d;have E:(q::r).getLast?=some z:=by rw[aBq]at v;exact v
   exact .inr (u z<|f.mem z<|aCR E)
end
section
variable{n:V} {Pos:V->Prop} {T:V->Prop} (F:Row n Pos T)
include F
theorem W3.congr {done a:V->Prop}(ok:W3 n Pos done c)(h:∀X,done X↔a X):W3 n Pos a c:=
 ⟨λX b=>(h X).mp (ok.mem X b),λe d=>⟨(ok.ed e d).1,λX b=>(ok.ed e d).2 X ((h X).mpr b)⟩,ok.bend,λX b=>ok.last X ((h X).mpr b)⟩
theorem Row.fold:∀(rest:List V) (done:V->Prop) (c:List V),W3 n Pos done c->c≠[]->(∀X q,c.head?=some q->done X->X=q\/Pos (q-X))->(∀X,done X->T X)->(∀X∈rest,T X)->
  (∀X Y,done X->Y∈rest->Pos (Y-X))->rest.Pairwise (λa b=>Pos (b-a))->
  W3 n Pos (λX=>done X\/X∈rest) (rest.foldl (λc P=>P::aI n P c) c)/\rest.foldl (λc P=>P::aI n P c) c≠[]/\(∀X q,(rest.foldl (λc P=>P::aI n P c) c).head?=some q->(done X\/X∈rest)->X=q\/Pos (q-X))
 |[],done,c,ok,h,k,l,m,g,p=>⟨W3.congr F ok λX=>by simp,h,λX q f d=>by
   rcases d with d|d
   .exact k X q f d
   .cases d⟩
 |P::rest,done,c,ok,h,k,l,m,g,p=>by
  have r:=m P (by simp);have u:=F.push l r (λX d=>g X P d (by simp)) ok h k;have s:=aAA.mp p;obtain⟨v,w,x⟩:=Row.fold rest (λX=>done X\/X=P) (P::aI n P c) u (by simp) (λX q f d=>by
    have o:P=q:=aAl f;subst o;rcases d with d|d
    .exact .inr (g X P d (by simp))
    .exact .inl d) (λX d=>by
    rcases d with d|d
    .exact l X d
    .subst d;exact r) (λX d=>m X (aAg _ d)) (λX Y d t=>by
    rcases d with d|d
    .exact g X Y d (aAg _ t)
    .subst d;exact s.1 Y t) s.2
  have e:∀X,((done X\/X=P)\/X∈rest)↔(done X\/X∈P::rest):=λX=>by simp[or_assoc]
  exact⟨W3.congr F v e,w,λX q f d=>x X q f ((e X).mpr d)⟩
theorem Row.ac7 (l:ps≠[])(g:∀X∈ps,T X)(m:ps.Pairwise (λa b=>Pos (b-a))):
  W3 n Pos (λX=>X∈ps) (z7 n ps)/\z7 n ps≠[]/\(∀X q,(z7 n ps).head?=some q->X∈ps->X=q\/Pos (q-X)):=by
 match ps,l with
 |p::rest,_=>
  have h:=aAA.mp m;have ok:W3 n Pos (λX=>X=p) [p]:=⟨λX c=>by simpa using c,λe o=>by simp[F7]at o,trivial,λX c z k=>by simp at k;subst k;exact .inl c⟩
  obtain⟨r,s,t⟩:=F.fold rest (λX=>X=p) [p] ok (by simp) (λX q d c=>by have f:p=q:=aAl d;subst f;exact .inl c) (λX c=>by subst c;exact g _ (by simp)) (λX c=>g X (aAg _ c)) (λX Y c u=>by subst c;exact h.1 Y u) h.2
  have e:∀X,(X=p\/X∈rest)↔X∈p::rest:=λX=>by simp
  refine⟨W3.congr F r e,s,λX q d c=>t X q d ((e X).mpr c)⟩
end
def j8 (n:V)(a:List V):List V:=(z7 n a).reverse.dropLast++(z7 n a.reverse).reverse.dropLast
def n9:List V->List (V×V)
 |a::b::r=>(a,b)::n9 (b::r)
 |_=>[]
theorem nB:∀(l:List V) (a b:V),n9 (l++[a]++[b])=n9 (l++[a])++[(a,b)]
 |[],a,b=>rfl
 |[x],a,b=>rfl
 |x::y::l,a,b=>by have:=nB (y::l) a b;simp only[aBb,n9]at this⊢;rw[this]
theorem iX:∀c:List V,n9 c.reverse=(F7 c).reverse
 |[]=>rfl
 |[_]=>rfl
 |b::a::r=>by
  have d:=iX (a::r);rw[aAK,aAK]at*
  rw[nB,d,F7,aAK]
theorem mV:∀(l:List V) (a:V) (m:List V),n9 (l++a::m)=n9 (l++[a])++n9 (a::m)
 |[],a,m=>by cases m<;>rfl
 |[x],a,m=>rfl
 |x::y::l,a,m=>by have:=mV (y::l) a m;simp only[aBb,n9]at this⊢;rw[this]
def U7 (l:List V):List (V×V):=l.zip (l.tail++l.take 1)
theorem qE:∀(l:List V) (z:V),l.zip (l.tail++[z])=n9 (l++[z])
 |[],z=>rfl
 |[a],z=>rfl
 |a::b::r,z=>by have:=qE (b::r) z;simp only[List.tail_cons,aBb,n9,aBY]at this⊢;rw[this]
def S4:U7 (a::l)=n9 (a::l++[a]):=qE (a::l) a
def QS (k:z7 n a=M::c)(l:z7 n a.reverse=m::d)(g:(M::c).getLast?=some m)(o:(m::d).getLast?=some M)(p:c≠[]):
  U7 (j8 n a)=(F7 (z7 n a)).reverse++(F7 (z7 n a.reverse)).reverse:=by
 rw[<-iX,<-iX];unfold j8;rw[k,l,aAK,aAK,aBt,aBt];have b:∃e,c.reverse=m::e:=by
  have:c.getLast?=some m:=by
   match c,p with
   |x::c,_=>rw[aBq]at g;exact g
  rw[<-aEU]at this;match q:c.reverse,this with
  |x::r,this=>exact⟨r,by rw[show x=m from aAl this]⟩
 obtain⟨e,b⟩:=b;have f:∃h,d.reverse++[m]=M::h:=by
  have:(m::d).reverse.head?=some M:=by rw[aEU];exact o
  rw[aAK]at this;match q:d.reverse++[m],this with
  |x::r,this=>exact⟨r,by rw[show x=M from aAl this]⟩
 obtain⟨h,f⟩:=f;have s:c.reverse++d.reverse=m::(e++d.reverse):=by rw[b];rfl
 rw[s,S4];have t:m::(e++d.reverse)++[m]=c.reverse++(d.reverse++[m]):=by rw[b];simp
 rw[t,f,mV]
def q9 (a b:V):-(a-b)=b-a:=ext (by simp;lia) (by simp;lia) (by simp;lia)
def t8:P7 (a-b)↔f6 (b-a):=by unfold P7;rw[q9]
def K7 (h:f6 (a-a)):False:=by rw[y8]at h;exact A4.irr h
def A2 (h:f6 (a-b))(h':f6 (b-a)):False:=by have:=A4.add h h';have c:a-b+(b-a)=0:=ext (by simp;lia) (by simp;lia) (by simp;lia);rw[c]at this;exact A4.irr this
def T6 (a b:V):a=b\/f6 (a-b)\/f6 (b-a):=by
 rcases TX (a-b)with h|h|h
 .exact .inr (.inl h)
 .refine .inl (ext ?_ ?_ ?_)
  .have:=jk V.x h;simp at this;lia
  .have:=jk V.y h;simp at this;lia
  .have:=jk V.z h;simp at this;lia
 .exact .inr (.inr (t8.mp h))
def Btw (P Q X:V):Prop:=(f6 (Q-P)->(X=P\/f6 (X-P))/\(X=Q\/f6 (Q-X)))/\(f6 (P-Q)->(X=P\/f6 (P-X))/\(X=Q\/f6 (X-Q)))
structure EdgeOf (n:V)(T:V->Prop)(P Q:V):Prop where
 p:T P
 q:T Q
 ne:P≠Q
 left:∀X,T X->0<=i9 n (Q-P) (X-P)
 btw:∀X,T X->i9 n (Q-P) (X-P)=0->Btw P Q X
section
variable{n:V} {T:V->Prop}
def EdgeOf.next (h:EdgeOf n T P Q)(h':EdgeOf n T P R):Q=R:=by
 have m:=h.left R h'.q;have g:=h'.left Q h.q;rw[l6]at g;have k:i9 n (Q-P) (R-P)=0:=by lia
 have l:i9 n (R-P) (Q-P)=0:=by rw[l6];lia
 have d:=h.btw R h'.q k;have f:=h'.btw Q h.q l;rcases T6 Q P with e|e|e
 .exact absurd e.symm h.ne
 .have b:=d.1 e;have c:f6 (R-P):=b.1.resolve_left (aCi h'.ne);rcases b.2 with q|q
  .exact q.symm
  .rcases(f.1 c).2 with a|a
   .exact a
   .exact(A2 q a).elim
 .have b:=d.2 e;have c:f6 (P-R):=b.1.resolve_left (aCi h'.ne);rcases b.2 with q|q
  .exact q.symm
  .rcases(f.2 c).2 with a|a
   .exact a
   .exact(A2 q a).elim
def pZ (n P Q X:V):i9 n (Q-P) (X-P)=i9 n (Q-P) (X-Q):=by have e:X-P=(X-Q)+(Q-P):=ext (by simp;lia) (by simp;lia) (by simp;lia);rw[e,bZ,D6];lia
end
theorem rA {Pos:V->Prop}(X:V):∀(c:List V),(∀Y∈c,X=Y\/Pos (X-Y)\/Pos (Y-X))->(∀q,c.head?=some q->X=q\/Pos (q-X))->(∀z,c.getLast?=some z->X=z\/Pos (X-z))->c≠[]->
  (∀u,Pos u->Pos (-u)->False)->X∈c\/∃a b,(a,b)∈F7 c/\Pos (X-a)/\Pos (b-X)
 |[],_,_,_,h,_=>absurd rfl h
 |[q],_,d,f,_,g=>by
  rcases d q rfl with e|e
  .exact .inl (by simp[e])
  .rcases f q rfl with k|k
   .exact .inl (by simp[k])
   .exact(g _ e (by rw[q9];exact k)).elim
 |b::a::r,l,d,f,_,g=>by
  rcases d b rfl with e|e
  .exact .inl (by simp[e])
  .rcases l a (by simp)with y|y|y
   .exact .inl (by simp[y])
   .exact .inr ⟨a,b,by simp[F7],y,e⟩
   .rcases rA X (a::r) (λY m=>l Y (aAg _ m)) (λq n=>by have:a=q:=aAl n;subst this;exact .inr y) (λz o=>f z (by rw[aBq];exact o)) (by simp) g with h|⟨p,s,h,t⟩
    .exact .inl (aAg _ h)
    .exact .inr ⟨p,s,T0 h,t⟩
def Row.ad3 {Pos:V->Prop}{T:V->Prop}(F:Row n Pos T)(f:T a)(g:T b)(c:T P)(h:T Q)(k:Pos (P-a))(l:Pos (b-P))(m:Pos (Q-P))(o:0<=i9 n (b-a) (P-a))(d:0<i9 n (Q-P) (a-P))(p:0<=i9 n (Q-P) (b-P)):False:=by
 have q:i9 n (Q-P) (a-P)=i9 n (P-a) (Q-P):=by have e:a-P=-(P-a):=(q9 _ _).symm;rw[e,L5,l6];lia
 rw[q]at d;have:=F.cone.tr k m l (A3 F.nz (F.pl _ _ c f) (F.pl _ _ h c)<|F.pl _ _ g c) d p;have r:b-a=(b-P)+(P-a):=ext (by simp;lia) (by simp;lia) (by simp;lia);rw[r,bQ,D6,l6]at o
 lia
structure Sheet (n:V)(ts:List V):Prop where
 nz:n≠0
 pl:∀X∈ts,∀Y∈ts,c9 n (X-Y)=0
 ord:ts.Pairwise (λa b=>f6 (b-a))
 two:∃X∈ts,∃Y∈ts,X≠Y
section
variable{n:V} {ts:List V} (S:Sheet n ts)
include S
theorem Sheet.row:Row n f6 (λX=>X∈ts):=⟨A4,S.nz,λX Y a b=>S.pl X a Y b,λX Y _ _=>T6 X Y⟩
theorem Sheet.af0:Row n P7 (λX=>X∈ts):=⟨bT,S.nz,λX Y a b=>S.pl X a Y b,λX Y _ _=>by
 rcases T6 X Y with h|h|h
 .exact .inl h
 .exact .inr (.inr (t8.mpr h))
 .exact .inr (.inl (t8.mpr h))⟩
theorem Sheet.ne:ts≠[]:=by obtain⟨X,a,_⟩:=S.two;intro e;rw[e]at a;cases a
theorem Sheet.ab0:W3 n f6 (λX=>X∈ts) (z7 n ts)/\z7 n ts≠[]/\(∀X q,(z7 n ts).head?=some q->X∈ts->X=q\/f6 (q-X)):=
 S.row.ac7 S.ne (λ_ h=>h) S.ord
theorem Sheet.ab1:W3 n P7 (λX=>X∈ts) (z7 n ts.reverse)/\z7 n ts.reverse≠[]/\(∀X q,(z7 n ts.reverse).head?=some q->X∈ts->X=q\/P7 (q-X)):=by
 have h:=S.af0.ac7 (ps:=ts.reverse) (by simpa using S.ne) (λX h=>by simpa using h) (by rw[aEi];exact S.ord.imp λh=>t8.mpr h)
 obtain⟨a,b,c⟩:=h;exact⟨W3.congr S.af0 a λX=>by simp,b,λX q d e=>c X q d (by simpa using e)⟩
theorem Sheet.ad7 (h:(a,b)∈F7 (z7 n ts))(g:a∈ts)(k:b∈ts):EdgeOf n (λX=>X∈ts) a b/\f6 (b-a):=by obtain⟨c,d⟩:=S.ab0.1.ed _ h;dsimp only at c d;refine⟨⟨g,k,λe=>by subst e;exact K7 c,λX f=>(d X f).1,λX f z=>⟨λ_=>(d X f).2 z,λy=>(A2 c y).elim⟩⟩,c⟩
theorem Sheet.ae3 (h:(a,b)∈F7 (z7 n ts.reverse))(k:a∈ts)(l:b∈ts):EdgeOf n (λX=>X∈ts) a b/\f6 (a-b):=by obtain⟨g,d⟩:=S.ab1.1.ed _ h;dsimp only at g d;have c:=t8.mp g;refine⟨⟨k,l,λe=>by subst e;exact K7 c,λX f=>(d X f).1,λX f z=>⟨λy=>(A2 c y).elim,λ_=>?_⟩⟩,c⟩;obtain⟨m,o⟩:=(d X f).2 z;exact⟨m.imp id t8.mp,o.imp id t8.mp⟩
theorem N1 (h:(a,b)∈F7 c):a∈c/\b∈c:=by
 induction c with
 |nil=>cases h
 |cons x c d=>
  match c,h,d with
  |[],h,_=>cases h
  |y::r,h,d=>
   rcases aAe.mp h with e|e
   .cases e;simp
   .have:=d e;exact⟨aAg _ this.1,aAg _ this.2⟩
theorem Sheet.ends:∃m M c d,m∈ts/\M∈ts/\f6 (M-m)/\(∀X∈ts,X=m\/f6 (X-m))/\(∀X∈ts,X=M\/f6 (M-X))/\z7 n ts=M::c/\z7 n ts.reverse=m::d/\(M::c).getLast?=some m/\(m::d).getLast?=some M/\c≠[]/\d≠[]:=by
 obtain⟨p,w,x⟩:=S.ab0;obtain⟨q,A,B⟩:=S.ab1;obtain⟨M,c,b⟩:=aEP w;obtain⟨m,d,f⟩:=aEP A;have r:M∈ts:=p.mem M (by rw[b];simp);have u:m∈ts:=q.mem m (by rw[f];simp);have s:∀X∈ts,X=M\/f6 (M-X):=λX g=>x X M (by rw[b];rfl) g;have h:∀X∈ts,X=m\/f6 (X-m):=λX g=>(B X m (by rw[f];rfl) g).imp id t8.mp;obtain⟨z,l⟩:∃z,(M::c).getLast?=some z:=by simp[aEV]
 obtain⟨y,o⟩:∃z,(m::d).getLast?=some z:=by simp[aEV]
 have C:z=m:=by
  have E:z∈ts:=p.mem z (by rw[b];exact aCR l);rcases p.last m u z (by rw[b];exact l)with e|e
  .exact e.symm
  .rcases h z E with a|a
   .exact a
   .exact(A2 e a).elim
 have H:y=M:=by
  have I:y∈ts:=q.mem y (by rw[f];exact aCR o);rcases q.last M r y (by rw[f];exact o)with e|e
  .exact e.symm
  .rcases s y I with a|a
   .exact a
   .exact(A2 (t8.mp e) a).elim
 subst C H;have t:f6 (y-z):=by
  obtain⟨X,g,Y,J,ne⟩:=S.two;rcases h y r with e|e
  .exfalso;subst e;have k:∀W∈ts,W=y:=λW v=>by
    rcases h W v with e|e
    .exact e
    .rcases s W v with a|a
     .exact a
     .exact(A2 e a).elim
   exact ne ((k X g).trans (k Y J).symm)
  .exact e
 refine⟨z,y,c,d,u,r,t,h,s,b,f,l,o,λe=>?_,λe=>?_⟩
 .subst e;have:y=z:=by simpa using l
  subst this;exact K7 t
 .subst e;have:z=y:=by simpa using o
  subst this;exact K7 t
theorem Sheet.pair (h:(P,Q)∈U7 (j8 n ts)):EdgeOf n (λX=>X∈ts) P Q:=by
 obtain⟨m,M,c,d,k,l,o,p,q,a,b,e,f,g,r⟩:=S.ends;rw[QS a b e f g,aAL,aCh,aCh]at h;rcases h with h|h
 .have:=N1 S h;exact(S.ad7 h (S.ab0.1.mem _ this.1)<|S.ab0.1.mem _ this.2).1
 .have:=N1 S h;exact(S.ae3 h (S.ab1.1.mem _ this.1)<|S.ab1.1.mem _ this.2).1
theorem cH (h:P∈l):∃Q,(P,Q)∈U7 l:=by
 obtain⟨i,b,e⟩:=aBj h;have c:l.length=(l.tail++l.take 1).length:=by
  match l,b with
  |a::l,_=>simp
 refine⟨(l.tail++l.take 1)[i]'(by lia),?_⟩;unfold U7;refine List.mem_of_getElem (i:=i) (h:=by rw[List.length_zip];lia) ?_;rw[List.getElem_zip,e]
theorem Sheet.ac3 (h:EdgeOf n (λX=>X∈ts) P Q):P∈j8 n ts:=by
 obtain⟨m,M,c,d,hm,hM,mM,H,I,C,E,h3,h4,hc,hd⟩:=S.ends;obtain⟨t,J,L⟩:=S.ab0;obtain⟨k,N,O⟩:=S.ab1;unfold j8;rw[aAL,C,E,aAK,aAK,aBt,aBt,aCh,aCh];rcases T6 Q P with e|e|e
 .exact absurd e.symm h.ne
 .
  left;rcases rA (Pos:=f6) P (z7 n ts) (λY _=>T6 P Y) (λq v=>L P q v h.p) (λz w=>t.last P h.p z w) J (λu a b=>by have:=A4.add a b;have x:u+-u=0:=ext (by simp;lia) (by simp;lia) (by simp;lia);rw[x]at this;exact A4.irr this)with r|⟨a,b,r,g,A⟩
  .rw[C]at r;rcases aAe.mp r with q|q
   .subst q;rcases I Q h.q with y|y
    .exact absurd y.symm h.ne
    .exact(A2 e y).elim
   .exact q
  .exfalso;have l:=N1 S r;have f:=t.mem _ l.1;have o:=t.mem _ l.2;have T:=h.left a f;have B:i9 n (Q-P) (a-P)≠0:=λz=>by
    rcases((h.btw a f z).1 e).1 with y|y
    .subst y;exact K7 g
    .exact A2 g y
   exact S.row.ad3 f o h.p h.q g A e ((t.ed _ r).2 P h.p).1 (by lia) (h.left b o)
 .right;rcases rA (Pos:=P7) P (z7 n ts.reverse) (λY _=>S.af0.tot P Y h.p (by rename_i U;exact k.mem Y U)) (λq v=>O P q v h.p) (λz w=>k.last P h.p z w) N (λu a b=>by have:=bT.add a b;have x:u+-u=0:=ext (by simp;lia) (by simp;lia) (by simp;lia);rw[x]at this;exact bT.irr this)with r|⟨a,b,r,g,A⟩
  .rw[E]at r;rcases aAe.mp r with q|q
   .subst q;rcases H Q h.q with y|y
    .exact absurd y.symm h.ne
    .exact(A2 e y).elim
   .exact q
  .exfalso;have l:=N1 S r;have f:=k.mem _ l.1;have o:=k.mem _ l.2;have T:=h.left a f;have s:=t8.mp g;have B:i9 n (Q-P) (a-P)≠0:=λz=>by
    rcases((h.btw a f z).2 e).1 with y|y
    .subst y;exact K7 s
    .exact A2 s y
   exact S.af0.ad3 f o h.p h.q g A (t8.mpr e) ((k.ed _ r).2 P h.p).1 (by lia) (h.left b o)
theorem Sheet.aa1:(P,Q)∈U7 (j8 n ts)↔EdgeOf n (λX=>X∈ts) P Q:=by
 refine⟨S.pair,λh=>?_⟩;obtain⟨R,a⟩:=cH S (S.ac3 h);have:=(S.pair a).next h
 subst this;exact a
end
theorem P3 {Pos:V->Prop}(C:Cone Pos):∀(c:List V),(∀e∈F7 c,Pos (e.2-e.1))->c.Pairwise (λb a=>Pos (b-a))
 |[],_=>aGu
 |[x],_=>aDU _ _
 |b::a::r,h=>by
  have d:=P3 C (a::r) (λe g=>h e (T0 g));have f:=h (a,b) (by simp[F7]);refine aAA.mpr ⟨λy k=>?_,d⟩;rcases aAe.mp k with e|e
  .subst e;exact f
  .have:=(aAA.mp d).1 y e;have s:=C.add f this;have l:b-a+(a-y)=b-y:=ext (by simp;lia) (by simp;lia) (by simp;lia);dsimp only at s
   rwa [l]at s
theorem mF:∀{h:V} {c:List V} {X:V},X∈c->∃b,(X,b)∈F7 (h::c)
 |h,[],X,d=>by cases d
 |h,a::r,X,d=>by
  rcases aAe.mp d with e|e
  .subst e;exact⟨h,by simp[F7]⟩
  .obtain⟨b,f⟩:=mF (h:=a) e;exact⟨b,T0 f⟩
section
variable{n:V} {ts:List V} (S:Sheet n ts)
include S
theorem Sheet.aa3 (h:X∈j8 n ts):X∈ts:=by obtain⟨Q,a⟩:=cH S h;exact(S.pair a).p
theorem Sheet.aa4:(j8 n ts).Nodup:=by
 obtain⟨m,M,c,d,I,J,L,N,O,f,g,Q,T,U,Y⟩:=S.ends;obtain⟨k,n1,t1⟩:=S.ab0;obtain⟨l,n2,t2⟩:=S.ab1;unfold j8;rw[f,g,aAK,aAK,aBt,aBt];have r:=P3 A4 (z7 n ts) λe o=>(k.ed e o).1;have s:=P3 bT (z7 n ts.reverse) λe o=>(l.ed e o).1;rw[f]at r;rw[g]at s;have z:=(aAA.mp r).2;have A:=(aAA.mp s).2;rw[aCD];refine⟨?_,?_,?_⟩
 .rw[aCj,aEi];exact z.imp λ{a b} h e=>by subst e;exact K7 h
 .rw[aCj,aEi];exact A.imp λ{a b} h e=>by subst e;exact K7 (t8.mp h)
 .intro x t y u e;subst e;rw[aCh]at t u;obtain⟨b,p⟩:=mF (h:=M) t;obtain⟨b',q⟩:=mF (h:=m) u;rw[<-f]at p;rw[<-g]at q;have v:=N1 S p;have w:=N1 S q;obtain⟨B,C⟩:=S.ad7 p (k.mem _ v.1) (k.mem _ v.2);obtain⟨E,H⟩:=S.ae3 q (l.mem _ w.1) (l.mem _ w.2);have:=B.next E;subst this;exact A2 C H
theorem Sheet.aa7:∃m r,j8 n ts=m::r/\m∈ts/\∀X∈ts,X=m\/f6 (X-m):=by
 obtain⟨m,M,c,d,f,o,p,g,q,h,k,e,s,l,t⟩:=S.ends;have a:∃b,c.reverse=m::b:=by
  have:c.getLast?=some m:=by
   match c,l with
   |x::c,_=>rw[aBq]at e;exact e
  rw[<-aEU]at this;match u:c.reverse,this with
  |x::r,this=>exact⟨r,by rw[show x=m from aAl this]⟩
 obtain⟨b,a⟩:=a;refine⟨m,b++d.reverse,?_,f,g⟩;unfold j8;rw[h,k,aAK,aAK,aBt,aBt,a];rfl
theorem NR (h:Q∈l):∃P,(P,Q)∈U7 l:=by
 match l,h with
 |a::r,h=>
  have b:Q∈r++[a]:=by simpa[or_comm]using h
  obtain⟨i,c,e⟩:=aBj b;have d:i<(a::r).length:=by simpa using c
  refine⟨(a::r)[i],?_⟩;show _∈(a::r).zip (r++[a]);refine List.mem_of_getElem (i:=i) (h:=by rw[List.length_zip];simp;omega) ?_;rw[List.getElem_zip,e]
theorem xE (h:(P,Q)∈U7 l):P∈l/\Q∈l:=by
 have b:=aDV h;refine⟨b.1,?_⟩;match l,b.2 with
 |a::r,z=>simpa[or_comm]using z
theorem Sheet.strict (h:EdgeOf n (λX=>X∈ts) P Q)(B:X∈j8 n ts)(u:X≠P)(v:X≠Q):0<i9 n (Q-P) (X-P):=by
 have c:=S.aa3 B;have I:=h.left X c;by_cases z:i9 n (Q-P) (X-P)=0
 .exfalso;have b:=h.btw X c z;obtain⟨Y,E⟩:=cH S B;have g:=S.pair E;have w:=g.left P h.p;have o:=g.left Q h.q;rcases T6 Q P with e|e|e
  .exact h.ne e.symm
  .have r:=b.1 e;have d:=r.1.resolve_left u;have f:=r.2.resolve_left v;have H:i9 n (X-P) (Q-X)=0:=by have a:Q-P=(Q-X)+(X-P):=ext (by simp;lia) (by simp;lia) (by simp;lia);rw[a,bQ,D6,l6]at z;lia
   have s:0<=i9 n (X-P) (Y-X):=by have a:P-X=-(X-P):=(q9 _ _).symm;rw[a,L5]at w;rw[l6];lia
   rcases T6 Y X with y|y|y
   .exact g.ne y.symm
   .have J:=S.row.weak d y f (S.pl _ c _ h.p) (S.pl _ g.q _ c) (S.pl _ h.q _ c) s o;by_cases l:0<i9 n (X-P) (Y-X)
    .have:=A4.tr d y f (A3 S.nz (S.pl _ c _ h.p) (S.pl _ g.q _ c)<|S.pl _ h.q _ c) l o
     lia
    .have m:i9 n (Y-X) (P-X)=0:=by have a:P-X=-(X-P):=(q9 _ _).symm;rw[a,L5,l6];lia
     rcases((g.btw P h.p m).1 y).1 with k|k
     .exact u k.symm
     .exact A2 k d
   .have t:f6 (X-Y):=y;have C:0<=i9 n (X-Y) (X-P):=by have a:Y-X=-(X-Y):=(q9 _ _).symm;rw[a,L5,l6]at s;lia
    have x:0<=i9 n (Q-X) (X-Y):=by have a:Y-X=-(X-Y):=(q9 _ _).symm;rw[a,bV,l6]at o;lia
    by_cases l:0<i9 n (Q-X) (X-Y)
    .have:=A4.tr f t d (A3 S.nz (S.pl _ h.q _ c) (S.pl _ c _ g.q)<|S.pl _ c _ h.p) l C;rw[l6]at this;lia
    .have m:i9 n (Y-X) (Q-X)=0:=by have a:Y-X=-(X-Y):=(q9 _ _).symm;rw[a,bV,l6];lia
     rcases((g.btw Q h.q m).2 t).1 with k|k
     .exact v k.symm
     .exact A2 k f
  .have r:=b.2 e;have d:=r.1.resolve_left u;have f:=r.2.resolve_left v;have H:i9 n (P-X) (X-Q)=0:=by have a:Q-P=-((P-X)+(X-Q)):=ext (by simp;lia) (by simp;lia) (by simp;lia);have A:X-P=-(P-X):=(q9 _ _).symm;rw[a,A,bV,L5,bQ,D6,l6]at z;lia
   rcases T6 Y X with y|y|y
   .exact g.ne y.symm
   .
    have x:0<=i9 n (X-Q) (Y-X):=by have a:Q-X=-(X-Q):=(q9 _ _).symm;rw[a,L5,l6]at o;lia
    by_cases l:0<i9 n (X-Q) (Y-X)
    .have:=A4.tr f y d (A3 S.nz (S.pl _ c _ h.q) (S.pl _ g.q _ c)<|S.pl _ h.p _ c) l w;rw[l6]at this;lia
    .have m:i9 n (Y-X) (Q-X)=0:=by have a:Q-X=-(X-Q):=(q9 _ _).symm;rw[a,L5,l6];lia
     rcases((g.btw Q h.q m).1 y).1 with k|k
     .exact v k.symm
     .exact A2 k f
   .have t:f6 (X-Y):=y;have C:0<=i9 n (P-X) (X-Y):=by have a:Y-X=-(X-Y):=(q9 _ _).symm;rw[a,bV,l6]at w;lia
    have x:0<=i9 n (X-Y) (X-Q):=by have a:Y-X=-(X-Y):=(q9 _ _).symm;have A:Q-X=-(X-Q):=(q9 _ _).symm;rw[a,A,bV,L5]at o;lia
    by_cases l:0<i9 n (P-X) (X-Y)
    .have:=A4.tr d t f (A3 S.nz (S.pl _ h.p _ c) (S.pl _ c _ g.q)<|S.pl _ c _ h.q) l x
     lia
    .have m:i9 n (Y-X) (P-X)=0:=by have a:Y-X=-(X-Y):=(q9 _ _).symm;rw[a,bV,l6];lia
     rcases((g.btw P h.p m).2 t).1 with k|k
     .exact u k.symm
     .exact A2 k d
 .lia
end
def dR {a:V}(h:a≠0):a.x≠0\/a.y≠0\/a.z≠0:=by
 by_cases p:a.x=0
 .by_cases q:a.y=0
  .by_cases r:a.z=0
   .exact absurd (ext p q r) h
   .exact .inr (.inr r)
  .exact .inr (.inl q)
 .exact .inl p
def B9 {a w:V}(c:a≠0)(h:cr a w=0):∃k m:Int,0<k/\k*w=m*a:=by
 have d:=jk V.x h;have f:=jk V.y h;have g:=jk V.z h;simp at d f g;have b:∀k m:Int,k≠0->k*w=m*a->∃k m:Int,0<k/\k*w=m*a:=λk m q e=>by
  by_cases p:0<k
  .exact⟨k,m,p,e⟩
  .refine⟨-k,-m,by lia,?_⟩;have l:=jk V.x e;have n:=jk V.y e;have o:=jk V.z e;simp at l n o;apply ext<;>simp<;>grind
 rcases dR c with p|p|p
 .exact b a.x w.x p (by apply ext<;>simp<;>grind)
 .exact b a.y w.y p (by apply ext<;>simp<;>grind)
 .exact b a.z w.z p (by apply ext<;>simp<;>grind)
def ConeM.ad2 {Pos:V->Prop}(C:ConeM a Pos)(c:a≠0)(d:Pos w):cr a w≠0:=λh=>by
 obtain⟨k,m,f,e⟩:=B9 c h;have b:=C.inv (-m) (C.mul f d);rw[e]at b;have g:m*a+-m*a=0:=by apply ext<;>simp<;>grind
 rw[g]at b;exact C.irr b
def I0 (a A:V):List V->V->V->V×V
 |[],c,b=>(c,b)
 |P::d,c,b=>if c=0\/0<c9 c (P-A)then I0 a A d (cr a (P-A)) P else I0 a A d c b
def XA (a A:V)(Pos:V->Prop)(seen:V->Prop)(c b:V):Prop:=
 (c=0/\∀P,seen P->cr a (P-A)=0)\/(seen b/\Pos (b-A)/\c=cr a (b-A)/\∀P,seen P->i9 a (b-A) (P-A)<=0)
def kN (h:cr a w=0)(u:V):i9 a u w=0:=by
 have e:i9 a u w=-c9 (cr a w) u:=by simp[i9,c9];grind
 rw[e,h];simp[c9]
theorem tN {Pos:V->Prop}(C:ConeM a Pos)(p:a≠0):∀(J:List V) (seen:V->Prop) (d c:V),XA a A Pos seen d c->(∀P,seen P->Pos (P-A)\/cr a (P-A)=0)->(∀P∈J,Pos (P-A)\/cr a (P-A)=0)->
  XA a A Pos (λP=>seen P\/P∈J) (I0 a A J d c).1 (I0 a A J d c).2
 |[],seen,d,c,h,_,_=>by
  show XA a A Pos _ d c;rcases h with⟨g,f⟩|⟨g,f,k,l⟩
  .exact .inl ⟨g,λP b=>f P (by simpa using b)⟩
  .exact .inr ⟨.inl g,f,k,λP b=>l P (by simpa using b)⟩
 |Q::J,seen,d,c,h,s,t=>by
  have m:=t Q (by simp);have stp:XA a A Pos (λP=>seen P\/P=Q) (if d=0\/0<c9 d (Q-A)then(cr a<|Q-A)else d) (if d=0\/0<c9 d (Q-A)then Q else c):=by
   rcases h with⟨g,f⟩|⟨g,f,k,l⟩
   .rw[i6 (.inl g),i6 (.inl g)];by_cases z:cr a (Q-A)=0
    .exact .inl ⟨z,λP b=>by
      rcases b with b|b
      .exact f P b
      .subst b;exact z⟩
    .refine .inr ⟨.inr rfl,m.resolve_right z,rfl,λP b=>?_⟩;rcases b with b|b
     .rw[kN (f P b)];exact aCt _
     .subst b;rw[D6];exact aCt _
   .have u:d≠0:=by rw[k];exact C.ad2 p f
    have n:c9 d (Q-A)=i9 a (c-A) (Q-A):=by rw[k,X6]
    by_cases z:0<c9 d (Q-A)
    .rw[i6 (.inr z),i6 (.inr z)];have v:Pos (Q-A):=by
      rcases m with q|q
      .exact q
      .rw[n,kN q]at z;lia
     refine .inr ⟨.inr rfl,v,rfl,λP b=>?_⟩;rcases b with b|b
     .by_cases w:i9 a (Q-A) (P-A)<=0
      .exact w
      .exfalso;have o:Pos (P-A):=by
        rcases s P b with q|q
        .exact q
        .rw[kN q]at w;lia
       have:=C.tr f v o (by rw[<-n];exact z) (by lia);have:=l P b
       lia
     .subst b;rw[D6];exact aCt _
    .rw[ja (by rintro(q|q);exact u q;exact z q),ja (by rintro(q|q);exact u q;exact z q)];refine .inr ⟨.inl g,f,k,λP b=>?_⟩;rcases b with b|b
     .exact l P b
     .subst b;rw[<-n];lia
  have r:=tN C p J (λP=>seen P\/P=Q) _ _ stp (λP b=>by
   rcases b with b|b
   .exact s P b
   .subst b;exact m) (λP b=>t P (aAg _ b))
  have e:I0 a A (Q::J) d c=I0 a A J (if d=0\/0<c9 d (Q-A)then(cr a<|Q-A)else d) (if d=0\/0<c9 d (Q-A)then Q else c):=by rw[I0];split<;>rfl
  rw[e];have x:(λP=>(seen P\/P=Q)\/P∈J)=(λP=>seen P\/P∈Q::J):=by funext P;simp[or_assoc]
  rw[<-x];exact r
def RV {Pos:V->Prop}(C:ConeM a Pos)(d:a≠0)(f:∀P∈J,Pos (P-A)\/cr a (P-A)=0)(g:∃P∈J,Pos (P-A)):
  (I0 a A J 0 A).2∈J/\Pos ((I0 a A J 0 A).2-A)/\∀P∈J,i9 a ((I0 a A J 0 A).2-A) (P-A)<=0:=by
 have h:=tN C d J (λ_=>False) 0 A (.inl ⟨rfl,λ_ h=>h.elim⟩) (λ_ h=>h.elim) f;rcases h with⟨e,b⟩|⟨e,b,m,k⟩
 .obtain⟨P,c,l⟩:=g;exact absurd (b P<|.inr c) (C.ad2 d l)
 .exact⟨by simpa using e,b,λP c=>k P (.inr c)⟩
def t7 (v:V):Nat:=aGi (aGi v.x.natAbs v.y.natAbs) v.z.natAbs
def eN (v:V)(g:Int):V:=⟨v.x/g,v.y/g,v.z/g⟩
def fR (n:V):Prop:=t7 n=1
def rD (k:Int)(v:V):t7 (k*v)=k.natAbs*t7 v:=by unfold t7;simp[Int.natAbs_mul,Nat.gcd_mul_left]
def KN (h:t7 v=0):v=0:=by unfold t7 at h;have a:=Nat.gcd_eq_zero_iff.mp h;have b:=Nat.gcd_eq_zero_iff.mp a.1;exact ext (aEW.mp b.1) (aEW.mp b.2) (aEW.mp a.2)
def OJ (v:V):(t7 v:Int)∣v.x/\(t7 v:Int)∣v.y/\(t7 v:Int)∣v.z:=by
 unfold t7;refine⟨?_,?_,?_⟩
 .exact aEX.mpr (Nat.dvd_trans (aFA _ _)<|aFA _ _)
 .exact aEX.mpr (Nat.dvd_trans (aFA _ _)<|Nat.gcd_dvd_right _ _)
 .exact aEX.mpr (Nat.gcd_dvd_right _ _)
def gI (h:c≠0):0<(t7 c:Int)/\c=(t7 c:Int)*eN c (t7 c)/\fR (eN c (t7 c)):=by
 have k:t7 c≠0:=λz=>h (KN z);have a:0<(t7 c:Int):=by lia
 obtain⟨b,d,f⟩:=OJ c;have e:c=(t7 c:Int)*eN c (t7 c):=by
  apply ext
  .show _=_*(c.x/_);rw[aEx b]
  .show _=_*(c.y/_);rw[aEx d]
  .show _=_*(c.z/_);rw[aEx f]
 refine⟨a,e,?_⟩;have:=jk t7 e;rw[rD]at this;simp only[Int.natAbs_natCast]at this;unfold fR;have g:t7 c*1=t7 c*t7 (eN c<|t7 c):=by lia
 exact(Nat.eq_of_mul_eq_mul_left (by lia) g).symm
def fR.ne (h:fR n):n≠0:=λe=>by subst e;unfold fR at h;exact absurd h (by decide)
def oF {n m:V}{k l:Int}(f:fR n)(g:fR m)(h:0<k)(o:0<l)(e:k*n=l*m):n=m:=by
 have:=jk t7 e;rw[rD,rD,f,g]at this;have a:k=l:=by lia
 subst a;have b:=jk V.x e;have c:=jk V.y e;have d:=jk V.z e;simp at b c d;exact ext (aDE (by lia) b) (aDE (by lia) c) (aDE (by lia) d)
def d6 (P Q R:V):V×Int:=let n:=eN (cr (Q-P)<|R-P) (t7<|cr (Q-P)<|R-P);(n,c9 n P)
structure IsFace (J:List V)(n:V)(d:Int):Prop where
 prim:fR n
 sup:∀X∈J,c9 n X<=d
 three:∃A∈J,∃B∈J,∃C∈J,c9 n A=d/\c9 n B=d/\c9 n C=d/\cr (B-A) (C-A)≠0
def M2 (a:c9 n u=0)(b:c9 n v=0):cr n (cr u v)=0:=by simp[c9]at a b;apply ext<;>simp<;>grind
def pE (f:c≠0)(b:cr n c=0)(d:cr m c=0):cr n m=0:=by
 have h:cr c n=0:=by have:=jk V.x b;have:=jk V.y b;have:=jk V.z b;simp at*;apply ext<;>simp<;>grind
 have o:cr c m=0:=by have:=jk V.x d;have:=jk V.y d;have:=jk V.z d;simp at*;apply ext<;>simp<;>grind
 obtain⟨k,p,t,r⟩:=B9 f h;obtain⟨l,q,u,s⟩:=B9 f o;have e:(k*l)*cr n m=0:=by
  have:(k*l)*cr n m=cr (k*n) (l*m):=by apply ext<;>simp<;>grind
  rw[this,r,s];apply ext<;>simp<;>grind
 have a:k*l≠0:=λz=>by rcases aAw.mp z with q|q<;>lia
 have b:=jk V.x e;have d:=jk V.y e;have g:=jk V.z e;simp only[RU,TD,NQ,bG,aS,aW]at b d g;exact ext ((aAw.mp b).resolve_left a) ((aAw.mp d).resolve_left a) ((aAw.mp g).resolve_left a)
def kK {J:List V}{n m:V}{d e:Int}(f:fR n)(a:fR m)(H:∀X∈J,c9 n X<=d)(g:∀X∈J,c9 m X<=e){A B C Z:V}(I:c9 n A=d)(L:c9 n B=d)(N:c9 n C=d)(h:c9 m A=e)(o:c9 m B=e)(r:c9 m C=e)
  (s:cr (B-A) (C-A)≠0) (t:Z∈J) (hz:c9 n Z<d):n=m/\d=e:=by
 have u:cr n (cr (B-A)<|C-A)=0:=M2 (by rw[d8];lia) (by rw[d8];lia);have w:cr m (cr (B-A)<|C-A)=0:=M2 (by rw[d8];lia) (by rw[d8];lia);have p:=pE s w u;obtain⟨k,l,b,c⟩:=B9 a.ne p;have x:0<l:=by
  have q:=jk (λv=>c9 v (Z-A)) c;rw[J7,J7]at q;have y:c9 n (Z-A)<0:=by rw[d8];lia
  have O:c9 m (Z-A)<=0:=by rw[d8];have:=g Z t;lia
  have Q:k*c9 n (Z-A)<0:=aBr b y;by_cases z:0<l
  .exact z
  .exfalso;have:0<=l*c9 m (Z-A):=by
    have:=aBG (show 0<=-l by lia) (show 0<=-c9 m (Z-A)by lia)
    rwa [aDq]at this
   lia
 have E:=oF f a b x c;subst E;exact⟨rfl,by lia⟩
def b7 (A B:V)(J:List V):V×Int:=d6 A B (I0 (B-A) A J 0 A).2
def w9 (n:V)(d:Int)(J:List V):List V:=J.filter λX=>decide (c9 n X=d)
def d7:X∈w9 n d J↔X∈J/\c9 n X=d:=by simp[w9]
def dW (h:cr (Q-P) (R-P)≠0):∃g:Int,0<g/\cr (Q-P) (R-P)=g*(d6 P Q R).1/\fR (d6 P Q R).1/\(d6 P Q R).2=c9 (d6 P Q R).1 P:=by obtain⟨a,b,c⟩:=gI h;exact⟨_,a,b,c,rfl⟩
def P1 {Pos:V->Prop}(C:ConeM (B-A) Pos)(c:B-A≠0)(o:∀P∈J,Pos (P-A)\/cr (B-A) (P-A)=0)(p:∃P∈J,Pos (P-A)):
  ∃(a:V) (g:Int),a∈J/\Pos (a-A)/\0<g/\cr (B-A) (a-A)=g*(b7 A B J).1/\fR (b7 A B J).1/\(b7 A B J).2=c9 (b7 A B J).1 A/\
   (∀P∈J,c9 (b7 A B J).1 P<=(b7 A B J).2)/\c9 (b7 A B J).1 B=(b7 A B J).2/\c9 (b7 A B J).1 a=(b7 A B J).2/\
   (∀P∈J,c9 (b7 A B J).1 P=(b7 A B J).2->i9 (B-A) (a-A) (P-A)=0):=by
 obtain⟨q,d,r⟩:=RV C c o p;have s:=C.ad2 c d;obtain⟨g,f,k,t,l⟩:=dW s;have b:∀w:V,g*c9 (b7 A B J).1 w=i9 (B-A) ((I0 (B-A) A J 0 A).2-A) w:=λw=>by have:c9 (cr (B-A)<|(I0 (B-A) A J 0 A).2-A) w=i9 (B-A) ((I0 (B-A) A J 0 A).2-A) w:=X6 _ _ _;rw[<-this,k,J7];rfl
 have v:(b7 A B J).2=c9 (b7 A B J).1 A:=l;have m:∀w:V,i9 (B-A) ((I0 (B-A) A J 0 A).2-A) w=0->c9 (b7 A B J).1 w=0:=λw u=>by have:=b w;rw[u]at this;exact(aAw.mp this).resolve_left (by lia)
 refine⟨_,g,q,d,f,k,t,l,λP n=>?_,?_,?_,λP n e=>?_⟩
 .have h:=r P n;rw[<-b]at h;have:c9 (b7 A B J).1 (P-A)<=0:=by
   by_cases z:c9 (b7 A B J).1 (P-A)<=0
   .exact z
   .have:=aBa f (show 0<c9 (b7 A B J).1 (P-A)by lia)
    lia
  rw[d8]at this
  lia
 .have:=m (B-A) (by simp[i9,c9];grind);rw[d8]at this;lia
 .have:=m ((I0 (B-A) A J 0 A).2-A) (D6 _ _);rw[d8]at this;lia
 .rw[<-b,d8];have:c9 (b7 A B J).1 P-c9 (b7 A B J).1 A=0:=by lia
  rw[this];simp
def AG {Pos:V->Prop}(C:ConeM a Pos)(c:a≠0)(d:Pos o)(e:Pos w)(h:i9 a o w=0):0<c9 (cr a o) (cr a w):=by
 by_cases z:0<c9 (cr a o) (cr a w)
 .exact z
 .exfalso;have f:=C.ad2 c d;have g:=A7 f;have k:Pos (c9 (cr a o) (cr a o)*w+(-c9 (cr a o) (cr a w))*o):=C.comb g (by lia) e d;refine C.ad2 c k ?_;have b:cr (cr a o) (cr a w)=i9 a o w*a:=by simp[i9,c9];apply ext<;>simp<;>grind
  rw[h,x6]at b;have l:cr a (c9 (cr a o) (cr a o)*w+(-c9 (cr a o) (cr a w))*o)=c9 (cr a o) (cr a o)*cr a w+(-c9 (cr a o) (cr a w))*cr a o:=by apply ext<;>simp<;>grind
  rw[l];have m:∀p q:V,c9 p p*q+(-c9 p q)*p=cr p (cr q p):=λp q=>by simp[c9];apply ext<;>simp<;>grind
  rw[m];have n:cr (cr a w) (cr a o)=0:=by have r:=jk V.x b;have s:=jk V.y b;have t:=jk V.z b;simp only[TZ,US,UU,bG,aS,aW]at r s t;apply ext<;>simp only[TZ,US,UU,bG,aS,aW]<;>grind
  rw[n];apply ext<;>simp
def Btw.symm (h:Btw P Q X):Btw Q P X:=⟨λa=>⟨(h.2 a).2,(h.2 a).1⟩,λa=>⟨(h.1 a).2,(h.1 a).1⟩⟩
def tV (g:n≠0)(c:c9 n (a-b)=0):ConeM (a-b) (λw=>c9 n w<0\/(c9 n w=0/\0<i9 n (b-a) w))where
 add:=λ{u v} l m=>by
  rw[aJ,bZ]
  lia
 mul:=λ{k u} d h=>by
  rw[u6,BX];rcases h with h|⟨h,f⟩
  .exact .inl (aBr d h)
  .exact .inr ⟨by rw[h];simp,aBa d f⟩
 irr:=by rw[L6,gJ];lia
 inv:=λ{u} k h=>by
  have e:i9 n (b-a) (a-b)=0:=by have:a-b=-(b-a):=(q9 _ _).symm;rw[this,L5,D6];rfl
  rw[aJ,bZ,u6,BX,c,e];simpa using h
def Y9 (a:n≠0)(f:c9 n u=0)(g:c9 n w=0)(h:i9 n u w=0):cr u w=0:=by
 have l:cr n (cr u w)=0:=M2 f g;obtain⟨k,m,r,e⟩:=B9 a l;have q:=jk (c9 n) e;rw[u6,u6]at q;have:c9 n (cr u w)=0:=h;rw[this]at q;have o:m=0:=by
  have:=A7 a;have p:m*c9 n n=0:=by lia
  rcases aAw.mp p with z|z
  .exact z
  .lia
 rw[o,x6]at e;have b:=jk V.x e;have c:=jk V.y e;have d:=jk V.z e;simp only[RU,TD,NQ,bG,aS,aW]at b c d;exact ext ((aAw.mp b).resolve_left (by lia)) ((aAw.mp c).resolve_left (by lia)) ((aAw.mp d).resolve_left (by lia))
def zR (h:cr u w=0):cr (-u) w=0:=by have a:=jk V.x h;have b:=jk V.y h;have c:=jk V.z h;simp only[TZ,US,UU,bG,aS,aW]at a b c;apply ext<;>simp<;>grind
def vT (E:n≠0)(U:∀X∈J,c9 n X<=d)(hz:∃Z∈J,c9 n Z<d)(h:EdgeOf n (λX=>X∈w9 n d J) a b):
  IsFace J (b7 b a J).1 (b7 b a J).2/\EdgeOf (b7 b a J).1 (λX=>X∈w9 (b7 b a J).1 (b7 b a J).2 J) b a:=by
 obtain⟨H,da⟩:=d7.mp h.p;obtain⟨pb,db⟩:=d7.mp h.q;have o:c9 n (a-b)=0:=by rw[d8];lia
 have t:c9 n (b-a)=0:=by rw[d8];lia
 have C:=tV (n:=n) E o;have r:a-b≠0:=λe=>h.ne (by have Y:=jk V.x e;have q2:=jk V.y e;have q3:=jk V.z e;simp at Y q2 q3;exact ext (by lia) (by lia) (by lia))
 have u:∀P∈J,(c9 n (P-b)<0\/(c9 n (P-b)=0/\0<i9 n (b-a) (P-b)))\/cr (a-b) (P-b)=0:=λP I=>by
  have h1:=U P I;by_cases z:c9 n P<d
  .exact .inl (.inl (by rw[d8];lia))
  .have e:c9 n P=d:=by lia
   have tP:P∈w9 n d J:=d7.mpr ⟨I,e⟩;have l:=h.left P tP;rw[pZ]at l;have L:c9 n (P-b)=0:=by rw[d8];lia
   by_cases y:0<i9 n (b-a) (P-b)
   .exact .inl (.inr ⟨L,y⟩)
   .have y0:i9 n (b-a) (P-b)=0:=by lia
    have:=zR (Y9 E t L y0);rw[q9]at this;exact .inr this
 obtain⟨Z,hZ,hz⟩:=hz;obtain⟨c,g,o1,v,g0,N,gp,O,w,Q,sO,T⟩:=P1 C r u ⟨Z,hZ,.inl (by rw[d8];lia)⟩;refine⟨⟨gp,w,b,pb,a,H,c,o1,O.symm,Q,sO,C.ad2 r v⟩,⟨d7.mpr ⟨pb,O.symm⟩,d7.mpr ⟨H,Q⟩,λe=>h.ne e.symm,λX A=>?_,λX A e=>?_⟩⟩
 .obtain⟨f,B⟩:=d7.mp A;have z:=T X f B;have s:g*i9 (b7 b a J).1 (a-b) (X-b)=c9 (cr (a-b)<|c-b) (cr (a-b)<|X-b):=by rw[N];unfold i9;rw[J7]
  have:0<=c9 (cr (a-b)<|c-b) (cr (a-b)<|X-b):=by
   rcases u X f with q|q
   .exact aAS (AG C r v q z)
   .rw[q,L6];exact aCt _
  rw[<-s]at this;by_cases zz:0<=i9 (b7 b a J).1 (a-b) (X-b)
  .exact zz
  .have:=aBr g0 (show i9 (b7 b a J).1 (a-b) (X-b)<0 by lia)
   lia
 .obtain⟨f,B⟩:=d7.mp A;have z:=T X f B;have s:g*i9 (b7 b a J).1 (a-b) (X-b)=c9 (cr (a-b)<|c-b) (cr (a-b)<|X-b):=by rw[N];unfold i9;rw[J7]
  rw[e]at s;rcases u X f with q|q
  .have:=AG C r v q z;rw[<-s]at this;simp at this
  .
   have dX:c9 n X=d:=by obtain⟨k,m,hk,e⟩:=B9 r q;have q:=jk (c9 n) e;rw[u6,u6,o]at q;have:c9 n (X-b)=0:=(aAw.mp (show k*c9 n (X-b)=0 by lia)).resolve_left (by lia);rw[d8]at this;lia
   refine(h.btw X (d7.mpr ⟨f,dX⟩) ?_).symm;rw[pZ];have:cr (b-a) (X-b)=0:=by
    have:=zR q
    rwa [q9]at this
   unfold i9;rw[this,L6]
def C1:List V->Option V
 |[]=>none
 |w::a=>if w≠0 then some w else C1 a
def v9 (h:C1 ws=some w):w∈ws/\w≠0:=by
 induction ws with
 |nil=>cases h
 |cons v ws a=>
  unfold C1 at h;split at h
  .rename_i b;cases h;exact⟨by simp,b⟩
  .have:=a h;exact⟨aAg _ this.1,this.2⟩
def Q3 (h:C1 ws=none):∀w∈ws,w=0:=by
 induction ws with
 |nil=>intro w a;cases a
 |cons v ws b=>
  unfold C1 at h;split at h
  .cases h
  .rename_i c;intro w a;rcases aAe.mp a with e|e
   .subst e;exact Decidable.not_not.mp c
   .exact b h w e
def M7:List V->Nat
 |[]=>0
 |p::c=>
  let a:=(p::c).map (· -p)
  match C1 a with
  |none=>0
  |some b=>match C1 (a.map<|cr b)with
   |none=>1
   |some d=>if a.any (λw=>decide (c9 d w≠0))then 3 else 2
def j3 (J:List V):Prop:=∃A∈J,∃B∈J,∃C∈J,∃D∈J,i9 (B-A) (C-A) (D-A)≠0
def tQ (h:M7 J=3):j3 J:=by
 match J,h with
 |p::w,h=>
  unfold M7 at h;dsimp only at h;split at h
  .cases h
  .rename_i b e;split at h
   .cases h
   .rename_i f g;split at h
    .rename_i d;obtain⟨k,x⟩:=v9 e;obtain⟨c,y⟩:=v9 g;obtain⟨z,c,l⟩:=aAp.mp c;rw[aEr]at d;obtain⟨m,n,o⟩:=d;obtain⟨B,q,r⟩:=aAp.mp k;obtain⟨C,s,t⟩:=aAp.mp c;obtain⟨D,u,v⟩:=aAp.mp n;refine⟨p,by simp,B,q,C,s,D,u,?_⟩;rw[r,t,v];have a:c9 f m≠0:=by simpa using o
     rw[<-l,X6]at a;exact a
    .cases h
def OQ (h:M7 J≠3):¬j3 J:=by
 rintro⟨A,k,B,l,C,m,D,o,v⟩;match J,h,k,l,m,o with
 |p::d,h,k,l,m,o=>
  unfold M7 at h;dsimp only at h;have r:∀X∈p::d,X-p∈(p::d).map (· -p):=λX b=>aAp.mpr ⟨X,b,rfl⟩;have c:∀n:V,n≠0->(∀X∈p::d,c9 n (X-p)=0)->False:=λn w s=>by
   have q:∀X∈p::d,c9 n (X-A)=0:=λX b=>by have f:=s X b;have g:=s A k;rw[d8]at*;lia
   exact v (A3 w (q B l) (q C m)<|q D o)
  split at h
  .rename_i f;have z:=Q3 f;refine c ⟨1,0,0⟩ (λe=>by have:=jk V.x e;simp at this) λX b=>?_;rw[z _ (r X b)];exact L6 _
  .rename_i a f;obtain⟨N,y⟩:=v9 f;split at h
   .rename_i g;have z:=Q3 g;have E:∀X∈p::d,cr a (X-p)=0:=λX b=>z _ (aAp.mpr ⟨_,r X b,rfl⟩);obtain⟨u,H,O⟩:∃u:V,cr a u≠0/\True:=by
     rcases dR y with q|q|q
     .exact⟨⟨0,1,0⟩,λe=>q (by have:=jk V.z e;simpa using this),trivial⟩
     .exact⟨⟨1,0,0⟩,λe=>q (by have:=jk V.z e;simpa using this),trivial⟩
     .exact⟨⟨0,1,0⟩,λe=>q (by have:=jk V.x e;simpa using this),trivial⟩
    refine c (cr a u) H λX b=>?_;rw[X6,kN (E X b)]
   .rename_i t g;obtain⟨Q,I⟩:=v9 g;split at h
    .exact h rfl
    .rename_i L;refine c t I λX b=>?_;by_cases z:c9 t (X-p)=0
     .exact z
     .exact absurd (aEr.mpr ⟨X-p,r X b,by simpa using z⟩) L
def RY (h:M7 J<2):∀X∈J,∀Y∈J,∀Z∈J,cr (Y-X) (Z-X)=0:=by
 match J,h with
 |[],_=>intro X b;cases b
 |p::c,h=>
  unfold M7 at h;dsimp only at h;have m:∀X∈p::c,X-p∈(p::c).map (· -p):=λX b=>aAp.mpr ⟨X,b,rfl⟩;intro X b Y n Z q;split at h
  .rename_i g;have z:=Q3 g;have e:∀W∈p::c,W=p:=λW l=>by have:=z _ (m W l);have d:=jk V.x this;have f:=jk V.y this;have r:=jk V.z this;simp at d f r;exact ext (by lia) (by lia) (by lia)
   rw[e X b,e Y n,y8];apply ext<;>simp
  .rename_i a g;obtain⟨H,s⟩:=v9 g;split at h
   .rename_i t;have z:=Q3 t;have o:∀X∈p::c,cr a (X-p)=0:=λX b=>z _ (aAp.mpr ⟨_,m X b,rfl⟩);have k:∀U∈p::c,∀W∈p::c,cr (U-W) a=0:=λU u W l=>by have d:=o U u;have f:=o W l;have v:=jk V.x d;have w:=jk V.y d;have A:=jk V.z d;have B:=jk V.x f;have C:=jk V.y f;have E:=jk V.z f;simp at v w A B C E;apply ext<;>simp<;>grind
    exact pE s (k Y n X b) (k Z q X b)
   .split at h<;>lia
def JK (h:2<=M7 J):∃X∈J,∃Y∈J,∃Z∈J,cr (Y-X) (Z-X)≠0:=by
 match J,h with
 |[],h=>exact absurd h (by simp[M7])
 |p::o,h=>
  unfold M7 at h;dsimp only at h;split at h
  .lia
  .rename_i a c;obtain⟨d,q⟩:=v9 c;split at h
   .lia
   .rename_i r e;obtain⟨b,f⟩:=v9 e;obtain⟨s,b,g⟩:=aAp.mp b;obtain⟨B,k,l⟩:=aAp.mp d;obtain⟨C,m,n⟩:=aAp.mp b;exact⟨p,by simp,B,k,C,m,by rw[l,n,g];exact f⟩
def j3.off (h:j3 J)(f:n≠0):∃Z∈J,c9 n Z≠d:=by
 obtain⟨A,g,B,k,C,l,D,m,o⟩:=h;by_cases a:c9 n A=d
 .by_cases b:c9 n B=d
  .by_cases c:c9 n C=d
   .by_cases e:c9 n D=d
    .exact absurd (A3 f (by rw[d8];lia) (by rw[d8];lia) (by rw[d8];lia)) o
    .exact⟨D,m,e⟩
   .exact⟨C,l,c⟩
  .exact⟨B,k,b⟩
 .exact⟨A,g,a⟩
def j3.below (h:j3 J)(b:n≠0)(c:∀X∈J,c9 n X<=d):∃Z∈J,c9 n Z<d:=by obtain⟨Z,a,e⟩:=h.off (d:=d) b;exact⟨Z,a,by have:=c Z a;lia⟩
def kk:V:=⟨0,0,1⟩
def e9 (m:V)(J:List V):V×V:=
 let u:=b7 m (m+kk) J
 let a:=w9 u.1 u.2 J
 if M7 a=2 then(m,m+kk)else(a.getD 0 0,a.getD 1 0)
def HN:ConeM kk (λw=>0<w.x\/(w.x=0/\0<w.y))where
 add:=λ{u v} c d=>by simp;lia
 mul:=λ{k u} a h=>by
  simp;rcases h with h|⟨h,b⟩
  .exact .inl (aBa a h)
  .exact .inr ⟨by rw[h];simp,aBa a b⟩
 irr:=by simp
 inv:=λ{u} k h=>by simpa[kk]using h
def jF (h:c9 n a=0):ConeM a (λw=>c9 n w<0)where
 add:=λ{u v} d e=>by rw[aJ];lia
 mul:=λ{k u} b h=>by rw[u6];exact aBr b h
 irr:=by rw[L6];lia
 inv:=λ{u} k c=>by rw[aJ,u6,h];simpa using c
def G2 (m k:V):m+k-m=k:=ext (by simp;lia) (by simp;lia) (by simp;lia)
def iH (U:j3 J)(ho:J.Pairwise (λa b=>f6 (b-a)))(hm:m∈J)(hl:∀X∈J,X=m\/f6 (X-m)):
  IsFace J (b7 (e9 m J).1 (e9 m J).2 J).1 (b7 (e9 m J).1 (e9 m J).2 J).2:=by
 have C:ConeM (m+kk-m) (λw=>0<w.x\/(w.x=0/\0<w.y)):=by rw[G2];exact HN
 have af:m+kk-m≠0:=by rw[G2];intro e;have:=jk V.z e;simp[kk]at this
 have hp:∀P∈J,(0<(P-m).x\/((P-m).x=0/\0<(P-m).y))\/cr (m+kk-m) (P-m)=0:=λP H=>by
  rw[G2];rcases hl P H with e|e
  .right;subst e;rw[y8];apply ext<;>simp
  .unfold f6 at e;rcases e with e|⟨e1,e|⟨e2,e3⟩⟩
   .exact .inl (.inl e)
   .exact .inl (.inr ⟨e1,e⟩)
   .right;apply ext
    .simp[kk];simp at e2;lia
    .simp[kk];simp at e1;lia
    .simp[kk]
 have hx:∃P∈J,0<(P-m).x\/((P-m).x=0/\0<(P-m).y):=by
  by_cases z:∃P∈J,0<(P-m).x\/((P-m).x=0/\0<(P-m).y)
  .exact z
  .exfalso;obtain⟨Z,c,e⟩:=U.off (n:=⟨1,0,0⟩) (d:=m.x) (λe=>by have:=jk V.x e;simp at this);have w:=(hp Z c).resolve_left λq=>z ⟨Z,c,q⟩;rw[G2]at w;have:=jk V.y w;simp[kk]at this;simp[c9]at e
   lia
 obtain⟨l,g,o1,o2,g0,ge,N,gd,f,sB,sO,sP⟩:=P1 C af hp hx;have h:m∈w9 (b7 m (m+kk) J).1 (b7 m (m+kk) J).2 J:=d7.mpr ⟨hm,gd.symm⟩;have o:l∈w9 (b7 m (m+kk) J).1 (b7 m (m+kk) J).2 J:=d7.mpr ⟨o1,sO⟩;have O:m≠l:=λe=>by subst e;rw[y8]at o2;simp at o2
 by_cases h2:M7 (w9 (b7 m (m+kk) J).1 (b7 m (m+kk) J).2 J)=2
 .have e:e9 m J=(m,m+kk):=by unfold e9;simp only[h2,if_true]
  rw[e];obtain⟨X,I,Y,L,Z,c,hc⟩:=JK (J:=w9 (b7 m (m+kk) J).1 (b7 m (m+kk) J).2 J) (by lia);have I:=d7.mp I;have L:=d7.mp L;have c:=d7.mp c;exact⟨N,f,X,I.1,Y,L.1,Z,c.1,I.2,L.2,c.2,hc⟩
 .
  have h1:M7 (w9 (b7 m (m+kk) J).1 (b7 m (m+kk) J).2 J)≠3:=λz=>by obtain⟨A,hA,B,hB,C,hC,D,hD,hd⟩:=tQ z;have hA:=d7.mp hA;have hB:=d7.mp hB;have hC:=d7.mp hC;have hD:=d7.mp hD;exact hd (A3 N.ne (by rw[d8];lia) (by rw[d8];lia) (by rw[d8];lia))
  have ao:M7 (w9 (b7 m (m+kk) J).1 (b7 m (m+kk) J).2 J)<2:=by
   have:M7 (w9 (b7 m (m+kk) J).1 (b7 m (m+kk) J).2 J)<=3:=by
    generalize w9 (b7 m (m+kk) J).1 (b7 m (m+kk) J).2 J=t;unfold M7;split
    .lia
    .dsimp only;split
     .lia
     .split
      .lia
      .split<;>lia
   lia
  have p:=RY ao;have e:e9 m J=((w9 (b7 m (m+kk) J).1 (b7 m (m+kk) J).2 J).getD 0 0,(w9 (b7 m (m+kk) J).1 (b7 m (m+kk) J).2 J).getD 1 0):=by unfold e9;simp only[h2,if_false]
  rw[e];have ord:(w9 (b7 m (m+kk) J).1 (b7 m (m+kk) J).2 J).Pairwise (λa b=>f6 (b-a)):=aFT _ ho;have k:∀X,X∈w9 (b7 m (m+kk) J).1 (b7 m (m+kk) J).2 J↔X∈J/\c9 (b7 m (m+kk) J).1 X=(b7 m (m+kk) J).2:=λX=>d7;generalize w9 (b7 m (m+kk) J).1 (b7 m (m+kk) J).2 J=t at*
  match t,h,o with
  |[],h,_=>cases h
  |[x],h,o=>simp at h o;exact absurd (h.trans o.symm) O
  |x::y::r,h,o=>
   dsimp only[List.getD_cons_zero,List.getD_cons_succ];have s:f6 (y-x):=(aAA.mp ord).1 y (by simp);have ox:=(k x).mp (by simp);have oy:=(k y).mp (by simp);have u:y-x≠0:=λz=>by rw[z]at s;exact A4.irr s
   have na:c9 (b7 m (m+kk) J).1 (y-x)=0:=by rw[d8];lia
   have C2:=jF na;obtain⟨Z,c,hz⟩:=U.below N.ne f;obtain⟨v,g2,p1,p2,p0,pe,pp,pd,E,Q,T,sP2⟩:=P1 C2 u (J:=J) (λP H=>by
    have:=f P H;by_cases q:c9 (b7 m (m+kk) J).1 P<(b7 m (m+kk) J).2
    .exact .inl (by rw[d8];lia)
    .exact .inr (p x (by simp) y (by simp) P ((k P).mpr ⟨H,by lia⟩))) ⟨Z,c,by rw[d8];lia⟩
   exact⟨pp,E,x,ox.1,y,oy.1,v,p1,pd.symm,Q,T,C2.ad2 u p2⟩
def W6 {a b:V}(h:a-b=0):a=b:=by have c:=jk V.x h;have d:=jk V.y h;have e:=jk V.z h;simp at c d e;exact ext (by lia) (by lia) (by lia)
def IsFace.aa2 (f:J.Pairwise (λa b=>f6 (b-a)))(h:IsFace J n d):Sheet n (w9 n d J)where
 nz:=h.prim.ne
 pl:=λX g Y k=>by have:=(d7.mp g).2;have:=(d7.mp k).2;rw[d8];lia
 ord:=aFT _ f
 two:=by obtain⟨A,l,B,m,C,o,a,b,c,e⟩:=h.three;refine⟨A,d7.mpr ⟨l,a⟩,B,d7.mpr ⟨m,b⟩,λz=>e ?_⟩;subst z;rw[y8];apply ext<;>simp
def IsFace.ac9 {J:List V}{n:V}{d:Int}(h:IsFace J n d){a b:V}(c:EdgeOf n (λX=>X∈w9 n d J) a b):∃X∈w9 n d J,0<i9 n (b-a) (X-a):=by
 by_cases z:∃X∈w9 n d J,0<i9 n (b-a) (X-a)
 .exact z
 .exfalso;have w:=h.prim.ne;obtain⟨pa,da⟩:=d7.mp c.p;obtain⟨pb,db⟩:=d7.mp c.q;have f:c9 n (b-a)=0:=by rw[d8];lia
  have E:b-a≠0:=λe=>c.ne (W6 e).symm;have k:∀X∈J,c9 n X=d->cr (b-a) (X-a)=0:=λX g m=>by have s:=d7.mpr ⟨g,m⟩;have l:=c.left X s;have l':¬0<i9 n (b-a) (X-a):=λq=>z ⟨X,s,q⟩;exact Y9 w f (by rw[d8];lia) (by lia)
  obtain⟨A,t,B,H,C,I,u,L,N,e⟩:=h.three;have v:∀X∈J,c9 n X=d->∀Y∈J,c9 n Y=d->cr (X-Y) (b-a)=0:=λX g m Y O Q=>by have o:=k X g m;have r:=k Y O Q;have T:=jk V.x o;have U:=jk V.y o;have a3:=jk V.z o;have b1:=jk V.x r;have b2:=jk V.y r;have b3:=jk V.z r;simp at T U a3 b1 b2 b3;apply ext<;>simp<;>grind
  exact e (pE E (v B H L A t u)<|v C I N A t u)
def QT (o:j3 J)(c:IsFace J n d)(f:IsFace J m e)(h:EdgeOf n (λX=>X∈w9 n d J) a b)(g:EdgeOf m (λX=>X∈w9 m e J) b a)(k:X∈w9 n d J)(l:0<i9 n (b-a) (X-a)):c9 m X<e:=by
 obtain⟨r,s⟩:=d7.mp k;have B:=f.sup X r;by_cases z:c9 m X=e
 .exfalso;obtain⟨C,t⟩:=d7.mp h.p;obtain⟨pb,u⟩:=d7.mp h.q;obtain⟨_,v⟩:=d7.mp g.q;obtain⟨_,w⟩:=d7.mp g.p;obtain⟨Z,x,y⟩:=o.below c.prim.ne c.sup;have A:cr (b-a) (X-a)≠0:=λq=>by unfold i9 at l;rw[q,L6]at l;lia
  obtain⟨rfl,rfl⟩:=kK c.prim f.prim c.sup f.sup t u s v w z A x y;have:=g.left X k;have E:i9 n (a-b) (X-b)=-i9 n (b-a) (X-a):=by simp[i9,c9];grind
  lia
 .lia
def xW:List V->V
 |[]=>0
 |X::l=>X+xW l
theorem qS (n:V):∀l:List V,c9 n (xW l)=(l.map (c9 n)).sum
 |[]=>L6 n
 |X::l=>by simp only[xW,aAu,aDW];rw[aJ,qS n l]
theorem CW {α:Type}(f g:α->Int):∀l:List α,(∀x∈l,f x<=g x)->(l.map f).sum<=(l.map g).sum
 |[],_=>aCt _
 |x::l,h=>by
  simp only[aAu,aDW];have:=h x (by simp);have:=CW f g l (λy a=>h y (aAg _ a))
  lia
theorem EY {α:Type}(f g:α->Int):∀l:List α,(∀x∈l,f x<=g x)->(∃x∈l,f x<g x)->(l.map f).sum<(l.map g).sum
 |[],_,⟨x,b,_⟩=>by cases b
 |x::l,h,⟨y,a,c⟩=>by
  simp only[aAu,aDW];have d:=h x (by simp);have k:=CW f g l (λy a=>h y (aAg _ a));rcases aAe.mp a with e|e
  .subst e;lia
  .have:=EY f g l (λy a=>h y (aAg _ a)) ⟨y,e,c⟩
   lia
theorem cE {α:Type}(c:Int):∀l:List α,(l.map λ_=>c).sum=(l.length:Int)*c
 |[]=>by simp
 |x::l=>by simp only[aAu,aDW,aAt];rw[cE c l];push_cast;grind
def D1 (J:List V)(X:V):V:=(J.length:Int)*X-xW J
def W4 (J:List V)(n:V)(d:Int):Int:=(J.length:Int)*d-c9 n (xW J)
def xG (J:List V)(n X:V):c9 n (D1 J X)=(J.length:Int)*c9 n X-c9 n (xW J):=by unfold D1;rw[d8,u6]
def fY (a:j3 J)(b:n≠0)(h:∀X∈J,c9 n X<=d):0<W4 J n d:=by
 unfold W4;rw[qS,<-cE];have:=EY (c9 n) (λ_=>d) J h (a.below b h)
 lia
def len_pos (a:j3 J):0<(J.length:Int):=by
 obtain⟨A,b,_⟩:=a;have:0<J.length:=aEd b
 lia
def aZ (h:c9 n X=d):c9 n (D1 J X)=W4 J n d:=by rw[xG,h];rfl
def rM (h:c9 n X<=d):c9 n (D1 J X)<=W4 J n d:=by
 rw[xG];unfold W4;have:=aBc h (show(0:Int)<=J.length by lia)
 lia
def SE (a:0<(J.length:Int))(h:c9 n X<d):c9 n (D1 J X)<W4 J n d:=by
 rw[xG];unfold W4;have:=aEQ h a
 lia
def VV (J:List V)(a b X:V):i9 (D1 J a) (D1 J b) (D1 J X)=(J.length:Int)*(J.length:Int)*c9 (D1 J a) (cr (b-a) (X-a)):=by unfold D1;generalize(J.length:Int)=N;generalize xW J=s;simp[i9,c9];grind
def zW (h:cr w c=0)(x y:V):c9 w y*c9 c x=c9 w x*c9 c y:=by
 have e:c9 w y*c9 c x-c9 w x*c9 c y=c9 (cr w c) (cr y x):=by simp[c9];grind
 rw[h]at e;have:c9 0 (cr y x)=0:=by simp[c9]
 lia
def HG (c:j3 J)(e:IsFace J n d)(k:c9 n a=d)(r:c9 n b=d)(s:c9 n X=d)(h:0<i9 n (b-a) (X-a)):0<i9 (D1 J a) (D1 J b) (D1 J X):=by
 rw[VV];have f:=len_pos c;refine aBa (aBa f f) ?_;have g:=e.prim.ne;have p:cr n (cr (b-a)<|X-a)=0:=M2 (by rw[d8];lia) (by rw[d8];lia);have q:=zW p n (D1 J a);have l:0<c9 n (D1 J a):=by rw[aZ k];exact fY c g e.sup
 have m:0<c9 (cr (b-a)<|X-a) n:=by rw[fU];exact h
 have t:=aBa l m;have o:=A7 g;rw[fU (D1 J a)];by_cases z:0<c9 (cr (b-a)<|X-a) (D1 J a)
 .exact z
 .exfalso;have:c9 n n*c9 (cr (b-a)<|X-a) (D1 J a)<=0:=by have:=aBc (show c9 (cr (b-a)<|X-a) (D1 J a)<=0 by lia) (aAS o);simpa using this
  lia
def TY (c:j3 J)(f:IsFace J n d)(k:IsFace J m e)(g:EdgeOf n (λX=>X∈w9 n d J) a b)(l:EdgeOf m (λX=>X∈w9 m e J) b a)(T:c9 m B*W4 J n d<=c9 n B*W4 J m e):0<=i9 (D1 J a) (D1 J b) B:=by
 obtain⟨X,o,t⟩:=f.ac9 g;have x:=QT c f k g l o t;obtain⟨U,u⟩:=d7.mp o;obtain⟨Y,v⟩:=d7.mp g.p;obtain⟨pb,w⟩:=d7.mp g.q;obtain⟨_,A⟩:=d7.mp l.q;obtain⟨_,C⟩:=d7.mp l.p;have c0:=fY c f.prim.ne f.sup;have c1:=fY c k.prim.ne k.sup;have E:=HG c f v w u t;by_cases z:0<=i9 (D1 J a) (D1 J b) B
 .exact z
 .exfalso;have h:∀y,c9 (W4 J n d*m-W4 J m e*n) y=W4 J n d*c9 m y-W4 J m e*c9 n y:=λy=>by rw[fU,d8,u6,u6,fU y m,fU y n]
  have H:c9 (W4 J n d*m-W4 J m e*n) (D1 J a)=0:=by rw[h,aZ v,aZ A];grind
  have I:c9 (W4 J n d*m-W4 J m e*n) (D1 J b)=0:=by rw[h,aZ w,aZ C];grind
  have L:c9 (W4 J n d*m-W4 J m e*n) (D1 J X)<0:=by
   rw[h,aZ u];have N:=SE (len_pos c) x;have:=aEQ N c0;have e1:W4 J m e*W4 J n d=W4 J n d*W4 J m e:=aGD _ _
   lia
  have p:=zW (M2 H I) (D1 J X) B;have O:c9 (cr (D1 J a)<|D1 J b) (D1 J X)=i9 (D1 J a) (D1 J b) (D1 J X):=X6 _ _ _;have Q:c9 (cr (D1 J a)<|D1 J b) B=i9 (D1 J a) (D1 J b) B:=X6 _ _ _;rw[O,Q]at p;have r:0<c9 (W4 J n d*m-W4 J m e*n) (D1 J X)*i9 (D1 J a) (D1 J b) B:=Int.mul_pos_of_neg_of_neg L (by lia);rw[<-p]at r;have s:0<c9 (W4 J n d*m-W4 J m e*n) B:=by
   by_cases q:0<c9 (W4 J n d*m-W4 J m e*n) B
   .exact q
   .have:=aAV (show c9 (W4 J n d*m-W4 J m e*n) B<=0 by lia) (aAS E);simp at this;lia
  rw[h]at s;have e4:c9 m B*W4 J n d=W4 J n d*c9 m B:=aGD _ _;have e5:c9 n B*W4 J m e=W4 J m e*c9 n B:=aGD _ _
  lia
def DY {a b c d e f:Int}(g:0<b)(h:0<d)(k:0<f)(l:a*d<=c*b)(m:c*f<=e*d):a*f<=e*b:=by
 have o:=aAV l (aAS k);have p:=aAV m (aAS g);have n:(a*f)*d<=(e*b)*d:=by grind
 exact aER n h
theorem HL {α:Type}(p q:α->Int):∀(l:List α),l≠[]->(∀x∈l,0<q x)->∃x∈l,∀y∈l,p y*q x<=p x*q y
 |[],h,_=>absurd rfl h
 |[x],_,_=>⟨x,by simp,λy d=>by simp at d;subst d;exact aCt _⟩
 |x::y::l,_,b=>by
  obtain⟨z,f,h⟩:=HL p q (y::l) (by simp) (λw a=>b w (aAg _ a));by_cases c:p x*q z<=p z*q x
  .refine⟨z,aAg _ f,λw a=>?_⟩;rcases aAe.mp a with e|e
   .subst e;exact c
   .exact h w e
  .refine⟨x,by simp,λw a=>?_⟩;rcases aAe.mp a with e|e
   .subst e;exact aCt _
   .exact DY (b w a) (b z<|aAg _ f) (b x (by simp)) (h w e) (by lia)
theorem xw (h:V->Int):∀(x:V) (l:List V),0<=h x->(∀z,(x::l).getLast?=some z->h z<=0)->l≠[]->∃u v,(u,v)∈n9 (x::l)/\0<=h u/\h v<=0
 |x,[],_,_,b=>absurd rfl b
 |x,y::r,d,a,_=>by
  by_cases c:h y<=0
  .exact⟨x,y,by simp[n9],d,c⟩
  .match r,a with
   |[],a=>exact absurd (a y rfl) c
   |z::r,a=>obtain⟨u,v,m,p⟩:=xw h y (z::r) (by lia) (λw e=>a w (by rw[aBq];exact e)) (by simp);exact⟨u,v,by simp only[n9]at m⊢;exact aAg _ m,p⟩
theorem mZ:∀(l:List V) (x z w:V),(x::l).getLast?=some z->(z,w)∈n9 (x::l++[w])
 |[],x,z,w,h=>by simp at h;subst h;simp[n9]
 |y::l,x,z,w,h=>by rw[aBq]at h;have:=mZ l y z w h;simp only[aBb,n9]at this⊢;exact aAg _ this
theorem iZ:∀(l:List V) (x w:V),∀e∈n9 (x::l),e∈n9 (x::l++[w])
 |[],x,w,e,h=>by simp[n9]at h
 |y::l,x,w,e,h=>by
  simp only[aBb,n9]at h⊢;rcases aAe.mp h with q|q
  .subst q;simp
  .exact aAg _ (iZ l y w e q)
def S8 (f:J.Pairwise (λa b=>f6 (b-a)))(c:IsFace J n d):∃r s t l,j8 n (w9 n d J)=r::s::t::l:=by
 have S:=c.aa2 f;obtain⟨r,l,e,_⟩:=S.aa7;match l,e with
 |[],e=>
  have h:(r,r)∈U7 (j8 n<|w9 n d J):=by rw[e];simp[U7]
  exact absurd rfl (S.pair h).ne
 |[s],e=>
  have g:(r,s)∈U7 (j8 n<|w9 n d J):=by rw[e];simp[U7]
  have k:(s,r)∈U7 (j8 n<|w9 n d J):=by rw[e];simp[U7]
  have m:=S.pair g;have o:=S.pair k;obtain⟨X,p,q⟩:=c.ac9 m;have:=o.left X p;have u:i9 n (r-s) (X-s)=-i9 n (s-r) (X-r):=by simp[i9,c9];grind
  lia
 |s::t::l,e=>exact⟨r,s,t,l,e⟩
def uS (T:j3 J)(ho:J.Pairwise (λa b=>f6 (b-a)))(fs:List (V×Int))(af:fs≠[])(hf:∀f∈fs,IsFace J f.1 f.2)(hc:∀f∈fs,∀a b,EdgeOf f.1 (λX=>X∈w9 f.1 f.2 J) a b->∃g∈fs,EdgeOf g.1 (λX=>X∈w9 g.1 g.2 J) b a)(H:IsFace J n d):(n,d)∈fs:=by
 obtain⟨B,hBd⟩:∃B,B=xW ((w9 n d J).map (D1 J)):=⟨_,rfl⟩;have dB:∀m,c9 m B=((w9 n d J).map λX=>c9 m (D1 J X)).sum:=λm=>by rw[hBd,qS,aBw];rfl
 have cn:=fY T H.prim.ne H.sup;have ub:∀m e,(∀X∈J,c9 m X<=e)->c9 m B<=((w9 n d J).length:Int)*W4 J m e:=λm e hm=>by rw[dB,<-cE];exact CW _ _ _ λX k=>rM (hm X (d7.mp k).1)
 have eB:c9 n B=((w9 n d J).length:Int)*W4 J n d:=by rw[dB,<-cE];congr 1;exact aDM λX k=>aZ (d7.mp k).2
 obtain⟨⟨m,e⟩,hm,htop⟩:=HL (λf:V×Int=>c9 f.1 B) (λf=>W4 J f.1 f.2) fs af λf h=>fY T (hf f h).prim.ne (hf f h).sup;have o:=hf _ hm;have U:∀a b,EdgeOf m (λX=>X∈w9 m e J) a b->0<=i9 (D1 J a) (D1 J b) B:=λa b hab=>by obtain⟨g,hg,hg2⟩:=hc _ hm a b hab;exact TY T o (hf g hg) hab hg2 (htop g hg)
 have S:=o.aa2 ho;obtain⟨r,s,t,l,er⟩:=S8 ho o;have nd:=S.aa4;have pr:=λ{P Q}=>S.aa1 (P:=P) (Q:=Q);rw[er]at pr nd;have rm:r∈j8 m (w9 m e J):=by rw[er];simp
 have on:∀X∈r::s::t::l,c9 m X=e:=λX k=>by rw[<-er]at k;exact(d7.mp<|S.aa3 k).2
 obtain⟨z,hz⟩:∃z,(s::t::l).getLast?=some z:=by simp[aEV]
 have c1:(r,s)∈U7 (r::s::t::l):=by rw[S4];simp[n9]
 have c2:(z,r)∈U7 (r::s::t::l):=by rw[S4];exact mZ _ _ _ _ (by rw[aBq];exact hz)
 have w1:=U _ _ (pr.mp c1);have w2:=U _ _ (pr.mp c2);obtain⟨u,v,huv,hu,hv⟩:=xw (λX=>i9 (D1 J r) (D1 J X) B) s (t::l) w1 (λy hy=>by
  have:y=z:=aAl (hy.symm.trans hz);subst this;have e1:i9 (D1 J r) (D1 J y) B=-i9 (D1 J y) (D1 J r) B:=by simp[i9,c9];grind
  lia) (by simp)
 have c3:(u,v)∈U7 (r::s::t::l):=by rw[S4];have:=iZ (t::l) s r _ huv;simp only[aBb,n9]at this⊢;exact aAg _ this
 have g3:=pr.mp c3;have mu:u∈s::t::l/\v∈s::t::l:=by
  have:=huv;have hh:∀(l:List V) (p q:V),(p,q)∈n9 l->p∈l/\q∈l:=λl=>by
   induction l with
   |nil=>intro p q h;simp[n9]at h
   |cons x l ih=>
    intro p q h;match l,h,ih with
    |[],h,_=>simp[n9]at h
    |y::l,h,ih=>
     simp only[n9]at h;rcases aAe.mp h with c|c
     .cases c;simp
     .have:=ih p q c;exact⟨aAg _ this.1,aAg _ this.2⟩
  exact hh _ _ _ huv
 have nr:=(aAH.mp nd).1;have ru:r≠u:=λq=>by subst q;exact nr mu.1
 have rv:r≠v:=λq=>by subst q;exact nr mu.2
 have st:=S.strict g3 rm ru rv;have du:=on u (aAg _ mu.1);have dv:=on v (aAg _ mu.2);have dr:=on r (by simp);have D0:=HG T o du dv dr st;have w3:=U _ _ g3;have w:=CI B (D1 J r) (D1 J u) (D1 J v);have a1:i9 B (D1 J u) (D1 J v)=i9 (D1 J u) (D1 J v) B:=by simp[i9,c9];grind
 have a2:i9 B (D1 J v) (D1 J r)=-i9 (D1 J r) (D1 J v) B:=by simp[i9,c9];grind
 have a3:i9 B (D1 J r) (D1 J u)=i9 (D1 J r) (D1 J u) B:=by simp[i9,c9];grind
 have a4:i9 (D1 J r) (D1 J u) (D1 J v)=i9 (D1 J u) (D1 J v) (D1 J r):=by simp[i9,c9];grind
 rw[a1,a2,a3,a4]at w;obtain⟨I,hal⟩:∃I,I=i9 (D1 J u) (D1 J v) B:=⟨_,rfl⟩;obtain⟨N,yp⟩:∃N,N=-i9 (D1 J r) (D1 J v) B:=⟨_,rfl⟩;obtain⟨O,hga⟩:∃O,O=i9 (D1 J r) (D1 J u) B:=⟨_,rfl⟩;obtain⟨E,hDe⟩:∃E,E=i9 (D1 J u) (D1 J v) (D1 J r):=⟨_,rfl⟩;rw[<-hal,<-yp,<-hga,<-hDe]at w;have al0:0<=I:=by lia
 have be0:0<=N:=by lia
 have ga0:0<=O:=by lia
 have De0:0<E:=by lia
 have cd:∀f:V,E*c9 f B=O*c9 f (D1 J v)+I*c9 f (D1 J r)+N*c9 f (D1 J u):=λf=>by
  have:=jk (c9 f) w;rw[aJ,aJ,u6,u6,u6,u6]at this
  lia
 have q1:=cd m;rw[aZ dr,aZ du,aZ dv]at q1;have q2:=cd n;have cm:=fY T o.prim.ne o.sup;have pt:∀X∈r::s::t::l,X∈J:=λX k=>by rw[<-er]at k;exact(d7.mp<|S.aa3 k).1
 have r1:=rM (J:=J) (H.sup r (pt r (by simp)));have r2:=rM (J:=J) (H.sup u<|pt u<|aAg _ mu.1);have r3:=rM (J:=J) (H.sup v<|pt v<|aAg _ mu.2);have s1:=aBc r1 al0;have s2:=aBc r2 be0;have s3:=aBc r3 ga0;obtain⟨L,hL⟩:∃L:Int,L=((w9 n d J).length:Int):=⟨_,rfl⟩;have ub1:=ub m e o.sup;rw[<-hL]at eB ub1;have k1:E*L<=I+N+O:=by
  have:(E*L)*W4 J n d<=(I+N+O)*W4 J n d:=by
   rw[eB]at q2;have e1:E*L*W4 J n d=E*(L*W4 J n d):=aFs _ _ _;have e2:(I+N+O)*W4 J n d=I*W4 J n d+N*W4 J n d+O*W4 J n d:=by grind
   lia
  exact aER this cn
 have k2:E*c9 m B=(I+N+O)*W4 J m e:=by rw[q1];grind
 have k3:(E*L)*W4 J m e<=E*c9 m B:=by rw[k2];exact aAV k1 (aAS cm)
 have k4:L*W4 J m e<=c9 m B:=by rw[aFs]at k3;exact Int.le_of_mul_le_mul_left k3 De0
 have all:∀X∈w9 n d J,c9 m X=e:=λX k=>by
  have le:c9 m X<=e:=o.sup X (d7.mp k).1;by_cases z:c9 m X=e
  .exact z
  .exfalso;have:=EY (λX=>c9 m (D1 J X)) (λ_=>W4 J m e) (w9 n d J) (λY hY=>rM (o.sup Y (d7.mp hY).1)) ⟨X,k,SE (len_pos T) (by lia)⟩;rw[<-dB,cE,<-hL]at this
   lia
 obtain⟨A,hA,B',hB',C,hC,ea,eb,ec,hcr⟩:=H.three;obtain⟨Z,hZ,hz⟩:=T.below H.prim.ne H.sup;obtain⟨rfl,rfl⟩:=kK H.prim o.prim H.sup o.sup ea eb ec (all A<|d7.mpr ⟨hA,ea⟩) (all B'<|d7.mpr ⟨hB',eb⟩) (all C<|d7.mpr ⟨hC,ec⟩) hcr hZ hz;exact hm
def k8 (J:List V)(f:V×Int):List V:=j8 f.1 (w9 f.1 f.2 J)
structure LInv (J:List V)(p0:V×V)(fs:List (V×Int))(walked:V×V->Prop)(waiting:List (V×V)):Prop where
 face:∀f∈fs,IsFace J f.1 f.2
 nd:fs.Nodup
 wk:∀e,walked e↔∃f∈fs,e∈U7 (k8 J f)
 cl:∀f∈fs,∀a b,(a,b)∈U7 (k8 J f)->(∃g∈fs,(b,a)∈U7 (k8 J g))\/(b,a)∈waiting
 wt:∀p∈waiting,(∃f∈fs,(p.2,p.1)∈U7 (k8 J f))\/(fs=[]/\p=p0)
 ne:fs=[]->waiting=[p0]
structure Good (J:List V)(m:V):Prop where
 solid:j3 J
 ord:J.Pairwise (λa b=>f6 (b-a))
 mem:m∈J
 least:∀X∈J,X=m\/f6 (X-m)
section
variable{J:List V} {m:V} (G:Good J m) {fs:List (V×Int)} {walked:V×V->Prop} {waiting rest:List (V×V)} {p:V×V}
include G
theorem DW:LInv J (e9 m J) [] (λ_=>False) [e9 m J]where
 face:=λf h=>by cases h
 nd:=aDh
 wk:=λe=>⟨λh=>h.elim,λ⟨f,h,_⟩=>by cases h⟩
 cl:=λf h=>by cases h
 wt:=λq h=>.inr ⟨rfl,by simpa using h⟩
 ne:=λ_=>rfl
theorem SV (h:LInv J (e9 m J) fs walked waiting)(k:waiting=rest++[p])(l:walked p):LInv J (e9 m J) fs walked rest:=by
 have g:∀q,q∈waiting↔q=p\/q∈rest:=λq=>by rw[k];simp[or_comm]
 obtain⟨n,c,o⟩:=(h.wk p).mp l;have r:fs≠[]:=λe=>by subst e;cases c
 refine⟨h.face,h.nd,h.wk,λf s a b d=>?_,λq t=>h.wt q ((g q).mpr (.inr t)),λe=>absurd e r⟩;rcases h.cl f s a b d with q|q
 .exact .inl q
 .rcases(g (b,a)).mp q with z|z
  .subst z;exact .inl ⟨n,c,o⟩
  .exact .inr z
theorem zI (h:LInv J (e9 m J) fs walked waiting)(d:p∈waiting)(e:¬walked p):IsFace J (b7 p.1 p.2 J).1 (b7 p.1 p.2 J).2/\b7 p.1 p.2 J∉fs/\(fs≠[]->p∈U7 (k8 J (b7 p.1 p.2 J))):=by
 rcases h.wt p d with⟨f,g,k⟩|⟨l,n⟩
 .have a:=h.face f g;have S:=a.aa2 G.ord;have o:=S.aa1.mp k;obtain⟨b,q⟩:=vT a.prim.ne a.sup (G.solid.below a.prim.ne a.sup) o;have r:=b.aa2 G.ord;have c:p∈U7 (k8 J<|b7 p.1 p.2 J):=r.aa1.mpr q;exact⟨b,λz=>e ((h.wk p).mpr ⟨_,z,c⟩),λ_=>c⟩
 .subst l n;exact⟨iH G.solid G.ord G.mem G.least,by simp,λz=>absurd rfl z⟩
theorem QL (h:LInv J (e9 m J) fs walked waiting)(o:waiting=rest++[p])(s:¬walked p){walked':V×V->Prop}(t:∀e,walked' e↔walked e\/e∈U7 (k8 J (b7 p.1 p.2 J)))(l:∀q,q∈waiting'↔q∈rest\/(q.2,q.1)∈U7 (k8 J (b7 p.1 p.2 J))):
  LInv J (e9 m J) (fs++[b7 p.1 p.2 J]) walked' waiting':=by
 have n:∀q,q∈waiting↔q=p\/q∈rest:=λq=>by rw[o];simp[or_comm]
 obtain⟨u,v,w⟩:=zI G h ((n p).mpr (.inl rfl)) s;refine⟨λf c=>?_,?_,λe=>?_,λf c a b k=>?_,λq x=>?_,λe=>by simp at e⟩
 .rcases aAL.mp c with z|z
  .exact h.face f z
  .have:f=b7 p.1 p.2 J:=by simpa using z
   subst this;exact u
 .rw[aCD];exact⟨h.nd,by simp,λa A b B=>λe=>by
   have:b=b7 p.1 p.2 J:=by simpa using B
   subst e this;exact v A⟩
 .rw[t,h.wk];constructor
  .rintro(⟨f,c,d⟩|d)
   .exact⟨f,aBf _ c,d⟩
   .exact⟨_,aAC _ (by simp),d⟩
  .rintro⟨f,c,d⟩;rcases aAL.mp c with z|z
   .exact .inl ⟨f,z,d⟩
   .have:f=b7 p.1 p.2 J:=by simpa using z
    subst this;exact .inr d
 .rcases aAL.mp c with z|z
  .rcases h.cl f z a b k with⟨g,C,e⟩|q
   .exact .inl ⟨g,aBf _ C,e⟩
   .rcases(n (b,a)).mp q with y|y
    .have E:fs≠[]:=λe=>by subst e;cases z
     exact .inl ⟨b7 p.1 p.2 J,aAC _ (by simp),by rw[y];exact w E⟩
    .exact .inr ((l _).mpr (.inl y))
  .have:f=b7 p.1 p.2 J:=by simpa using z
   subst this;exact .inr ((l _).mpr (.inr k))
 .rcases(l q).mp x with z|z
  .rcases h.wt q ((n q).mpr (.inr z))with⟨f,c,e⟩|⟨H,I⟩
   .exact .inl ⟨f,aBf _ c,e⟩
   .have:=h.ne H;exfalso;rw[o]at this;have r:=jk aFt this;simp at r;subst r;cases z
  .exact .inl ⟨_,aAC _ (by simp),z⟩
theorem NW (h:LInv J (e9 m J) fs walked []):fs≠[]/\∀n d,(n,d)∈fs↔IsFace J n d:=by
 have l:fs≠[]:=λe=>by have:=h.ne e;cases this
 refine⟨l,λn d=>⟨λc=>h.face _ c,λc=>?_⟩⟩;refine uS G.solid G.ord fs l h.face (λf c a b k=>?_) c;have S:=(h.face f c).aa2 G.ord;rcases h.cl f c a b (S.aa1.mpr k)with⟨g,o,e⟩|q
 .exact⟨g,o,((h.face g o).aa2 G.ord).aa1.mp e⟩
 .cases q
end
def mQ (h:IsFace J n d):∃A∈J,∃B∈J,∃C∈J,cr (B-A) (C-A)≠0/\d6 A B C=(n,d):=by
 obtain⟨A,t,B,f,C,m,a,b,c,e⟩:=h.three;have o:∀B∈J,∀C∈J,c9 n B=d->c9 n C=d->cr (B-A) (C-A)≠0->0<c9 n (cr (B-A)<|C-A)->d6 A B C=(n,d):=λB f C m b c e r=>by
  obtain⟨g,H,I,L,N⟩:=dW e;have p:cr n (cr (B-A)<|C-A)=0:=M2 (by rw[d8];lia) (by rw[d8];lia);obtain⟨k,l,u,s⟩:=B9 h.prim.ne p;have O:0<l:=by
   have q:=jk (c9 n) s;rw[u6,u6]at q;have:=aBa u r;have Q:=A7 h.prim.ne;by_cases z:0<l
   .exact z
   .have:=aAV (show l<=0 by lia) (aAS Q);simp at this;lia
  rw[I]at s;have T:(k*g)*(d6 A B C).1=l*n:=by rw[<-s];apply ext<;>simp<;>grind
  have v:=oF L h.prim (aBa u H) O T;refine aFu v ?_;rw[N,v];exact a
 by_cases z:0<c9 n (cr (B-A)<|C-A)
 .exact⟨A,t,B,f,C,m,e,o B f C m b c e z⟩
 .have w:cr (C-A) (B-A)=-cr (B-A) (C-A):=by apply ext<;>simp<;>grind
  have E:cr (C-A) (B-A)≠0:=λq=>e (by rw[w]at q;have U:=jk V.x q;have Y:=jk V.y q;have q3:=jk V.z q;simp only[YT,YS,YC,bG,aS,aW]at U Y q3;exact ext (by simp only[bG];lia) (by simp only[aS];lia) (by simp only[aW];lia))
  have af:c9 n (cr (B-A)<|C-A)≠0:=λq=>e (Y9 h.prim.ne (by rw[d8];lia) (by rw[d8];lia) q);refine⟨A,t,C,m,B,f,E,o C m B f c b E ?_⟩;have:c9 n (cr (C-A)<|B-A)=-c9 n (cr (B-A)<|C-A):=by rw[w];simp[c9];grind
  lia
def cands (J:List V):List (V×Int):=J.flatMap λA=>J.flatMap λB=>J.map λC=>d6 A B C
def LC (J:List V):(cands J).length=J.length*(J.length*J.length):=by
 unfold cands;have h:∀(l:List V) (f:V->List (V×Int)) (k:Nat),(∀x,(f x).length=k)->(l.flatMap f).length=l.length*k:=λl f k a=>by
  induction l with
  |nil=>simp
  |cons x l b=>rw[List.flatMap_cons,aAx,b,a,aAt,Nat.succ_mul,Nat.add_comm]
 rw[h J _ (J.length*J.length) λA=>h J _ J.length λB=>by simp]
theorem G0 {α:Type}[DecidableEq α]:∀{l m:List α},l.Nodup->(∀x∈l,x∈m)->l.length<=m.length
 |[],_,_,_=>aBk _
 |x::l,m,h,a=>by
  have b:=a x (by simp);have c:=aAH.mp h;have:=G0 (l:=l) (m:=m.erase x) c.2 (λy d=>by
   have ne:y≠x:=λe=>by subst e;exact c.1 d
   exact(aFU ne).mpr (a y<|aAg _ d))
  rw[aFk b]at this;have:0<m.length:=aEd b;simp only[aAt]
  lia
def KG {J:List V}{fs:List (V×Int)}(a:fs.Nodup)(b:∀f∈fs,IsFace J f.1 f.2):fs.length<=J.length*(J.length*J.length):=by rw[<-LC];refine G0 a λf h=>?_;obtain⟨A,c,B,d,C,g,_,e⟩:=mQ (b f h);unfold cands;rw[aBA];refine⟨A,c,?_⟩;rw[aBA];exact⟨B,d,aAp.mpr ⟨C,g,e⟩⟩
section
variable{J:List V} (hs:j3 J) (ho:J.Pairwise (λa b=>f6 (b-a)))
include hs ho
theorem lK (c:IsFace J n d)(h:EdgeOf n (λX=>X∈w9 n d J) a b):
 IsFace J (b7 b a J).1 (b7 b a J).2/\EdgeOf (b7 b a J).1 (λX=>X∈w9 (b7 b a J).1 (b7 b a J).2 J) b a:=vT c.prim.ne c.sup (hs.below c.prim.ne c.sup) h
theorem kQ (c:IsFace J n d)(e:EdgeOf n (λX=>X∈w9 n d J) a b)(f:EdgeOf n (λX=>X∈w9 n d J) b a):False:=by
 obtain⟨X,g,h⟩:=c.ac9 e;have:=f.left X g;have k:i9 n (a-b) (X-b)=-i9 n (b-a) (X-a):=by simp[i9,c9];grind
 lia
theorem dP (a:IsFace J n d)(o:X∈k8 J (n,d)):∃f g:V×Int,IsFace J f.1 f.2/\IsFace J g.1 g.2/\(n,d)≠f/\(n,d)≠g/\f≠g/\c9 n X=d/\c9 f.1 X=f.2/\c9 g.1 X=g.2:=by
 have S:=a.aa2 ho;obtain⟨Y,t⟩:=cH S o;obtain⟨W,r⟩:=NR S o;have b:=S.aa1.mp t;have h:=S.aa1.mp r;obtain⟨l,c⟩:=lK hs ho a b;obtain⟨u,k⟩:=lK hs ho a h;have m:W≠Y:=λe=>by subst e;exact kQ hs ho a b h
 refine⟨_,_,l,u,λe=>?_,λe=>?_,λe=>?_,(d7.mp b.p).2,(d7.mp c.q).2,(d7.mp k.p).2⟩
 .rw[<-e]at c;exact kQ hs ho a b c
 .rw[<-e]at k;exact kQ hs ho a h k
 .
  have st:=S.strict b (xE S r).1 (h.ne) m;have v:=(d7.mp h.p).2;have w:=(d7.mp b.p).2;have x:=(d7.mp b.q).2;have y:=(d7.mp c.p).2;have z:=(d7.mp c.q).2;have s:=(d7.mp k.q).2;rw[<-e]at s;have A:cr (Y-X) (W-X)≠0:=λq=>by unfold i9 at st;rw[q,L6]at st;lia
  obtain⟨Z,B,C⟩:=hs.below a.prim.ne a.sup;obtain⟨E,H⟩:=kK a.prim l.prim a.sup l.sup w x v z y s A B C;have:(n,d)=b7 Y X J:=aFu E H;rw[<-this]at c;exact kQ hs ho a b c
theorem KZ (s:IsFace J n d)(f:IsFace J m e)(h:EdgeOf n (λX=>X∈w9 n d J) a b)(ga:c9 m a=e)(gb:c9 m b=e):(m,e)=(n,d)\/(m,e)=b7 b a J:=by
 obtain⟨pa,da⟩:=d7.mp h.p;obtain⟨pb,db⟩:=d7.mp h.q;obtain⟨I,L⟩:=lK hs ho s h;have hab:c9 n (a-b)=0:=by rw[d8];lia
 have C:=tV (n:=n) s.prim.ne hab;have af:a-b≠0:=λq=>h.ne (W6 q);obtain⟨P,pP,eP,hP⟩:∃P∈J,c9 m P=e/\cr (a-b) (P-b)≠0:=by
  by_cases z:∃P∈J,c9 m P=e/\cr (a-b) (P-b)≠0
  .exact z
  .exfalso;obtain⟨A,hA,B,hB,D,hD,eA,eB,eD,hc⟩:=f.three;have k:∀X∈J,c9 m X=e->cr (a-b) (X-b)=0:=λX hX dX=>by
    by_cases q:cr (a-b) (X-b)=0
    .exact q
    .exact absurd ⟨X,hX,dX,q⟩ z
   have k2:∀X∈J,c9 m X=e->∀Y∈J,c9 m Y=e->cr (X-Y) (a-b)=0:=λX hX dX Y hY dY=>by have t:=k X hX dX;have c:=k Y hY dY;have a1:=jk V.x t;have a2:=jk V.y t;have a3:=jk V.z t;have L:=jk V.x c;have b2:=jk V.y c;have b3:=jk V.z c;simp at a1 a2 a3 L b2 b3;apply ext<;>simp<;>grind
   exact hc (pE af (k2 B hB eB A hA eA)<|k2 D hD eD A hA eA)
 have mab:c9 m (a-b)=0:=by rw[d8];lia
 have mP:c9 m (P-b)=0:=by rw[d8];lia
 have par:cr m (cr (a-b)<|P-b)=0:=M2 mab mP;obtain⟨k,l,hk,N⟩:=B9 f.prim.ne par;have dl:∀w,k*i9 (a-b) (P-b) w=l*c9 m w:=λw=>by have:=jk (λv=>c9 v w) N;simp only[J7,X6]at this;exact this
 have l0:l≠0:=λq=>hP (by rw[q,x6]at N;have t:=jk V.x N;have c:=jk V.y N;have q3:=jk V.z N;simp only[RU,TD,NQ,bG,aS,aW]at t c q3;exact ext ((aAw.mp t).resolve_left (by lia)) ((aAw.mp c).resolve_left (by lia)) ((aAw.mp q3).resolve_left (by lia)))
 have T:∀Q∈J,c9 m (Q-b)<=0:=λQ hQ=>by rw[d8];have:=f.sup Q hQ;lia
 obtain⟨Z,hZ,hz⟩:=hs.below s.prim.ne s.sup;by_cases hl:0<l
 .
  right;obtain⟨O,hO,eO⟩:∃O∈w9 (b7 b a J).1 (b7 b a J).2 J,0<i9 (b7 b a J).1 (a-b) (O-b):=I.ac9 L;obtain⟨pO,dO⟩:=d7.mp hO;obtain⟨_,e1b⟩:=d7.mp L.p;obtain⟨_,e1a⟩:=d7.mp L.q;have t1:i9 (a-b) (P-b) (O-b)<=0:=by
   have q:=dl (O-b);have:=aBc (T O pO) (aAS hl);rw[aEj]at this;by_cases z:i9 (a-b) (P-b) (O-b)<=0
   .exact z
   .have:=aBa hk (show 0<i9 (a-b) (P-b) (O-b)by lia);lia
  have g:cr (b7 b a J).1 (cr (a-b)<|O-b)=0:=M2 (by rw[d8];lia) (by rw[d8];lia);obtain⟨k',u,U,o⟩:=B9 I.prim.ne g;have r:∀w,k'*i9 (a-b) (O-b) w=u*c9 (b7 b a J).1 w:=λw=>by have:=jk (λv=>c9 v w) o;simp only[J7,X6]at this;exact this
  have je:0<u:=by
   have q:=jk (c9 (b7 b a J).1) o;rw[u6,u6]at q;have c:0<c9 (b7 b a J).1 (cr (a-b)<|O-b):=eO;have:=aBa U c;have hn:=A7 I.prim.ne;by_cases z:0<u
   .exact z
   .have:=aAV (show u<=0 by lia) (aAS hn);simp at this;lia
  have t2:i9 (a-b) (O-b) (P-b)<=0:=by
   have q:=r (P-b);have h0:c9 (b7 b a J).1 (P-b)<=0:=by rw[d8];have:=I.sup P pP;lia
   have:=aBc h0 (aAS je);rw[aEj]at this;by_cases z:i9 (a-b) (O-b) (P-b)<=0
   .exact z
   .have:=aBa U (show 0<i9 (a-b) (O-b) (P-b)by lia);lia
  have t3:i9 (a-b) (O-b) (P-b)=0:=by rw[l6]at t1;lia
  have q0:=r (P-b);rw[t3,aEj]at q0;have onP':c9 (b7 b a J).1 P=(b7 b a J).2:=by have:=(aAw.mp q0.symm).resolve_left (by lia);rw[d8]at this;lia
  obtain⟨Z',E,H⟩:=hs.below f.prim.ne f.sup;obtain⟨t,c⟩:=kK f.prim I.prim f.sup I.sup gb ga eP e1b e1a onP' hP E H;exact aFu t c
 .
  left;have lh:l<0:=by lia
  obtain⟨O,hO,eO⟩:=s.ac9 h;obtain⟨pO,dO⟩:=d7.mp hO;rw[pZ]at eO;have t1:0<=i9 (a-b) (P-b) (O-b):=by
   have q:=dl (O-b);have h2:0<=l*c9 m (O-b):=by
    have:=aBG (show 0<=-l by lia) (show 0<=-c9 m (O-b)by have:=T O pO;lia)
    rwa [aDq]at this
   by_cases z:0<=i9 (a-b) (P-b) (O-b)
   .exact z
   .have:=aBr hk (show i9 (a-b) (P-b) (O-b)<0 by lia);lia
  have g:cr n (cr (b-a)<|O-b)=0:=M2 (by rw[d8];lia) (by rw[d8];lia);obtain⟨k',u,U,o⟩:=B9 s.prim.ne g;have r:∀w,k'*i9 (b-a) (O-b) w=u*c9 n w:=λw=>by have:=jk (λv=>c9 v w) o;simp only[J7,X6]at this;exact this
  have je:0<u:=by
   have q:=jk (c9 n) o;rw[u6,u6]at q;have c:0<c9 n (cr (b-a)<|O-b):=eO;have:=aBa U c;have hn:=A7 s.prim.ne;by_cases z:0<u
   .exact z
   .have:=aAV (show u<=0 by lia) (aAS hn);simp at this;lia
  have t2:i9 (b-a) (O-b) (P-b)<=0:=by
   have q:=r (P-b);have h0:c9 n (P-b)<=0:=by rw[d8];have:=s.sup P pP;lia
   have:=aBc h0 (aAS je);rw[aEj]at this;by_cases z:i9 (b-a) (O-b) (P-b)<=0
   .exact z
   .have:=aBa U (show 0<i9 (b-a) (O-b) (P-b)by lia);lia
  have e3:i9 (b-a) (O-b) (P-b)=i9 (a-b) (P-b) (O-b):=by simp[i9,c9];grind
  have t3:i9 (b-a) (O-b) (P-b)=0:=by lia
  have q0:=r (P-b);rw[t3,aEj]at q0;have onn:c9 n P=d:=by have:=(aAw.mp q0.symm).resolve_left (by lia);rw[d8]at this;lia
  obtain⟨Z',E,H⟩:=hs.below f.prim.ne f.sup;obtain⟨t,c⟩:=kK f.prim s.prim f.sup s.sup gb ga eP db da onn hP E H;exact aFu t c
end
def zD (k:j3 J)(l:m∈J)(o:∀X∈J,X=m\/f6 (X-m)):
  fR (b7 m (m+kk) J).1/\m∈w9 (b7 m (m+kk) J).1 (b7 m (m+kk) J).2 J/\∃a∈w9 (b7 m (m+kk) J).1 (b7 m (m+kk) J).2 J,m≠a:=by
 have C:ConeM (m+kk-m) (λw=>0<w.x\/(w.x=0/\0<w.y)):=by rw[G2];exact HN
 have p:m+kk-m≠0:=by rw[G2];intro e;have:=jk V.z e;simp[kk]at this
 have b:∀P∈J,(0<(P-m).x\/((P-m).x=0/\0<(P-m).y))\/cr (m+kk-m) (P-m)=0:=λP r=>by
  rw[G2];rcases o P r with e|e
  .right;subst e;rw[y8];apply ext<;>simp
  .unfold f6 at e;rcases e with e|⟨c,e|⟨s,H⟩⟩
   .exact .inl (.inl e)
   .exact .inl (.inr ⟨c,e⟩)
   .right;apply ext
    .simp[kk];simp at s;lia
    .simp[kk];simp at c;lia
    .simp[kk]
 have t:∃P∈J,0<(P-m).x\/((P-m).x=0/\0<(P-m).y):=by
  by_cases z:∃P∈J,0<(P-m).x\/((P-m).x=0/\0<(P-m).y)
  .exact z
  .exfalso;obtain⟨Z,f,e⟩:=k.off (n:=⟨1,0,0⟩) (d:=m.x) (λe=>by have:=jk V.x e;simp at this);have w:=(b Z f).resolve_left λq=>z ⟨Z,f,q⟩;rw[G2]at w;have:=jk V.y w;simp[kk]at this;simp[c9]at e
   lia
 obtain⟨a,g,u,h,I,L,v,A,B,N,E,O⟩:=P1 C p b t;refine⟨v,d7.mpr ⟨l,A.symm⟩,a,d7.mpr ⟨u,E⟩,λe=>?_⟩;subst e;rw[y8]at h;simp at h
section
variable{J:List V} (hs:j3 J) (ho:J.Pairwise (λa b=>f6 (b-a)))
include hs ho
theorem QI (c:IsFace J f.1 f.2)(d:IsFace J g.1 g.2)(l:(a,b)∈U7 (k8 J f))(m:(a,b)∈U7 (k8 J g)):f=g:=by
 have h:=(c.aa2 ho).aa1.mp l;have e:=(d.aa2 ho).aa1.mp m;obtain⟨n,k⟩:=lK hs ho c h;rcases KZ hs ho c d h (d7.mp e.p).2 (d7.mp e.q).2 with q|q
 .exact q.symm
 .exfalso;have:g=b7 b a J:=q;rw[<-this]at k;exact kQ hs ho d e k
theorem LG (h:l.Nodup):(U7 l).Nodup:=by
 have:((U7 l).map (·.1)).Nodup:=by
  unfold U7;rw[List.map_fst_zip]
  .exact h
  .simp;lia
 exact(aBv.mp this).imp λ{a b} h e=>h (by rw[e])
def JT (J:List V)(fs:List (V×Int)):List (V×V):=fs.flatMap λf=>U7 (k8 J f)
omit hs ho in
theorem RQ (fs:List (V×Int)):(JT J fs).length=(fs.map λf=>(k8 J f).length).sum:=by
 induction fs with
 |nil=>rfl
 |cons f fs a=>show(U7 (k8 J f)++JT J fs).length=_;rw[aAx,a,aAu,aDW];congr 1;unfold U7;simp;lia
theorem qW:∀{fs:List (V×Int)},fs.Nodup->(∀f∈fs,IsFace J f.1 f.2)->(JT J fs).Nodup
 |[],_,_=>aDh
 |f::fs,l,d=>by have h:=aAH.mp l;have k:=d f (.head _);show(U7 (k8 J f)++JT J fs).Nodup;rw[aCD];refine⟨LG hs ho ((k.aa2 ho).aa4),qW h.2 λg c=>d g (.tail _ c),λe m p n q=>?_⟩;subst q;obtain⟨g,c,o⟩:=aBA.mp n;exact h.1 (QI hs ho k (d g<|.tail _ c) (a:=e.1) (b:=e.2) m o▸c)
theorem bX {fs:List (V×Int)}(t:fs.Nodup)(m:∀f∈fs,IsFace J f.1 f.2):(fs.map λf=>(k8 J f).length).sum+J.length<=J.length*J.length:=by
 have d:J.Nodup:=ho.imp λ{a b} h e=>by subst e;exact K7 h
 have u:=qW hs ho t m;have v:(JT J fs++J.map λa=>(a,a)).Nodup:=by rw[aCD];refine⟨u,aBv.mpr (d.imp λ{a b} h e=>h (Prod.mk.inj e).1),λe c A w q=>?_⟩;subst q;obtain⟨g,n,k⟩:=aBA.mp c;obtain⟨a,_,rfl⟩:=aAp.mp w;exact(((m g n).aa2 ho).aa1.mp k).ne rfl
 have x:∀e∈JT J fs++J.map (λa=>(a,a)),e∈J.flatMap λa=>J.map λb=>(a,b):=λe c=>by
  rcases aAL.mp c with c|c
  .obtain⟨g,n,k⟩:=aBA.mp c;have k:(e.1,e.2)∈U7 (k8 J g):=k;have o:=((m g n).aa2 ho).aa1.mp k;exact aBA.mpr ⟨e.1,(d7.mp o.p).1,aAp.mpr ⟨e.2,(d7.mp o.q).1,rfl⟩⟩
  .obtain⟨a,r,rfl⟩:=aAp.mp c;exact aBA.mpr ⟨a,r,aAp.mpr ⟨a,r,rfl⟩⟩
 have s:=G0 v x;have y:(J.flatMap λa=>J.map λb=>(a,b)).length=J.length*J.length:=by
  have:∀l:List V,(l.flatMap λa=>J.map λb=>(a,b)).length=l.length*J.length:=λl=>by
   induction l with
   |nil=>simp
   |cons a l z=>rw[List.flatMap_cons,aAx,z,aAf,aAt,Nat.succ_mul];lia
  exact this J
 rw[aAx,RQ,aAf,y]at s;exact s
theorem fN {fs:List (V×Int)}(a:∀f∈fs,IsFace J f.1 f.2):3*fs.length<=(fs.map λf=>(k8 J f).length).sum:=by
 induction fs with
 |nil=>simp
 |cons f fs b=>
  have:=b λg c=>a g (.tail _ c);obtain⟨r,s,t,l,e⟩:=S8 ho (a f<|.head _);have d:(k8 J f).length=l.length+3:=by show(j8 f.1 (w9 f.1 f.2 J)).length=_;rw[e];simp
  rw[aAu,aDW,aAt,d]
  lia
end
theorem lV:∀(J:List V) (c b:V),(I0 a A J c b).2∈J\/(I0 a A J c b).2=b
 |[],c,b=>.inr rfl
 |P::d,c,b=>by
  unfold I0;split
  .rcases lV d (cr a (P-A)) P with h|h
   .exact .inl (.tail _ h)
   .exact .inl (by rw[h];exact .head _)
  .rcases lV d c b with h|h
   .exact .inl (.tail _ h)
   .exact .inr h
section
variable{J c:List V} (hs:j3 J) (ho:J.Pairwise (λa b=>f6 (b-a))) (bp:c.Pairwise (λa b=>f6 (b-a))) (hc:∀X,X∈c↔∃f:V×Int,IsFace J f.1 f.2/\X∈k8 J f)
include hs ho bp hc
theorem YH (h:X∈c):X∈J:=by obtain⟨f,a,b⟩:=(hc X).mp h;exact(d7.mp<|(a.aa2 ho).aa3 b).1
theorem jA (a:IsFace J n d)(h:X∈k8 J (n,d)):X∈w9 n d c:=by have b:=(d7.mp<|(a.aa2 ho).aa3 h).2;exact d7.mpr ⟨(hc X).mpr ⟨(n,d),a,h⟩,b⟩
theorem WR (h:X∈w9 n d c):X∈w9 n d J:=d7.mpr ⟨YH hs ho bp hc (d7.mp h).1,(d7.mp h).2⟩
theorem iL (a:IsFace J n d):IsFace c n d:=by
 have S:=a.aa2 ho;obtain⟨r,s,t,l,e⟩:=S8 ho a;have m:r∈j8 n (w9 n d J):=by rw[e];simp
 have o:s∈j8 n (w9 n d J):=by rw[e];simp
 have f:t∈j8 n (w9 n d J):=by rw[e];simp
 have b:=S.aa4;rw[e]at b;simp only[aAH,aAe,not_or]at b;have g:EdgeOf n (λX=>X∈w9 n d J) r s:=S.aa1.mp (by rw[e];simp[U7]);have st:=S.strict g f (λq=>b.1.2.1 q.symm) (λq=>b.2.1.1 q.symm);have k:=λ{X} (h:X∈j8 n (w9 n d J))=>jA hs ho bp hc a (X:=X) h;refine⟨a.prim,λX p=>a.sup X (YH hs ho bp hc p),r,(d7.mp<|k m).1,s,(d7.mp<|k o).1,t,(d7.mp<|k f).1,(d7.mp<|k m).2,(d7.mp<|k o).2,(d7.mp<|k f).2,λq=>?_⟩;unfold i9 at st;rw[q,L6]at st
 lia
theorem yF (e:IsFace J n d)(h:EdgeOf n (λX=>X∈w9 n d J) a b):EdgeOf n (λX=>X∈w9 n d c) a b:=by have S:=e.aa2 ho;have m:=xE S (S.aa1.mpr h);exact⟨jA hs ho bp hc e m.1,jA hs ho bp hc e m.2,h.ne,λX f=>h.left X (WR hs ho bp hc f),λX f=>h.btw X (WR hs ho bp hc f)⟩
omit hs ho bp hc in
theorem pH {R:V->Prop}{E:List (V×V)}(g:∀a b,R a->(a,b)∈E->R b):∀(x:V) (l:List V),R x->(∀e∈n9 (x::l),e∈E)->∀X∈x::l,R X
 |x,[],f,_,X,d=>by rw[aAT.mp d];exact f
 |x,y::l,f,h,X,d=>by
  have k:=g x y f (h (x,y) (by simp[n9]));rcases aAe.mp d with rfl|d
  .exact f
  .exact pH g y l k (λe m=>h e (by simp only[n9,aAe];exact .inr m)) X d
theorem DP (k:IsFace J n d)(h:X∈j8 n (w9 n d c)):X∈j8 n (w9 n d J):=by
 have S:=k.aa2 ho;have s:=(iL hs ho bp hc k).aa2 bp;obtain⟨m,r,e,v,w⟩:=s.aa7;obtain⟨g,L,t,x,y⟩:=S.aa7;have A:m=g:=by
  have B:g∈w9 n d c:=jA hs ho bp hc k (show g∈j8 n (w9 n d J)by rw[t];simp);rcases w g B with q|q
  .exact q.symm
  .rcases y m (WR hs ho bp hc v)with l|l
   .exact l
   .exact absurd (A4.add q l) (by
     have:(g-m)+(m-g)=0:=by apply ext<;>simp<;>lia
     rw[this];exactλz=>by simp[f6]at z)
 have step:∀a b,a∈j8 n (w9 n d J)->(a,b)∈U7 (j8 n<|w9 n d c)->b∈j8 n (w9 n d J):=λa b C o=>by obtain⟨N,u⟩:=cH S C;have H:=s.aa1.mp o;have I:=yF hs ho bp hc k (S.aa1.mp u);rw[H.next I];exact(xE S u).2
 rw[e]at h;refine pH (E:=U7 (j8 n<|w9 n d c)) (R:=λX=>X∈j8 n (w9 n d J)) step m r (by rw[A,t];simp) (λf p=>?_) X h;rw[e,S4];exact iZ r m m f p
theorem nA (f:IsFace J n d)(h:EdgeOf n (λX=>X∈w9 n d c) a b):EdgeOf n (λX=>X∈w9 n d J) a b:=by have S:=f.aa2 ho;have g:=(iL hs ho bp hc f).aa2 bp;have k:=DP hs ho bp hc f (g.ac3 h);obtain⟨m,l⟩:=cH S k;have e:=S.aa1.mp l;rw[h.next (yF hs ho bp hc f e)];exact e
theorem GL (p:IsFace J n d):j3 c:=by
 have S:=p.aa2 ho;obtain⟨r,s,t,l,e⟩:=S8 ho p;have N:r∈j8 n (w9 n d J):=by rw[e];simp
 have B:t∈j8 n (w9 n d J):=by rw[e];simp
 have x:=S.aa4;rw[e]at x;simp only[aAH,aAe,not_or]at x;have o:EdgeOf n (λX=>X∈w9 n d J) r s:=S.aa1.mp (by rw[e];simp[U7]);have st:=S.strict o B (λq=>x.1.2.1 q.symm) (λq=>x.2.1.1 q.symm);obtain⟨y,O⟩:=lK hs ho p o;generalize(b7 s r J).1=m at*
 generalize(b7 s r J).2=f at*
 have T:=y.aa2 ho;obtain⟨a,b,Q,l2,A⟩:=S8 ho y;have g:=T.aa4;rw[A]at g;simp only[aAH,aAe,not_or]at g;obtain⟨Y,C,y1,y2⟩:∃Y∈j8 m (w9 m f J),Y≠s/\Y≠r:=by
  have q1:a∈j8 m (w9 m f J):=by rw[A];simp
  have q2:b∈j8 m (w9 m f J):=by rw[A];simp
  have q3:Q∈j8 m (w9 m f J):=by rw[A];simp
  by_cases E:a≠s/\a≠r
  .exact⟨a,q1,E⟩
  .by_cases H:b≠s/\b≠r
   .exact⟨b,q2,H⟩
   .refine⟨Q,q3,λz=>?_,λz=>?_⟩
    .subst z;have I:a=r:=by
      by_cases h:a=r
      .exact h
      .exact absurd ⟨g.1.2.1,h⟩ E
     have L:b=r:=by
      by_cases h:b=r
      .exact h
      .exact absurd ⟨g.2.1.1,h⟩ H
     exact g.1.1 (I.trans L.symm)
    .subst z;have I:a=s:=by
      by_cases h:a=s
      .exact h
      .exact absurd ⟨h,g.1.2.1⟩ E
     have L:b=s:=by
      by_cases h:b=s
      .exact h
      .exact absurd ⟨h,g.2.1.1⟩ H
     exact g.1.1 (I.trans L.symm)
 have sY:=T.strict O C y1 y2;have lt:=QT hs y p O o (T.aa3 C) sY;have k:=λ{X} (h:X∈j8 n (w9 n d J))=>jA hs ho bp hc p (X:=X) h;have kY:=jA hs ho bp hc y C;have U:s∈j8 n (w9 n d J):=by rw[e];simp
 have dr:=(d7.mp<|k N).2;have dss:=(d7.mp<|k U).2;have dt:=(d7.mp<|k B).2;refine⟨r,(d7.mp<|k N).1,s,(d7.mp<|k U).1,t,(d7.mp<|k B).1,Y,(d7.mp kY).1,λz=>?_⟩;have p1:c9 n (s-r)=0:=by rw[d8];lia
 have p2:c9 n (t-r)=0:=by rw[d8];lia
 have pY:c9 n (Y-r)<0:=by rw[d8];lia
 have id:i9 (s-r) (t-r) (Y-r)*c9 n n=i9 n (s-r) (t-r)*c9 n (Y-r)+c9 n (s-r)*(c9 n (t-r)*0)+(c9 n (s-r)*i9 n (t-r) (Y-r)+c9 n (t-r)*i9 n (Y-r) (s-r)):=by generalize s-r=u;generalize t-r=v;generalize Y-r=w;have:=TF n n u v w;simp[i9,c9]at this⊢;grind
 rw[z,p1,p2]at id;have:i9 n (s-r) (t-r)*c9 n (Y-r)<0:=aBr st pY
 lia
theorem VT (fs:List (V×Int))(m:fs≠[])(e:∀f,f∈fs↔IsFace J f.1 f.2):IsFace c n d↔IsFace J n d:=by
 refine⟨λh=>?_,iL hs ho bp hc⟩;obtain⟨q,g⟩:=aFf fs m;have r:=GL hs ho bp hc ((e q).mp g);have:=uS r bp fs m (λf k=>iL hs ho bp hc ((e f).mp k)) (λf k a b l=>?_) h
 .exact(e _).mp this
 .have o:=(e f).mp k;obtain⟨p,s⟩:=lK hs ho o (nA hs ho bp hc o l);exact⟨b7 b a J,(e _).mpr p,yF hs ho bp hc p s⟩
theorem QR (b:X∈c):∃f:V×Int,IsFace c f.1 f.2/\X∈k8 c f:=by obtain⟨⟨n,d⟩,a,h⟩:=(hc X).mp b;have S:=a.aa2 ho;obtain⟨Q,e⟩:=cH S h;exact⟨(n,d),iL hs ho bp hc a,((iL hs ho bp hc a).aa2 bp).ac3 (yF hs ho bp hc a<|S.aa1.mp e)⟩
end
def ZU {Pos:V->Prop}(C:Cone Pos){n m p v q u:V}(g:n≠0)(t:c9 n p=0)(d:c9 n v=0)(f:c9 n q=0)(w:c9 n u=0)(H:Pos p)(k:Pos v)(l:Pos q)(I:Pos u)(J:0<c9 m p)(mv:c9 m v<0)(o:0<c9 m q)(mu:c9 m u<0)(A:0<=i9 n v p)(B:0<=i9 n q u):False:=by
 have id:∀{a b c:V},c9 n a=0->c9 n b=0->c9 n c=0->i9 n a b*c9 m c+i9 n b c*c9 m a+i9 n c a*c9 m b=0:=λ{a b c} L N O=>by have:=TF m n a b c;rw[A3 g L N O,Int.zero_mul]at this;exact this
 have Q:=id d t f;have T:=id f w d;rcases aDr 0 (i9 n q v)with h|h
 .
  have r:=C.tr l k H (A3 g f d t) h A;have s:i9 n p q=-i9 n q p:=l6 n q p;rw[s]at Q;have U:0<=i9 n v p*c9 m q:=aBG A (aAS o);have Y:0< -i9 n q p*c9 m v:=by have:=aBa r (show 0< -c9 m v by lia);grind
  have a3:0<i9 n q v*c9 m p:=aBa h J
  lia
 .rcases aDr (i9 n q v) 0 with h'|h'
  .have e0:i9 n v q=-i9 n q v:=l6 n q v;have E:0<i9 n v q:=by lia
   have r:=C.tr k l I (A3 g d f w) E B;have s:i9 n u v=-i9 n v u:=l6 n v u;rw[s]at T;have U:i9 n q u*c9 m v<=0:=by have:=aBG B (show 0<=-c9 m v by lia);grind
   have Y:-i9 n v u*c9 m q<0:=by have:=aBa r o;grind
   have a3:i9 n v q*c9 m u<0:=by have:=aBa E (show 0< -c9 m u by lia);grind
   lia
  .have z:i9 n q v=0:=by lia
   have c0:=Y9 g f d z;have e:c9 m q*v+(-c9 m v)*q=0:=by have hx:=jk V.x c0;have hy:=jk V.y c0;have hz:=jk V.z c0;simp at hx hy hz;apply ext<;>simp[c9]<;>grind
   have:=C.add (C.mul o k) (C.mul (show 0< -c9 m v by lia) l);rw[e]at this;exact C.irr this
section
variable{n:V} {ts:List V} (S:Sheet n ts)
include S
theorem Sheet.ad0 (h:X∈z7 n ts\/X∈z7 n ts.reverse):X∈j8 n ts:=by
 obtain⟨m,M,c,d,l,o,f,p,q,b,e,g,k,r,s⟩:=S.ends;unfold j8;rw[aAL,b,e,aAK,aAK,aBt,aBt,aCh,aCh];rw[b,e]at h;have a:m≠M:=λz=>by subst z;exact K7 f
 rcases h with h|h
 .rcases aAe.mp h with rfl|h
  .right;have:=aCR k;rcases aAe.mp this with z|z
   .exact absurd z.symm a
   .exact z
  .exact .inl h
 .rcases aAe.mp h with rfl|h
  .left;have:=aCR g;rcases aAe.mp this with z|z
   .exact absurd z a
   .exact z
  .exact .inr h
theorem Sheet.top (c:X∈ts)(h:∀Y∈ts,Y≠X->c9 m Y<c9 m X):X∈j8 n ts:=by
 obtain⟨t,n1,t1⟩:=S.ab0;obtain⟨w,n2,t2⟩:=S.ab1;have x:∀u,f6 u->f6 (-u)->False:=λu y A=>by have:=A4.add y A;have B:u+-u=0:=ext (by simp;lia) (by simp;lia) (by simp;lia);rw[B]at this;exact A4.irr this
 have C:∀u,P7 u->P7 (-u)->False:=λu y A=>by have:=bT.add y A;have B:u+-u=0:=ext (by simp;lia) (by simp;lia) (by simp;lia);rw[B]at this;exact bT.irr this
 rcases rA X (z7 n ts) (λY _=>T6 X Y) (λq E=>t1 X q E c) (λz H=>t.last X c z H) n1 x with I|⟨a,b,k,Q,T⟩
 .exact S.ad0 (.inl I)
 .rcases rA X (z7 n ts.reverse) (λY _=>by
    rcases T6 X Y with z|z|z
    .exact .inl z
    .exact .inr (.inr (t8.mpr z))
    .exact .inr (.inl (t8.mpr z))) (λq E=>t2 X q E c) (λz H=>w.last X c z H) n2 C with I|⟨l,s,d,J,jf⟩
  .exact S.ad0 (.inr I)
  .exfalso;have U:=N1 S k;have m2:=N1 S d;have L:=t.mem _ U.1;have N:=t.mem _ U.2;have f:=w.mem _ m2.1;have g:=w.mem _ m2.2;have E1:=(S.ad7 k L N).1.left X c;have E2:=(S.ae3 d f g).1.left X c;have o:=t8.mp J;have xp:=t8.mp jf;have ne:∀{Y},f6 (X-Y)->Y≠X:=λO z=>by subst z;exact K7 O
   have r:∀{Y},f6 (Y-X)->Y≠X:=λO z=>by subst z;exact K7 O
   have va:=h a L (ne Q);have vb:=h b N (r T);have va':=h l f (r o);have vb':=h s g (ne xp);refine ZU A4 (n:=n) (m:=m) (p:=X-a) (v:=b-X) (q:=X-s) (u:=l-X) S.nz (S.pl _ c _ L) (S.pl _ N _ c) (S.pl _ c _ g) (S.pl _ f _ c) Q T xp o (by rw[d8];lia) (by rw[d8];lia) (by rw[d8];lia) (by rw[d8];lia) ?_ ?_
   .have e:i9 n (b-a) (X-a)=i9 n (b-X) (X-a):=by simp[i9,c9];grind
    rw[<-e];exact E1
   .have e:i9 n (s-l) (X-l)=i9 n (X-s) (l-X):=by simp[i9,c9];grind
    rw[<-e];exact E2
end
section
variable{J:List V} (hs:j3 J)
include hs
theorem lL (a:IsFace J n d)(b:IsFace J m e)(g:c9 n X=d)(o:c9 m X=e)(h:cr m n=0):(n,d)=(m,e):=by
 obtain⟨k,l,c,f⟩:=B9 b.prim.ne h;obtain⟨Z,p,u⟩:=hs.below a.prim.ne a.sup;have r:0<l:=by
  have q:=jk (λv=>c9 v (Z-X)) f;rw[J7,J7]at q;have s:c9 n (Z-X)<0:=by rw[d8];lia
  have w:c9 m (Z-X)<=0:=by rw[d8];have:=b.sup Z p;lia
  have x:k*c9 n (Z-X)<0:=aBr c s;by_cases z:0<l
  .exact z
  .exfalso;have:0<=l*c9 m (Z-X):=by
    have:=aBG (show 0<=-l by lia) (show 0<=-c9 m (Z-X)by lia)
    rwa [aDq]at this
   lia
 have t:=oF a.prim b.prim c r f;subst t;rw[<-g,<-o]
theorem EU {a b c:Int}(p:IsFace J n d)(r:IsFace J m e)(s:IsFace J k f)(hX:c9 n X=d)(oo:c9 m X=e)(t:c9 k X=f)(hc:0<c)(u:0<a)(w:0<b)(h:c*k=a*n+b*m)(x:cr n m≠0):False:=by
 obtain⟨A,y,B,E,C,H,I,L,N,g⟩:=s.three;have l:∀Y∈J,c9 k Y=f->c9 n Y=d/\c9 m Y=e:=λY o hy=>by
  have h1:=p.sup Y o;have h2:=r.sup Y o;have q:=jk (λv=>c9 v (Y-X)) h;have q:c*c9 k (Y-X)=a*c9 n (Y-X)+b*c9 m (Y-X):=by
   have O:c9 (c*k) (Y-X)=c*c9 k (Y-X):=J7 ..;have Q:c9 (a*n+b*m) (Y-X)=a*c9 n (Y-X)+b*c9 m (Y-X):=by simp[c9];grind
   rw[<-O,<-Q];exact q
  have k0:c9 k (Y-X)=0:=by rw[d8];lia
  rw[k0,aEj]at q;have T:c9 n (Y-X)<=0:=by rw[d8];lia
  have U:c9 m (Y-X)<=0:=by rw[d8];lia
  have a0:a*c9 n (Y-X)<=0:=aDT (aAS u) T;have b0:b*c9 m (Y-X)<=0:=aDT (aAS w) U;have z1:a*c9 n (Y-X)=0:=by lia
  have z2:b*c9 m (Y-X)=0:=by lia
  have y1:c9 n (Y-X)=0:=by rcases aAw.mp z1 with z|z;lia;exact z
  have y2:c9 m (Y-X)=0:=by rcases aAw.mp z2 with z|z;lia;exact z
  rw[d8]at y1 y2;exact⟨by lia,by lia⟩
 obtain⟨a1,a2⟩:=l A y I;obtain⟨b1,b2⟩:=l B E L;obtain⟨c1,c2⟩:=l C H N;have p1:cr n (cr (B-A)<|C-A)=0:=M2 (by rw[d8];lia) (by rw[d8];lia);have p2:cr m (cr (B-A)<|C-A)=0:=M2 (by rw[d8];lia) (by rw[d8];lia);exact x (pE g p1 p2)
theorem lY (A:IsFace J n d)(B:IsFace J m e)(l:IsFace J k f)(E:c9 n X=d)(H:c9 m X=e)(I:c9 k X=f)(n12:(n,d)≠(m,e))(n13:(n,d)≠(k,f))(n23:(m,e)≠(k,f)):i9 n m k≠0:=λz=>by
 have L:cr n m≠0:=λq=>n12 (lL hs B A H E q).symm;have N:cr n k≠0:=λq=>n13 (lL hs l A I E q).symm;have O:cr m k≠0:=λq=>n23 (lL hs l B I H q).symm;have o:∀{u v:V},cr u v≠0->cr v u≠0:=λ{u v} h q=>h (by have Q:=jk V.x q;have g:=jk V.y q;have C:=jk V.z q;simp at Q g C;apply ext<;>simp<;>grind)
 obtain⟨w,ew⟩:∃w,w=cr n m:=⟨_,rfl⟩;have r:=CI w n m k;rw[z]at r;have T:0<i9 w n m:=by
  have:i9 w n m=c9 w w:=by rw[ew];rfl
  rw[this,ew];exact A7 L
 obtain⟨c,ec⟩:∃c,c=i9 w n m:=⟨_,rfl⟩;obtain⟨a,ea⟩:∃a,a=-i9 w m k:=⟨_,rfl⟩;obtain⟨b,eb⟩:∃b,b=-i9 w k n:=⟨_,rfl⟩;have Y:c*k=a*n+b*m:=by rw[ec,ea,eb];have Q:=jk V.x r;have g:=jk V.y r;have C:=jk V.z r;simp at Q g C;apply ext<;>simp<;>lia
 rw[<-ec]at T;have vx:=jk V.x Y;have vy:=jk V.y Y;have vz:=jk V.z Y;simp at vx vy vz;have p:∀{u v:V} {s t:Int},s≠0->s*u=t*v->cr u v=0:=λ{u v s t} ig h=>by
  have Q:=jk V.x h;have g:=jk V.y h;have C:=jk V.z h;simp at Q g C;have go:∀y:Int,s*y=0->y=0:=λy g=>by rcases aAw.mp g with q|q;exact absurd q ig;exact q
  apply ext<;>simp<;>apply go<;>grind
 rcases aDr 0 a with ha|ha
 .rcases aDr 0 b with U|U
  .exact EU hs A B l E H I T ha U Y L
  .rcases aDr b 0 with jf|jf
   .
    refine EU hs l B A I H E ha T (show 0< -b by lia) (c:=a) (a:=c) (b:=-b) ?_ (o O);apply ext<;>simp<;>lia
   .have b0:b=0:=by lia
    refine N (p (u:=n) (v:=k) (s:=a) (t:=c) (by lia) ?_);rw[b0]at vx vy vz;apply ext<;>simp<;>lia
 .rcases aDr a 0 with ha'|ha'
  .rcases aDr 0 b with U|U
   .refine EU hs l A B I E H U T (show 0< -a by lia) (c:=b) (a:=c) (b:=-a) ?_ (o N);apply ext<;>simp<;>lia
   .
    obtain⟨Z,hZ,C⟩:=hs.below l.prim.ne l.sup;have q:c*c9 k (Z-X)=a*c9 n (Z-X)+b*c9 m (Z-X):=by simp[c9];grind
    have k0:c9 k (Z-X)<0:=by rw[d8];lia
    have n0:c9 n (Z-X)<=0:=by rw[d8];have:=A.sup Z hZ;lia
    have m0:c9 m (Z-X)<=0:=by rw[d8];have:=B.sup Z hZ;lia
    have t1:c*c9 k (Z-X)<0:=aBr T k0;have t2:0<=a*c9 n (Z-X):=by
     have:=aBG (show 0<=-a by lia) (show 0<=-c9 n (Z-X)by lia)
     rwa [aDq]at this
    have t3:0<=b*c9 m (Z-X):=by
     have:=aBG (show 0<=-b by lia) (show 0<=-c9 m (Z-X)by lia)
     rwa [aDq]at this
    lia
  .have a0:a=0:=by lia
   by_cases b0:b=0
   .rw[a0,b0]at vx vy vz;have k0:k=0:=by
     have go:∀y:Int,c*y=0->y=0:=λy g=>by rcases aAw.mp g with q|q;lia;exact q
     apply ext<;>simp<;>apply go<;>lia
    exact l.prim.ne k0
   .refine O (p (u:=m) (v:=k) (s:=b) (t:=c) b0 ?_);rw[a0]at vx vy vz;apply ext<;>simp<;>lia
theorem DI (v:J.Pairwise (λa b=>f6 (b-a)))(w:X∈J)(c:IsFace J n d)(r:IsFace J m e)(s:IsFace J k f)(t:c9 n X=d)(x:c9 m X=e)(z:c9 k X=f)(g:(n,d)≠(m,e))(h:(n,d)≠(k,f))(l:(m,e)≠(k,f)):X∈k8 J (n,d):=by
 have o:=lY hs c r s t x z g h l;refine(c.aa2 v).top (m:=n+m+k) (d7.mpr ⟨w,t⟩) λY A B=>?_;have p:=(d7.mp A).1;have N:=c.sup Y p;have O:=r.sup Y p;have Q:=s.sup Y p;have u:∀Z,c9 (n+m+k) Z=c9 n Z+c9 m Z+c9 k Z:=λZ=>by simp[c9];grind
 rw[u,u];rcases aDr (c9 n Y+c9 m Y+c9 k Y) (c9 n X+c9 m X+c9 k X)with q|q
 .exact q
 .exfalso;have C:c9 n (Y-X)=0:=by rw[d8];lia
  have E:c9 m (Y-X)=0:=by rw[d8];lia
  have H:c9 k (Y-X)=0:=by rw[d8];lia
  refine B (W6 ?_);generalize Y-X=y at*
  have I:∀y:Int,i9 n m k*y=0->y=0:=λy L=>by rcases aAw.mp L with q|q;exact absurd q o;exact q
  simp[c9]at C E H;apply ext<;>simp<;>apply I<;>simp[i9,c9]<;>grind
end
def Up (J:List V)(A B C:V):Prop:=(∀X∈J,c9 (cr (B-A)<|C-A) (X-A)<=0)/\∃X∈J,c9 (cr (B-A)<|C-A) (X-A)<0
def Dn (J:List V)(A B C:V):Prop:=(∀X∈J,0<=c9 (cr (B-A)<|C-A) (X-A))/\∃X∈J,0<c9 (cr (B-A)<|C-A) (X-A)
def xU (A B C:V):cr (C-A) (B-A)=-cr (B-A) (C-A):=by apply ext<;>simp<;>grind
def BC {J:List V}{A B C:V}:Dn J A B C↔Up J A C B:=by
 have e:∀X:V,c9 (cr (C-A)<|B-A) X=-c9 (cr (B-A)<|C-A) X:=λX=>by rw[xU];simp[c9];grind
 constructor
 .rintro⟨h,X,a,l⟩;exact⟨λY b=>by have:=h Y b;rw[e];lia,X,a,by rw[e];lia⟩
 .rintro⟨h,X,a,l⟩;exact⟨λY b=>by have:=h Y b;rw[e]at this;lia,X,a,by rw[e]at l;lia⟩
def oN {J:List V}{A B C:V}(c:A∈J)(d:B∈J)(e:C∈J)(h:Up J A B C):IsFace J (d6 A B C).1 (d6 A B C).2:=by
 obtain⟨f,X,p,a⟩:=h;have ne:cr (B-A) (C-A)≠0:=λz=>by rw[z]at a;simp[c9]at a
 obtain⟨g,k,l,m,n⟩:=dW ne;have b:∀Y:V,c9 (cr (B-A)<|C-A) (Y-A)=g*(c9 (d6 A B C).1 Y-(d6 A B C).2):=λY=>by rw[n,l,J7,d8]
 have zero:∀Y:V,c9 (cr (B-A)<|C-A) (Y-A)=0->c9 (d6 A B C).1 Y=(d6 A B C).2:=λY h=>by rw[b]at h;rcases aAw.mp h with h|h<;>lia
 refine⟨m,λY o=>?_,A,c,B,d,C,e,zero A ?_,zero B ?_,zero C ?_,ne⟩
 .have:=f Y o;rw[b]at this;by_cases z:c9 (d6 A B C).1 Y<=(d6 A B C).2
  .exact z
  .have:=aBa k (show 0<c9 (d6 A B C).1 Y-(d6 A B C).2 by lia);lia
 .simp[c9]
 .simp[c9];grind
 .simp[c9];grind
def GU {J:List V}{n:V}{d:Int}(S:j3 J)(h:IsFace J n d){A B C:V}(hA:A∈J)(a:c9 n A=d)(b:c9 n B=d)(c:c9 n C=d)(m:0<c9 n (cr (B-A) (C-A))):Up J A B C/\d6 A B C=(n,d):=by
 have e:cr (B-A) (C-A)≠0:=λz=>by rw[z]at m;simp[c9]at m
 obtain⟨g,o,t,w,x⟩:=dW e;have p:cr n (cr (B-A)<|C-A)=0:=M2 (by rw[d8];lia) (by rw[d8];lia);obtain⟨k,l,u,r⟩:=B9 h.prim.ne p;have y:0<l:=by
  have q:=jk (c9 n) r;rw[u6,u6]at q;have:=aBa u m;have E:=A7 h.prim.ne;by_cases z:0<l
  .exact z
  .have:=aAV (show l<=0 by lia) (aAS E);simp at this;lia
 rw[t]at r;have H:(k*g)*(d6 A B C).1=l*n:=by rw[<-r];apply ext<;>simp<;>grind
 have s:=oF w h.prim (aBa u o) y H;have I:(d6 A B C).2=d:=by rw[x,s];exact a
 have v:∀Y:V,c9 (cr (B-A)<|C-A) (Y-A)=g*(c9 n Y-d):=λY=>by rw[<-a,t,s,J7,d8]
 refine⟨⟨λX f=>?_,?_⟩,aFu s I⟩
 .rw[v];have:=aBG (aAS o) (show 0<=d-c9 n X by have:=h.sup X f;lia);have L:g*(d-c9 n X)=-(g*(c9 n X-d)):=by grind
  lia
 .by_cases q:∃X∈J,c9 n X<d
  .obtain⟨X,f,l⟩:=q;refine⟨X,f,?_⟩;rw[v];have:=aBa o (show 0<d-c9 n X by lia);have L:g*(d-c9 n X)=-(g*(c9 n X-d)):=by grind
   lia
  .exfalso;have all:∀X∈J,c9 n X=d:=λX f=>by
    have:=h.sup X f;by_cases l:c9 n X<d
    .exact absurd ⟨X,f,l⟩ q
    .lia
   obtain⟨P,N,Q,O,R,U,T,hT,dz⟩:=S;have z:∀X∈J,c9 n (X-P)=0:=λX f=>by rw[d8,all X f,all P N];lia
   exact dz (A3 h.prim.ne (z Q O) (z R U)<|z T hT)
def FK {J:List V}{n:V}{d:Int}(S:j3 J)(h:IsFace J n d){A B C:V}(f:A∈J)(a:c9 n A=d)(b:c9 n B=d)(c:c9 n C=d)(e:cr (B-A) (C-A)≠0):(Up J A B C/\d6 A B C=(n,d))\/(Dn J A B C/\d6 A C B=(n,d)):=by
 by_cases z:0<c9 n (cr (B-A)<|C-A)
 .exact .inl (GU S h f a b c z)
 .have g:c9 n (cr (B-A)<|C-A)≠0:=λq=>e (Y9 h.prim.ne (by rw[d8];lia) (by rw[d8];lia) q);have t:c9 n (cr (C-A)<|B-A)=-c9 n (cr (B-A)<|C-A):=by rw[xU];simp[c9];grind
  have:=GU S h f a c b (by lia);exact .inr ⟨BC.mpr this.1,this.2⟩
def wz (J:List V)(A B C:V):Prop:=∃i j k:Nat,i<j/\j<k/\J[i]?=some A/\J[j]?=some B/\J[k]?=some C
def UW {J:List V}{A B C:V}(E:A∈J)(H:B∈J)(I:C∈J)(e:cr (B-A) (C-A)≠0):∃r s t,wz J r s t/\cr (s-r) (t-r)≠0/\∀p:V->Prop,p A->p B->p C->p r/\p s/\p t:=by
 obtain⟨i,g⟩:=aBX.mp E;obtain⟨j,f⟩:=aBX.mp H;obtain⟨k,d⟩:=aBX.mp I;have l:∀{v w:V},v≠0->(w=v\/w=-v)->w≠0:=λ{v w} u h z=>by
  rcases h with h|h
  .exact u (h▸z)
  .rw[h]at z;have L:=jk V.x z;have N:=jk V.y z;have O:=jk V.z z;simp only[YT,YS,YC,bG,aS,aW]at L N O;exact u (ext (by simp only[bG];lia) (by simp only[aS];lia) (by simp only[aW];lia))
 have Q:i≠j:=λq=>by
  subst q;rw[g]at f;injection f with f;subst f
  exact e (by apply ext<;>simp)
 have T:i≠k:=λq=>by
  subst q;rw[g]at d;injection d with d;subst d
  exact e (by apply ext<;>simp)
 have U:j≠k:=λq=>by
  subst q;rw[f]at d;injection d with d;subst d
  exact e (by apply ext<;>simp<;>grind)
 rcases aEY Q with m|m<;>rcases aEY T with n|n<;>rcases aEY U with o|o
 .exact⟨A,B,C,⟨i,j,k,m,o,g,f,d⟩,e,λp a b c=>⟨a,b,c⟩⟩
 .exact⟨A,C,B,⟨i,k,j,n,o,g,d,f⟩,l e (.inr (by apply ext<;>simp<;>grind)),λp a b c=>⟨a,c,b⟩⟩
 .omega
 .exact⟨C,A,B,⟨k,i,j,n,m,d,g,f⟩,l e (.inl (by apply ext<;>simp<;>grind)),λp a b c=>⟨c,a,b⟩⟩
 .exact⟨B,A,C,⟨j,i,k,m,n,f,g,d⟩,l e (.inr (by apply ext<;>simp<;>grind)),λp a b c=>⟨b,a,c⟩⟩
 .omega
 .exact⟨B,C,A,⟨j,k,i,o,n,f,d,g⟩,l e (.inl (by apply ext<;>simp<;>grind)),λp a b c=>⟨b,c,a⟩⟩
 .exact⟨C,B,A,⟨k,j,i,o,m,d,f,g⟩,l e (.inr (by apply ext<;>simp<;>grind)),λp a b c=>⟨c,b,a⟩⟩
def JE {J:List V}(S:j3 J){n:V}{d:Int}:IsFace J n d↔∃A B C,wz J A B C/\((Up J A B C/\d6 A B C=(n,d))\/(Dn J A B C/\d6 A C B=(n,d))):=by
 constructor
 .intro h;obtain⟨A,m,B,o,C,p,a,b,c,e⟩:=h.three;obtain⟨q,r,s,t,u,v⟩:=UW m o p e;obtain⟨w,x,y⟩:=v (λX=>c9 n X=d) a b c;obtain⟨i,j,k,_,_,f,g,l⟩:=id t;exact⟨q,r,s,t,FK S h (aAo f) w x y u⟩
 .rintro⟨A,B,C,⟨i,j,k,_,_,f,g,l⟩,h|h⟩
  .have:=oN (aAo f) (aAo g) (aAo l) h.1;rw[h.2]at this;exact this
  .have:=oN (aAo f) (aAo l) (aAo g) (BC.mp h.1);rw[h.2]at this;exact this
abbrev T3:=V×V×V
def VN (r:T3)(v:V):V:=⟨c9 r.1 v,c9 r.2.1 v,c9 r.2.2 v⟩
def tr (r:T3):T3:=(⟨r.1.x,r.2.1.x,r.2.2.x⟩,⟨r.1.y,r.2.1.y,r.2.2.y⟩,⟨r.1.z,r.2.1.z,r.2.2.z⟩)
def xz (f:V->V)(r:T3):T3:=(f r.1,f r.2.1,f r.2.2)
def xB (r:T3):Int:=c9 r.1 (cr r.2.1 r.2.2)
def a2o:T3:=(⟨1,0,0⟩,⟨0,1,0⟩,⟨0,0,1⟩)
def a3z (r:T3):tr (tr r)=r:=rfl
def XH (r c:T3):xB (xz (VN r) c)=xB r*xB c:=by obtain⟨⟨a,b,t⟩,⟨d,e,f⟩,⟨g,h,i⟩⟩:=r;obtain⟨⟨j,k,l⟩,⟨m,n,o⟩,⟨p,q,s⟩⟩:=c;simp[xB,xz,VN,c9];grind
def UT (r:T3)(u v:V):VN r (u-v)=VN r u-VN r v:=by apply ext<;>simp[VN,c9]<;>grind
abbrev Mv:=T3×V
def eG (m:Mv)(P:V):V:=VN m.1 P+m.2
def ZB:Mv:=(a2o,0)
def ZC (r:T3):Prop:=xB r=1\/xB r=-1
def rJ (m:Mv)(P Q:V):eG m P-eG m Q=VN m.1 (P-Q):=by rw[UT];apply ext<;>simp[eG]<;>lia
def QN (m:Mv)(A B C D:V):i9 (eG m B-eG m A) (eG m C-eG m A) (eG m D-eG m A)=xB m.1*i9 (B-A) (C-A) (D-A):=by rw[rJ,rJ,rJ];exact XH m.1 (B-A,C-A,D-A)
section
variable{J qts:List V} {m:Mv} {n:V} {d:Int}
end
section
def oI {u:V}(h:f6 u):¬f6 (-u):=λa=>by simp[f6]at h a;lia
end
section
variable{J qts:List V} {n:V} {d:Int}
def yI (t:Int)(v:V):V:=⟨t*v.x,t*v.y,t*v.z⟩
end
structure Sl where
 a:Int
 b:Int
 c:Int
 w:V
 t:Bool
def Sl.put (s:Sl)(P:V):V:=
 let x:=P.x+s.a*P.y
 let y:=P.y+s.b*P.z
 let z:=P.z+s.c*x
 if s.t then⟨y+s.w.x,x+s.w.y,z+s.w.z⟩else⟨x+s.w.x,y+s.w.y,z+s.w.z⟩
def Sl.mv (s:Sl):Mv:=
 let d:V:=⟨1,s.a,0⟩
 let e:V:=⟨0,1,s.b⟩
 let f:V:=⟨s.c,s.c*s.a,1⟩
 (if s.t then(e,d,f)else(d,e,f),s.w)
def Sl.ad9 (s:Sl)(P:V):s.put P=eG s.mv P:=by obtain⟨a,b,c,w,t⟩:=s;cases t<;>apply ext<;>simp[Sl.put,Sl.mv,eG,VN,c9]<;>grind
def Sl.unit (s:Sl):ZC s.mv.1:=by
 obtain⟨a,b,c,w,t⟩:=s;cases t
 .left;simp[Sl.mv,xB,c9,cr];try grind
 .right;simp[Sl.mv,xB,c9,cr];try grind
def RO {m:Mv}(h:ZC m.1){J a:List V}(b:∀X∈J,eG m X∈a)(S:j3 J):j3 a:=by
 obtain⟨A,c,B,d,C,f,D,g,e⟩:=S;refine⟨_,b A c,_,b B d,_,b C f,_,b D g,?_⟩;rw[QN];intro z;rcases aAw.mp z with z|z
 .rcases h with h|h<;>lia
 .exact e z
def JL {t:Int}(c:t≠0){J a:List V}(b:∀X∈J,yI t X∈a)(S:j3 J):j3 a:=by
 obtain⟨A,d,B,f,C,g,D,h,e⟩:=S;refine⟨_,b A d,_,b B f,_,b C g,_,b D h,?_⟩;have:i9 (yI t B-yI t A) (yI t C-yI t A) (yI t D-yI t A)=t*t*t*i9 (B-A) (C-A) (D-A):=by simp[yI,i9,c9,cr];grind
 rw[this];intro z;rcases aAw.mp z with z|z
 .rcases aAw.mp z with z|z
  .rcases aAw.mp z with z|z<;>exact c z
  .exact c z
 .exact e z
def zF (P:V){J:List V}(h:P∈J):j3 (J++[⟨P.x+1,P.y,P.z⟩,⟨P.x,P.y+1,P.z⟩,⟨P.x,P.y,P.z+1⟩]):=by
 refine⟨P,by simp[h],⟨P.x+1,P.y,P.z⟩,by simp,⟨P.x,P.y+1,P.z⟩,by simp,⟨P.x,P.y,P.z+1⟩,by simp,?_⟩;have:i9 ((⟨P.x+1,P.y,P.z⟩:V)-P) (⟨P.x,P.y+1,P.z⟩-P) (⟨P.x,P.y,P.z+1⟩-P)=1:=by simp[i9,c9,cr];try grind
 rw[this];decide
def rC {P:V}{J:List V}(h:P∈J):j3 J↔∃u∈J,∃v∈J,cr (u-P) (v-P)≠0/\∃w∈J,c9 (cr (u-P) (v-P)) (w-P)≠0:=by
 have f:∀u v w:V,i9 w u v=c9 (cr u v) w:=λu v w=>by simp[i9,c9,cr];grind
 have g:∀u v w:V,i9 w u v=i9 u v w:=λu v w=>by simp[i9,c9,cr];grind
 constructor
 .rintro⟨A,a,B,b,C,c,D,d,e⟩;have id:i9 (B-A) (C-A) (D-A)=i9 (B-P) (C-P) (D-P)-i9 (A-P) (C-P) (D-P)+i9 (A-P) (B-P) (D-P)-i9 (A-P) (B-P) (C-P):=by simp[i9,c9,cr];grind
  have mk:∀{X Y Z:V},X∈J->Y∈J->Z∈J->i9 (X-P) (Y-P) (Z-P)≠0->∃u∈J,∃v∈J,cr (u-P) (v-P)≠0/\∃w∈J,c9 (cr (u-P)<|v-P) (w-P)≠0:=λ{X Y Z} k l m q=>by rw[<-g,f]at q;exact⟨X,k,Y,l,λz=>q (by rw[z];simp[c9]),Z,m,q⟩
  by_cases n:i9 (B-P) (C-P) (D-P)=0
  .by_cases o:i9 (A-P) (C-P) (D-P)=0
   .by_cases p:i9 (A-P) (B-P) (D-P)=0
    .exact mk a b c (by lia)
    .exact mk a b d p
   .exact mk a c d o
  .exact mk b c d n
 .rintro⟨u,r,v,s,_,w,t,q⟩;exact⟨P,h,u,r,v,s,w,t,by rw[<-g,f];exact q⟩
def gU {n m k y:V}(a:i9 n m k≠0)(c:c9 n y=0)(d:c9 m y=0)(g:c9 k y=0):y=0:=by
 have h:∀t:Int,i9 n m k*t=0->t=0:=λt l=>by
  rcases aAw.mp l with q|q
  .exact absurd q a
  .exact q
 have e:∀f:V->Int,(f=(·.x)\/f=(·.y)\/f=(·.z))->i9 n m k*f y=c9 n y*f (cr m k)+c9 m y*f (cr k n)+c9 k y*f (cr n m):=λf b=>by rcases b with rfl|rfl|rfl<;>simp[i9,c9,cr]<;>grind
 have z:∀f:V->Int,(f=(·.x)\/f=(·.y)\/f=(·.z))->f y=0:=λf b=>h _ (by rw[e f b,c,d,g];simp);exact ext (z _<|.inl rfl) (z _<|.inr (.inl rfl)) (z _<|.inr (.inr rfl))
def WT {a b p q d:Int}(c:0<a)(f:0<b)(h:p<=d)(k:q<=d)(e:(a+b)*d=a*p+b*q):p=d:=by
 have l:=aBG (aAS c) (show 0<=d-p by lia);have m:=aBG (aAS f) (show 0<=d-q by lia);have n:a*(d-p)+b*(d-q)=0:=by
  have:a*(d-p)+b*(d-q)=(a+b)*d-(a*p+b*q):=by grind
  lia
 have g:a*(d-p)=0:=by
  clear e;generalize a*(d-p)=u at*
  generalize b*(d-q)=v at*
  lia
 rcases aAw.mp g with q|q<;>lia
section
variable{J:List V} (hs:j3 J) (ho:J.Pairwise (λa b=>f6 (b-a)))
include hs ho
theorem fP (f:IsFace J n d)(t:X∈k8 J (n,d))(u:P∈J)(v:Q∈J){a b:Int}(w:0<a)(x:0<b)(e:(a+b)*X=a*P+b*Q):P=X:=by
 obtain⟨B,C,k,l,y,z,A,o,p,r⟩:=dP hs ho f t;have g:∀{m:V} {c:Int},IsFace J m c->c9 m X=c->c9 m (P-X)=0:=λ{m c} h s=>by have q:=jk (c9 m) e;rw[u6,show c9 m (a*P+b*Q)=a*c9 m P+b*c9 m Q by simp[c9];grind,s]at q;rw[d8,s,WT w x (h.sup P u) (h.sup Q v) q];lia
 exact W6 (gU (lY hs f k l o p r y z A) (g f o) (g k p)<|g l r)
end
section
variable{J:List V} (hs:j3 J) (ho:J.Pairwise (λa b=>f6 (b-a)))
include hs ho
theorem UL {n m k X Y:V}{d e f:Int}(g:IsFace J n d)(h:IsFace J m e)(l:IsFace J k f)(u:c9 n X=d)(v:c9 m X=e)(w:c9 k X=f)(o:(n,d)≠(m,e))(p:(n,d)≠(k,f))(q:(m,e)≠(k,f))(r:Y∈J)(ne:Y≠X):c9 n Y<d\/c9 m Y<e\/c9 k Y<f:=by
 have t:=lY hs g h l u v w o p q;have a:=g.sup Y r;have b:=h.sup Y r;have c:=l.sup Y r;by_cases z:c9 n Y<d\/c9 m Y<e\/c9 k Y<f
 .exact z
 .have s:∀{n:V} {d:Int},c9 n X=d->c9 n Y=d->c9 n (Y-X)=0:=λ{n d} g h=>by
   have:c9 n (Y-X)=c9 n Y-c9 n X:=by simp[c9];grind
   lia
  have:=gU t (s u (by lia)) (s v (by lia)) (s w (by lia));exact absurd (by have g:=jk V.x this;have h:=jk V.y this;have l:=jk V.z this;simp at g h l;exact ext (by lia) (by lia) (by lia)) ne
end
section
theorem uZ {E:V->V->Prop}(g:∀a b c,E a b->E a c->b=c){z:V}:∀(l h:List V) (a:V),(∀e∈n9 (a::l++[z]),E e.1 e.2)->(∀e∈n9 (a::h++[z]),E e.1 e.2)->z∉l->z∉h->l=h
 |[],[],_,_,_,_,_=>rfl
 |[],b::r,a,d,f,_,k=>absurd (g a z b (d (a,z) (by simp[n9])) (f (a,b) (by simp[n9]))) (λe=>k (by rw[e];exact .head _))
 |b::r,[],a,d,f,m,_=>absurd (g a z b (f (a,z) (by simp[n9])) (d (a,b) (by simp[n9]))) (λe=>m (by rw[e];exact .head _))
 |b::r,o::p,a,d,f,m,k=>by have e:=g a b o (d (a,b) (by simp[n9])) (f (a,o) (by simp[n9]));subst e;rw[uZ g r p b (λe n=>d e (by simp only[aBb,n9];exact .tail _ n)) (λe n=>f e (by simp only[aBb,n9];exact .tail _ n)) (λq=>m (.tail _ q)) (λq=>k (.tail _ q))]
def PK {E:V->V->Prop}(f:∀a b c,E a b->E a c->b=c){a:V}{l d:List V}(g:(a::l).Nodup)(h:(a::d).Nodup)(e1:∀e∈U7 (a::l),E e.1 e.2)(e2:∀e∈U7 (a::d),E e.1 e.2):l=d:=by rw[S4]at e1 e2;exact uZ f l d a e1 e2 (aAH.mp g).1 (aAH.mp h).1
variable{J qts:List V} {n:V} {d:Int} {m:Mv}
end
def XE {w:V}(h:w≠0):∃a:V,a≠0/\c9 w a=0:=by
 rcases dR h with x|x|x
 .exact⟨⟨-w.y,w.x,0⟩,λe=>x (jk V.y e),by simp[c9];grind⟩
 .exact⟨⟨-w.y,w.x,0⟩,λe=>x (by have:=jk V.x e;simp at this;exact this),by simp[c9];grind⟩
 .exact⟨⟨-w.z,0,w.x⟩,λe=>x (by have:=jk V.x e;simp at this;exact this),by simp[c9];grind⟩
def SK {J:List V}{X w:V}(m:j3 J)(t:X∈J)(o:∀Y∈J,Y≠X->c9 w Y<c9 w X):∃n d,IsFace J n d/\c9 n X=d:=by
 have y:w≠0:=λz=>by obtain⟨Z,f,e⟩:=m.off (n:=⟨1,0,0⟩) (d:=X.x) (λe=>by have:=jk V.x e;simp at this);have:=o Z f λq=>e (by rw[q];simp[c9]);rw[z]at this;simp[c9]at this
 obtain⟨a,N,O⟩:=XE y;have C:ConeM (X+a-X) (λv=>c9 w v<0):=by rw[G2];exact jF O
 have Q:X+a-X≠0:=by rw[G2];exact N
 have T:∀P∈J,c9 w (P-X)<0\/cr (X+a-X) (P-X)=0:=λP l=>by
  by_cases e:P=X
  .right;subst e;rw[y8];apply ext<;>simp
  .have:=o P l e;exact .inl (by rw[d8];lia)
 obtain⟨Z,f,U⟩:=m.off (n:=w) (d:=c9 w X) y;have hx:∃P∈J,c9 w (P-X)<0:=⟨Z,f,by have:=o Z f λq=>U (by rw[q]);rw[d8];lia⟩
 obtain⟨b,g,A,B,g0,ge,E,H,c,sB,sO,sP⟩:=P1 C Q T hx;generalize b7 X (X+a) J=u at*
 obtain⟨n,d⟩:=u;dsimp only at*
 by_cases z:∃Y∈J,c9 n Y=d/\cr (b-X) (Y-X)≠0
 .obtain⟨Y,hY,y1,y2⟩:=z;exact⟨n,d,⟨E,c,X,t,b,A,Y,hY,H.symm,sO,y1,y2⟩,H.symm⟩
 .have na:c9 n (b-X)=0:=by rw[d8];lia
  have I:=jF na;have L:b-X≠0:=λq=>by rw[q]at B;simp[c9]at B
  obtain⟨Z,f,hz⟩:=m.below E.ne c;obtain⟨h,g2,p1,p2,p0,pe,pp,pd,k,p,s,sP2⟩:=P1 I L (J:=J) (λP l=>by
   have:=c P l;by_cases q:c9 n P<d
   .exact .inl (by rw[d8];lia)
   .exact .inr (aDF λr=>z ⟨P,l,by lia,r⟩)) ⟨Z,f,by rw[d8];lia⟩
  exact⟨_,_,⟨pp,k,X,t,b,A,h,p1,pd.symm,p,s,I.ad2 L p2⟩,pd.symm⟩
def QJ {J:List V}{X w:V}(k:j3 J)(l:J.Pairwise (λa b=>f6 (b-a)))(c:X∈J)(g:∀Y∈J,Y≠X->c9 w Y<c9 w X):∃f:V×Int,IsFace J f.1 f.2/\X∈k8 J f:=by obtain⟨n,d,h,e⟩:=SK k c g;exact⟨(n,d),h,(h.aa2 l).top (m:=w) (d7.mpr ⟨c,e⟩) λY o ne=>g Y (d7.mp o).1 ne⟩
def zS {c d:List V}(n:j3 c)(o:c.Pairwise (λa b=>f6 (b-a)))(s:∀X∈c,∃f:V×Int,IsFace c f.1 f.2/\X∈k8 c f)(sub:∀X∈d,X∈c)(t:j3 d)(u:d.Pairwise (λa b=>f6 (b-a))){X:V}(p:X∈d):∃f:V×Int,IsFace d f.1 f.2/\X∈k8 d f:=by
 obtain⟨f,k,v⟩:=s X (sub X p);obtain⟨l,m,q,r,x,y,z,A,B,C⟩:=dP n o k v;refine QJ (w:=f.1+l.1+m.1) t u p λY g ne=>?_;have a:=k.sup Y (sub Y g);have b:=q.sup Y (sub Y g);have e:=r.sup Y (sub Y g);have h:=UL n o k q r A B C x y z (sub Y g) ne;have ad:∀Z:V,c9 (f.1+l.1+m.1) Z=c9 f.1 Z+c9 l.1 Z+c9 m.1 Z:=λZ=>by simp[c9];grind
 rw[ad,ad]
 lia
section
variable{p o:List V} (hs:j3 o) (ho:o.Pairwise (λa b=>f6 (b-a))) (sub:∀X∈p,X∈o) (ex:∀Y∈o,Y∈p\/∃a∈p,∃b∈p,(2:Int)*Y=a+b)
include hs ho sub ex
theorem tZ {n:V}{d:Int}(c:IsFace o n d){X:V}(f:X∈k8 o (n,d)):X∈p:=by
 rcases ex X (d7.mp<|(c.aa2 ho).aa3 f).1 with h|⟨a,g,b,k,e⟩
 .exact h
 .have:=fP hs ho c f (sub a g) (sub b k) (a:=1) (b:=1) (by decide) (by decide) (by have x:=jk V.x e;have y:=jk V.y e;have z:=jk V.z e;simp at x y z;apply ext<;>simp<;>lia)
  rw[<-this];exact g
theorem KR {n:V}{d:Int}:IsFace o n d↔IsFace p n d:=by
 constructor
 .intro c;have S:=c.aa2 ho;obtain⟨r,s,t,l,e⟩:=S8 ho c;have v:r∈j8 n (w9 n d o):=by rw[e];simp
  have w:s∈j8 n (w9 n d o):=by rw[e];simp
  have g:t∈j8 n (w9 n d o):=by rw[e];simp
  have f:=S.aa4;rw[e]at f;simp only[aAH,aAe,not_or]at f;have m:EdgeOf n (λX=>X∈w9 n d o) r s:=S.aa1.mp (by rw[e];simp[U7]);have st:=S.strict m g (λq=>f.1.2.1 q.symm) (λq=>f.2.1.1 q.symm);have k:=λ{X} (h:X∈j8 n (w9 n d o))=>tZ hs ho sub ex c (X:=X) h;refine⟨c.prim,λX x=>c.sup X (sub X x),r,k v,s,k w,t,k g,(d7.mp<|S.aa3 v).2,(d7.mp<|S.aa3 w).2,(d7.mp<|S.aa3 g).2,λq=>?_⟩;unfold i9 at st;rw[q,L6]at st
  lia
 .rintro⟨y,u,A,z,B,E,C,H,r⟩;refine⟨y,λY I=>?_,A,sub A z,B,sub B E,C,sub C H,r⟩;rcases ex Y I with h|⟨a,J,b,L,e⟩
  .exact u Y h
  .have q:=jk (c9 n) e;rw[u6,aJ]at q;have:=u a J;have:=u b L
   lia
end
section
variable{J c:List V} (hs:j3 J) (ho:J.Pairwise (λa b=>f6 (b-a))) (bp:c.Pairwise (λa b=>f6 (b-a))) (hc:∀X,X∈c↔∃f:V×Int,IsFace J f.1 f.2/\X∈k8 J f)
include hs ho bp hc
theorem qx {n:V}{d:Int}(f:IsFace J n d):k8 c (n,d)=k8 J (n,d):=by
 have S:=f.aa2 ho;have g:=(iL hs ho bp hc f).aa2 bp;obtain⟨m,r,e,C,w⟩:=S.aa7;obtain⟨p,H,y,h,l⟩:=g.aa7;have k:=jA hs ho bp hc f (X:=m) (show m∈j8 n (w9 n d J)by rw[e];exact .head _);have em:p=m:=by
  rcases w p (WR hs ho bp hc h)with q|q
  .exact q
  .rcases l m k with z|z
   .exact z.symm
   .exact(oI q (by rw[q9];exact z)).elim
 subst em;have s:=S.aa4;have t:=g.aa4;have u:∀x∈U7 (j8 n<|w9 n d J),EdgeOf n (λX=>X∈w9 n d J) x.1 x.2:=λx o=>S.aa1.mp o;have v:∀x∈U7 (j8 n<|w9 n d c),EdgeOf n (λX=>X∈w9 n d J) x.1 x.2:=λx o=>nA hs ho bp hc f (g.aa1.mp o);show j8 n (w9 n d c)=j8 n (w9 n d J);rw[e]at s u⊢;rw[y]at t v⊢;rw[PK (E:=EdgeOf n (λX=>X∈w9 n d J)) (λa b c A B=>A.next B) s t u v]
end
end G
namespace ST
open PySem PySem.SetTable
def KQ (xs:Array Nat):Prop:=∀(i k:Nat) (a:i<xs.size) (b:k<xs.size),i<k->xs[i]<xs[k]
theorem xM (xs:Array Nat)(j:Nat)(c:KQ xs):∀(a lo b:Nat),lo<=b->b<=xs.size->b-lo<=a->(∀i (h:i<xs.size),i<lo->xs[i]<j)->(∀i (h:i<xs.size),b<=i->j<=xs[i])->
  below.go xs j a lo b<=xs.size/\(∀i (h:i<xs.size),i<below.go xs j a lo b->xs[i]<j)/\(∀i (h:i<xs.size),below.go xs j a lo b<=i->j<=xs[i])
 |0,lo,b,n,d,o,f,g=>by
  have:lo=b:=by lia
  subst this;unfold below.go;exact⟨d,f,g⟩
 |a+1,lo,b,n,d,o,f,g=>by
  unfold below.go;by_cases m:lo<b
  .rw[i6 m];have l:(lo+b)/2<xs.size:=by lia
   have e:xs.getD ((lo+b)/2) j=xs[(lo+b)/2]:=by simp[aFl,l]
   dsimp only;rw[e];by_cases k:xs[(lo+b)/2]<j
   .rw[i6 k];refine xM xs j c a _ _ (by lia) d (by lia) (λi h p=>?_) g;by_cases q:i=(lo+b)/2
    .subst q;exact k
    .exact aGE (c i _ h l (by lia)) k
   .rw[ja k];refine xM xs j c a _ _ (by lia) (by lia) (by lia) f (λi h p=>?_);by_cases q:i=(lo+b)/2
    .subst q;lia
    .have:=c _ i l h (by lia);lia
  .rw[ja m];have:lo=b:=by lia
   subst this;exact⟨d,f,g⟩
def cN (a:KQ xs)(j:Nat):below xs j<=xs.size/\(∀i (h:i<xs.size),i<below xs j->xs[i]<j)/\(∀i (h:i<xs.size),below xs j<=i->j<=xs[i]):=
 xM xs j a xs.size 0 xs.size (aBk _) (aAj _) (by lia) (λi h b=>by lia) (λi h b=>by lia)
def MJ (a:KQ xs)(h:xs[i]?=some j):below xs j=i:=by
 obtain⟨b,e⟩:=aCk.mp h;obtain⟨g,d,f⟩:=cN a j;rcases Nat.lt_trichotomy (below xs j) i with q|q|q
 .have c:below xs j<xs.size:=by lia
  have k:=f _ c (aAj _);have l:=a _ _ c b q
  lia
 .exact q
 .have:=d i b q;lia
structure Tab (t:SetTable):Prop where
 asc:KQ t.place
 le:∀j∈t.place.toList,j<=t.mask
 nod:t.dummies=#[]
def N3 (T:Tab t)(h:t.place[i]?=some j):t.slot j=.live i:=by unfold slot;rw[MJ T.asc h];dsimp only;rw[h];simp
def EI (T:Tab t)(h:j∉t.place.toList):t.slot j=.empty:=by
 unfold slot;have a:¬(t.place[below t.place j]?==some j)=true:=λz=>h (by have:=beq_iff_eq.mp z;obtain⟨b,e⟩:=aCk.mp this;rw[<-e];simp)
 dsimp only;rw[ja a,T.nod];rw[ja (by unfold has;simp)]
def DB (T:Tab t)(j:Nat):(t.slot j=.empty/\j∉t.place.toList)\/∃i,t.slot j=.live i/\t.place[i]?=some j:=by
 by_cases h:j∈t.place.toList
 .obtain⟨i,a,e⟩:=aBj h;have:t.place[i]?=some j:=by rw[<-aAD,aAd a,e]
  exact .inr ⟨i,N3 T this,this⟩
 .exact .inl ⟨EI T h,h⟩
def TL (mask:Nat)(p:Probe):Probe:=if p.more>0 then{p with j:=p.j+1,more:=p.more-1}else{p with j:=(leap mask p.i p.perturb).1,more:=runEnd mask (leap mask p.i p.perturb).1-(leap mask p.i p.perturb).1,i:=(leap mask p.i p.perturb).1,perturb:=(leap mask p.i p.perturb).2}
def qP (t:eY)(p:Probe):t.advance p=TL t.mask p:=rfl
def start (mask:Nat)(h:Int):Probe:={j:=bits h%(mask+1),more:=runEnd mask (bits h%(mask+1))-bits h%(mask+1),i:=bits h%(mask+1),perturb:=bits h,dummy:=none}
def o8 (mask:Nat)(h:Int):Nat->Probe
 |0=>start mask h
 |n+1=>TL mask (o8 mask h n)
theorem rT (mask:Nat)(h:Int):∀n,(o8 mask h n).dummy=none
 |0=>rfl
 |n+1=>by have:=rT mask h n;show(TL mask _).dummy=none;unfold TL;split<;>exact this
def E9 (mask:Nat)(h:Int):Nat->Nat×Nat
 |0=>(bits h%(mask+1),bits h)
 |k+1=>leap mask (E9 mask h k).1 (E9 mask h k).2
def len (mask i:Nat):Nat:=runEnd mask i-i
def fq (mask i:Nat):len mask i<=9:=by unfold len runEnd;split<;>lia
def off (mask:Nat)(h:Int):Nat->Nat
 |0=>0
 |k+1=>off mask h k+len mask (E9 mask h k).1+1
theorem MW (mask:Nat)(h:Int):∀k,off mask h k<=10*k
 |0=>aAj _
 |k+1=>by have:=MW mask h k;have:=fq mask (E9 mask h k).1;show off mask h k+_+1<=_;lia
theorem Z4 (mask:Nat)(h:Int):∀k r,r<=len mask (E9 mask h k).1->
  o8 mask h (off mask h k+r)={j:=(E9 mask h k).1+r,more:=len mask (E9 mask h k).1-r,i:=(E9 mask h k).1,perturb:=(E9 mask h k).2,dummy:=none}
 |0,0,_=>rfl
 |0,r+1,b=>by
  have a:=Z4 mask h 0 r (by lia);have e:off mask h 0+(r+1)=(off mask h 0+r)+1:=by lia
  rw[e,o8,a];unfold TL;rw[i6 (show len mask (E9 mask h 0).1-r>0 by lia)];simp
  lia
 |k+1,0,_=>by have a:=Z4 mask h k (len mask (E9 mask h k).1) (aAj _);have e:off mask h (k+1)+0=(off mask h k+len mask (E9 mask h k).1)+1:=rfl;rw[e,o8,a];unfold TL;rw[ja (by simp)];simp[E9,len]
 |k+1,r+1,b=>by
  have a:=Z4 mask h (k+1) r (by lia);have e:off mask h (k+1)+(r+1)=(off mask h (k+1)+r)+1:=by lia
  rw[e,o8,a];unfold TL;rw[i6 (show len mask (E9 mask h<|k+1).1-r>0 by lia)];simp
  lia
def OC (mask:Nat)(h:Int)(k:Nat):(o8 mask h (off mask h k)).j=(E9 mask h k).1:=by have:=Z4 mask h k 0 (aBk _);rw[Nat.add_zero]at this;rw[this];rfl
theorem kS (mask:Nat)(h:Int):∀k,(E9 mask h k).2<2^64/32^k+1
 |0=>by
  show bits h<_;unfold bits;have:=Int.emod_lt_of_pos h (show(0:Int)<2^64 by decide)
  lia
 |k+1=>by
  have a:=kS mask h k;show(E9 mask h k).2/32<_;have e:∀N,N/32^(k+1)=N/32^k/32:=λN=>by rw[Nat.div_div_eq_div_mul];rfl
  rw[e]
  lia
theorem uH (mask:Nat)(h:Int):∀k,(E9 mask h (13+k)).2=0
 |0=>by have:=kS mask h 13;simp at this;exact this
 |k+1=>by have:=uH mask h k;show(E9 mask h<|13+k).2/32=0;rw[this]
def lcg (m:Nat)(i:Nat):Nat:=(i*5+1)%m
def iter (m:Nat):Nat->Nat->Nat
 |0,i=>i
 |n+1,i=>lcg m (iter m n i)
theorem rG (mask:Nat)(h:Int):∀k,(E9 mask h (13+k)).1=iter (mask+1) k (E9 mask h 13).1
 |0=>rfl
 |k+1=>by have a:=rG mask h k;show((E9 mask h<|13+k).1*5+1+(E9 mask h<|13+k).2/32)%(mask+1)=_;rw[uH,a];rfl
theorem jW (m:Nat):∀a b i,iter m (a+b) i=iter m a (iter m b i)
 |0,b,i=>by rw[aDO];rfl
 |a+1,b,i=>by rw[show a+1+b=(a+b)+1 by lia];show lcg m _=lcg m _;rw[jW m a b i]
def nQ (m:Nat):Prop:=iter m m 0=0/\∀j<m,∃n<m,iter m n 0=j
def vO (F:nQ m)(e:i<m)(f:j<m):∃n<m,iter m n i=j:=by
 obtain⟨a,g,c⟩:=F.2 i e;obtain⟨b,k,d⟩:=F.2 j f;by_cases h:a<=b
 .exact⟨b-a,by lia,by rw[<-c,<-jW,show b-a+a=b by lia,d]⟩
 .refine⟨b+(m-a),by lia,?_⟩;rw[<-c,<-jW,show b+(m-a)+a=b+m by lia,jW,F.1,d]
instance(m:Nat):Decidable (nQ m):=inferInstanceAs (Decidable<|_/\_)
def a1b:nQ 8:=by decide+kernel
def pz:nQ 32:=by decide+kernel
def WA:nQ 128:=by decide+kernel
theorem HS (mask:Nat)(h:Int):∀k,(E9 mask h k).1<mask+1
 |0=>aDP _ (by lia)
 |k+1=>aDP _ (by lia)
def CG {mask:Nat}(F:nQ (mask+1))(h:Int){j:Nat}(a:j<=mask):∃n,n<=10*(mask+14)/\(o8 mask h n).j=j:=by
 obtain⟨k,b,e⟩:=vO F (HS mask h 13) (show j<mask+1 by lia);refine⟨off mask h (13+k),?_,?_⟩
 .have:=MW mask h (13+k);lia
 .rw[OC,rG,e]
def wP {α β:Type}{l:List α}{m:List β}{p:Nat}{a:α×β}(h:a∈(l.take p).zip (m.take p)):a∈l.zip m:=by
 obtain⟨i,b⟩:=aBX.mp h;rw[aBH]at b;refine aAo (i:=i) ?_;rw[aBH];have q:∀{γ:Type} {l:List γ} {c:γ},(l.take p)[i]?=some c->l[i]?=some c:=λ{γ l c} h=>by
  rw[List.getElem?_take]at h;split at h
  .exact h
  .cases h
 exact⟨q b.1,q b.2⟩
def xC {α β:Type}{l:List α}{m:List β}{p:Nat}{a:α×β}(h:a∈(l.drop p).zip (m.drop p)):a∈l.zip m:=by obtain⟨i,b⟩:=aBX.mp h;rw[aBH,List.getElem?_drop,List.getElem?_drop]at b;refine aAo (i:=p+i) ?_;rw[aBH];exact b
theorem IK (mask:Nat)(h:Int):∀n,(o8 mask h n).j+(o8 mask h n).more<=mask
 |0=>by have:=aDP (bits h) (show 0<mask+1 by lia);show bits h%(mask+1)+(runEnd mask (bits h%(mask+1))-bits h%(mask+1))<=mask;unfold runEnd;split<;>lia
 |n+1=>by
  have a:=IK mask h n;show(TL mask<|o8 mask h n).j+(TL mask<|o8 mask h n).more<=mask;unfold TL;split
  .dsimp only;lia
  .dsimp only;have:(leap mask (o8 mask h n).i (o8 mask h n).perturb).1<mask+1:=aDP _ (by lia);unfold runEnd;split<;>lia
def wD (mask:Nat)(h:Int)(n:Nat):(o8 mask h n).j<=mask:=by have:=IK mask h n;lia
theorem T5 {α:Type}[DecidableEq α]:∀{l m:List α},l.Nodup->(∀x∈l,x∈m)->l.length<=m.length
 |[],_,_,_=>aBk _
 |x::l,m,h,a=>by
  have b:=a x (by simp);have c:=aAH.mp h;have:=T5 (l:=l) (m:=m.erase x) c.2 (λy d=>by
   have ne:y≠x:=λe=>by subst e;exact c.1 d
   exact(aFU ne).mpr (a y<|aAg _ d))
  rw[aFk b]at this;have:0<m.length:=aEd b;simp only[aAt]
  lia
def KH {t:eY}(h:t.place.size<=t.mask):∃j≤t.mask,j∉t.place.toList:=by
 by_cases z:∃j≤t.mask,j∉t.place.toList
 .exact z
 .exfalso;have:=T5 (l:=aAQ (t.mask+1)) (m:=t.place.toList) aFB (λj a=>by
   by_cases q:j∈t.place.toList
   .exact q
   .exact absurd ⟨j,by have:=aBP.mp a;lia,q⟩ z)
  simp at this
  lia
theorem least {P:Nat->Prop}[DecidablePred P]:∀n,P n->∃m≤n,P m/\∀k<m,¬P k
 |0,h=>⟨0,aAj _,h,λk b=>by lia⟩
 |n+1,h=>by
  by_cases z:∃k≤n,P k
  .obtain⟨k,b,a⟩:=z;obtain⟨m,e,c,d⟩:=least k a;exact⟨m,by lia,c,d⟩
  .exact⟨n+1,aAj _,h,λk b a=>z ⟨k,by lia,a⟩⟩
termination_by n=>n
def Y3 (t:eY)(h:Int)(n0:Nat):Prop:=n0<=10*(t.mask+14)/\(o8 t.mask h n0).j∉t.place.toList/\∀m<n0,(o8 t.mask h m).j∈t.place.toList
def ED {t:eY}(F:nQ (t.mask+1))(a:t.place.size<=t.mask)(h:Int):∃n0,Y3 t h n0:=by obtain⟨j,b,c⟩:=KH a;obtain⟨n,l,d⟩:=CG F h b;obtain⟨m,o,e,f⟩:=least (P:=λn=>(o8 t.mask h n).j∉t.place.toList) n (by rw[d];exact c);exact⟨m,by lia,e,λk g=>by have:=f k g;simpa using this⟩
theorem yX (T:Tab t)(hashAt:Nat->Int)(h:Int)(k:Y3 t h n0):∀(c n:Nat),n<=n0->n0-n<c->
  ∃d,n<=d/\d<=n0/\(∀m,n<=m->m<d->∃i,t.place[i]?=some (o8 t.mask h m).j/\hashAt i≠h)/\
   ((d=n0/\probe.go t hashAt h c (o8 t.mask h n)=some (.empty (o8 t.mask h n0).j none))\/
    (d<n0/\∃i,t.place[i]?=some (o8 t.mask h d).j/\hashAt i=h/\probe.go t hashAt h c (o8 t.mask h n)=some (.candidate (o8 t.mask h d).j i (o8 t.mask h (d+1)))))
 |0,n,_,l=>by lia
 |c+1,n,v,l=>by
  unfold probe.go;rcases DB T (o8 t.mask h n).j with⟨e,o⟩|⟨i,e,f⟩
  .have:n=n0:=by
     by_cases q:n<n0
     .exact absurd (k.2.2 n q) o
     .lia
   subst this;refine⟨n,aAj _,aAj _,λm a b=>by lia,.inl ⟨rfl,?_⟩⟩;rw[e];dsimp only;rw[rT]
  .have w:n≠n0:=λq=>by subst q;refine k.2.1 ?_;rw[<-aAD]at f;exact aAo f
   rw[e];dsimp only;by_cases g:hashAt i=h
   . refine⟨n,aAj _,by lia,λm a b=>by lia,.inr ⟨by lia,i,f,g,?_⟩⟩
     rw[i6 (by simpa using g),qP];rfl
   . rw[ja (by simpa using g),qP]
     obtain⟨d,x,p,r,s⟩:=yX T hashAt h k c (n+1) (by lia) (by lia);refine⟨d,by lia,p,λm y u=>?_,s⟩;by_cases q:m=n
     .subst q;exact⟨i,f,g⟩
     .exact r m (by lia) u
def ON (T:Tab t)(hashAt:Nat->Int)(h:Int)(b:Y3 t h n0)(n:Nat)(c:n<=n0):
  ∃a,n<=a/\a<=n0/\(∀m,n<=m->m<a->∃i,t.place[i]?=some (o8 t.mask h m).j/\hashAt i≠h)/\
   ((a=n0/\t.probe hashAt h (o8 t.mask h n)=some (.empty (o8 t.mask h n0).j none))\/
    (a<n0/\∃i,t.place[i]?=some (o8 t.mask h a).j/\hashAt i=h/\t.probe hashAt h (o8 t.mask h n)=some (.candidate (o8 t.mask h a).j i (o8 t.mask h (a+1))))):=
 yX T hashAt h b _ n c (by have:=b.1;unfold turns;lia)
def Reach (mask:Nat)(a:Nat->Prop)(h:Int)(j:Nat):Prop:=∃n,(o8 mask h n).j=j/\∀m<n,a (o8 mask h m).j
def Reach.mono {mask:Nat}{o a:Nat->Prop}{h:Int}{j:Nat}(r:Reach mask o h j)(i:∀k,o k->a k):Reach mask a h j:=by obtain⟨n,e,q⟩:=r;exact⟨n,e,λm b=>i _ (q m b)⟩
def Reach.before (a:Y3 t h n0)(b:j∈t.place.toList)(r:Reach t.mask (λk=>k∈t.place.toList) h j):∃n<n0,(o8 t.mask h n).j=j:=by
 obtain⟨n,e,q⟩:=r;refine⟨n,?_,e⟩;by_cases z:n<n0
 .exact z
 .exfalso;by_cases y:n=n0
  .subst y;exact a.2.1 (by rw[e];exact b)
  .exact a.2.1 (q n0 (by lia))
def gP {α:Type}(xs:Array α)(p:Nat)(x:α):(insertAt xs p x).toList=xs.toList.take p++x::xs.toList.drop p:=by
 unfold insertAt;simp[Array.toList_extract,List.extract_eq_drop_take];have:xs.size-p=(xs.toList.drop p).length:=by simp
 rw[this,List.take_length]
def BA (t:eY)(es:List (Int×au)):List (Nat×Int×au):=t.place.toList.zip es
structure SOk (t:SetTable)(es:List (Int×Value)):Prop where
 tab:Tab t
 full:nQ (t.mask+1)
 len:t.place.size=es.length
 room:t.place.size<=t.mask
 reach:∀e∈BA t es,Reach t.mask (λk=>k∈t.place.toList) e.2.1 e.1
def VY {t:eY}{es:List (Int×au)}(b:t.place.size=es.length){i:Nat}{e:Int×au}(h:es[i]?=some e):∃j,t.place[i]?=some j/\(j,e)∈BA t es:=by
 have c:i<es.length:=(aAy.mp h).1;have a:i<t.place.toList.length:=by simpa[b]using c
 refine⟨t.place.toList[i],by rw[<-aAD,aAd a],?_⟩;unfold BA;refine aAo (i:=i) ?_;rw[aBH];exact⟨aAd a,h⟩
def aq {t:eY}{es:List (Int×au)}(S:SOk t es){h:Int}{x:au}{n0:Nat}(z:Y3 t h n0)(C:t.place.size+1<=t.mask):
  SOk (t.put (o8 t.mask h n0).j).1 (es.take (t.put (o8 t.mask h n0).j).2++(h,x)::es.drop (t.put (o8 t.mask h n0).j).2):=by
 have u:=wD t.mask h n0;obtain⟨U,E,H⟩:=cN S.tab.asc (o8 t.mask h n0).j;generalize A:(o8 t.mask h n0).j=J at*
 have v:J∉t.place.toList:=by rw[<-A];exact z.2.1
 have B:(t.put J).2=below t.place J:=rfl;have em:(t.put J).1.mask=t.mask:=rfl;have c:(t.put J).1.place=insertAt t.place (below t.place J) J:=rfl;have d:=gP t.place (below t.place J) J;have g:∀k,k∈(t.put J).1.place.toList↔k∈t.place.toList\/k=J:=λk=>by
  rw[c,d,aAL,aAe];constructor
  .rintro(q|q|q)
   .exact .inl (aDC q)
   .exact .inr q
   .exact .inl (aDD q)
  .rintro(q|q)
   .rw[<-aEk (below t.place J) t.place.toList,aAL]at q;rcases q with q|q
    .exact .inl q
    .exact .inr (.inr q)
   .exact .inr (.inl q)
 have n:(t.put J).1.place.size=t.place.size+1:=by
  rw[<-aBl,c,d,aAx,aBd,aAt,aCu,aBl]
  lia
 refine⟨⟨?_,λj I=>?_,?_⟩,S.full,?_,by rw[n];exact C,λe s=>?_⟩
 .
  have o:t.place.toList.Pairwise (· <·):=by rw[aCm];intro i j f u L;simpa using S.tab.asc i j (by simpa using f) (by simpa using u) L
  have p:∀a∈t.place.toList.take (below t.place J),a<J:=λa l=>by
   obtain⟨i,f,e⟩:=aBj l;rw[aBd]at f;rw[List.getElem_take]at e;have:=E i (by simp at f;lia) (by lia);simp at e
   lia
  have r:∀a∈t.place.toList.drop (below t.place J),J<a:=λa l=>by
   obtain⟨i,f,e⟩:=aBj l;rw[aCu]at f;rw[List.getElem_drop]at e;have Y:=H (below t.place J+i) (by simp at f;lia) (by lia);simp at e;have h2:J≠a:=λq=>v (by rw[q];exact aDD l)
   lia
  have N:(t.put J).1.place.toList.Pairwise (· <·):=by
   rw[c,d,List.pairwise_append];refine⟨o.sublist (List.take_sublist _ _),aAA.mpr ⟨r,o.sublist (List.drop_sublist _ _)⟩,λa l b O=>?_⟩;rcases aAe.mp O with q|q
   .subst q;exact p a l
   .exact aGE (p a l) (r b q)
  intro i k f w y;have:=aCm.mp N i k (by simpa using f) (by simpa using w) y;simpa using this
 .rcases(g j).mp I with q|q
  .exact S.tab.le j q
  .subst q;exact u
 .show(if has t.dummies J then _ else t.dummies)=#[];rw[S.tab.nod,ja (by unfold has;simp)]
 .rw[n,B,aAx,aBd,aAt,aCu];have:=S.len
  lia
 .have Q:e∈BA t es\/e=(J,h,x):=by
   unfold BA at s;rw[c,d,B]at s;rw[List.zip_append (by rw[aBd,aBd,aBl,S.len])]at s;rcases aAL.mp s with q|q
   .left;unfold BA;exact wP q
   .rw[aBY]at q;rcases aAe.mp q with q|q
    .exact .inr q
    .left;unfold BA;exact xC q
  rcases Q with q|q
  .exact(S.reach e q).mono λk w=>(g k).mpr (.inl w)
  .subst q;exact⟨n0,A,λm T=>(g _).mpr (.inl (z.2.2 m T))⟩
def U6 (owner:Array (Option Nat))(j:Nat):Prop:=(owner.getD j<|some 0).isNone=false
theorem tY {mask:Nat}(h:Int)(owner:Array (Option Nat)):∀(fuel k:Nat),(∃kk,k<=kk/\kk<k+fuel/\¬U6 owner (E9 mask h kk).1)->
  ∃n,off mask h k<=n/\layClean.free mask owner fuel (E9 mask h k).1 (E9 mask h k).2=some (o8 mask h n).j/\¬U6 owner (o8 mask h n).j/\∀m,off mask h k<=m->m<n->U6 owner (o8 mask h m).j
 |0,k,⟨kk,g,l,_⟩=>by lia
 |fuel+1,k,⟨kk,g,l,c⟩=>by
  have o:runEnd mask (E9 mask h k).1+1-(E9 mask h k).1=len mask (E9 mask h k).1+1:=by unfold len runEnd;split<;>lia
  unfold layClean.free;rw[o];cases e:(aAQ<|len mask (E9 mask h k).1+1).find? λr=>(owner.getD ((E9 mask h k).1+r)<|some 0).isNone with
  |some r=>
   have q:=List.find?_some e;have d:r<len mask (E9 mask h k).1+1:=aBP.mp (List.mem_of_find?_eq_some e);have f:(o8 mask h<|off mask h k+r).j=(E9 mask h k).1+r:=by rw[Z4 mask h k r (by lia)]
   refine⟨off mask h k+r,by lia,by rw[f],by rw[f];unfold U6;rw[q];simp,λm a b=>?_⟩;have em:(o8 mask h m).j=(E9 mask h k).1+(m-off mask h k):=by have:=Z4 mask h k (m-off mask h k) (by lia);rw[show off mask h k+(m-off mask h k)=m by lia]at this;rw[this]
   rw[em];unfold U6;rw[List.find?_range_eq_some]at e;have:=e.2.2 (m-off mask h k) (by lia);simpa using this
  |none=>
   have all:∀r<len mask (E9 mask h k).1+1,U6 owner ((E9 mask h k).1+r):=λr d=>by have:=List.find?_eq_none.mp e r (aBP.mpr d);unfold U6;exact Bool.not_eq_true _▸this
   have v:kk≠k:=λq=>by subst q;have:=all 0 (by lia);rw[Nat.add_zero]at this;exact c this
   obtain⟨n,w,p,s,t⟩:=tY h owner fuel (k+1) ⟨kk,by lia,by lia,c⟩;have x:off mask h (k+1)=off mask h k+len mask (E9 mask h k).1+1:=rfl;refine⟨n,by lia,p,s,λm y u=>?_⟩;by_cases q:off mask h (k+1)<=m
   .exact t m q u
   .have em:(o8 mask h m).j=(E9 mask h k).1+(m-off mask h k):=by have:=Z4 mask h k (m-off mask h k) (by lia);rw[show off mask h k+(m-off mask h k)=m by lia]at this;rw[this]
    rw[em];exact all _ (by lia)
def oT {mask:Nat}(F:nQ (mask+1))(h:Int)(owner:Array (Option Nat)){j:Nat}(g:j<=mask)(a:¬U6 owner j):
  ∃n,layClean.free mask owner (turns mask) (aDX h%(mask+1)) (aDX h)=some (o8 mask h n).j/\¬U6 owner (o8 mask h n).j/\∀m<n,U6 owner (o8 mask h m).j:=by
 obtain⟨k,l,e⟩:=vO F (HS mask h 13) (show j<mask+1 by lia);obtain⟨n,o,b,c,d⟩:=tY h owner (turns mask) 0 ⟨13+k,aBk _,by unfold turns;lia,by rw[rG,e];exact a⟩;exact⟨n,b,c,λm f=>d m (aBk _) f⟩
structure Laid (mask:Nat)(hs:List Int)(owner:Array (Option Nat))(k:Nat):Prop where
 size:owner.size=mask+1
 lt:∀(j i:Nat),owner[j]?=some (some i)->i<k
 inj:∀(j j' i:Nat),owner[j]?=some (some i)->owner[j']?=some (some i)->j=j'
 sur:∀i<k,∃j:Nat,owner[j]?=some (some i)
 reach:∀(j i:Nat) (h:Int),owner[j]?=some (some i)->hs[i]?=some h->Reach mask (λl=>∃i,owner[l]?=some (some i)) h j
def lS {owner:Array (Option Nat)}{mask j:Nat}(b:owner.size=mask+1)(c:j<=mask):U6 owner j↔∃i,owner[j]?=some (some i):=by
 unfold U6;have a:j<owner.size:=by lia
 have e:owner.getD j (some 0)=owner[j]:=by simp[aFl,a]
 rw[e,aAz a];cases owner[j]with
 |none=>simp
 |some i=>simp
def Laid.room {mask k:Nat}{p:List Int}{owner:Array (Option Nat)}(L:Laid mask p owner k)(s:k<=mask):∃j≤mask,¬U6 owner j:=by
 by_cases z:∃j≤mask,¬U6 owner j
 .exact z
 .exfalso;have all:∀j≤mask,∃i,owner[j]?=some (some i):=λj b=>by
   by_cases q:U6 owner j
   .exact(lS L.size b).mp q
   .exact absurd ⟨j,b,q⟩ z
  have c:∀n,n<=mask+1->∃l:List Nat,l.length=n/\l.Nodup/\(∀i∈l,i<k)/\∀i∈l,∃j<n,owner[j]?=some (some i):=λn=>by
   induction n with
   |zero=>exactλ_=>⟨[],rfl,aDh,by simp,by simp⟩
   |succ n r=>
    intro t;obtain⟨l,h,d,f,o⟩:=r (by lia);obtain⟨i,g⟩:=all n (by lia);refine⟨i::l,by simp[h],aAH.mpr ⟨λq=>?_,d⟩,λx a=>?_,λx a=>?_⟩
    .obtain⟨j,b,e⟩:=o i q;have:=L.inj j n i e g
     lia
    .rcases aAe.mp a with q|q
     .subst q;exact L.lt _ _ g
     .exact f x q
    .rcases aAe.mp a with q|q
     .subst q;exact⟨n,by lia,g⟩
     .obtain⟨j,b,e⟩:=o x q;exact⟨j,by lia,e⟩
  obtain⟨l,h,d,f,_⟩:=c (mask+1) (aAj _);have:=T5 (m:=aAQ k) d (λx a=>aBP.mpr (f x a));simp at this
  lia
def EC (mask:Nat)(b:List Int):Laid mask b (aED (mask+1) none) 0:=by
 have a:∀(j i:Nat),(aED (mask+1) (none:Option Nat))[j]?=some (some i)->False:=λj i h=>by rw[Array.getElem?_replicate]at h;split at h<;>cases h
 exact⟨by simp,λj i h=>(a j i h).elim,λj c i h=>(a j i h).elim,λi d=>by lia,λj i _ h=>(a j i h).elim⟩
def Laid.step {mask k:Nat}{f:List Int}{owner:Array (Option Nat)}(L:Laid mask f owner k){h:Int}(s:f[k]?=some h){n:Nat}(t:¬U6 owner (o8 mask h n).j)(u:∀m<n,U6 owner (o8 mask h m).j):
  Laid mask f (owner.setIfInBounds (o8 mask h n).j (some k)) (k+1):=by
 have v:=wD mask h n;have g:(o8 mask h n).j<owner.size:=by rw[L.size];lia
 have get:∀(j i:Nat),(owner.setIfInBounds (o8 mask h n).j (some k))[j]?=some (some i)↔(j=(o8 mask h n).j/\i=k)\/(j≠(o8 mask h n).j/\owner[j]?=some (some i)):=λj i=>by
  rw[Array.getElem?_setIfInBounds];by_cases q:(o8 mask h n).j=j
  .rw[i6 q,i6 g];simp[q,eq_comm]
  .rw[ja q];constructor
   .intro z;exact .inr ⟨λy=>q y.symm,z⟩
   .rintro(⟨z,_⟩|⟨_,z⟩)
    .exact absurd z.symm q
    .exact z
 have w:∀i,owner[(o8 mask h n).j]?≠some (some i):=λi z=>t ((lS L.size v).mpr ⟨i,z⟩);have grow:∀l:Nat,(∃i:Nat,owner[l]?=some (some i))->∃i:Nat,(owner.setIfInBounds (o8 mask h n).j (some k))[l]?=some (some i):=λl x=>by
  obtain⟨i,z⟩:=x;by_cases q:l=(o8 mask h n).j
  .exact⟨k,(get l k).mpr (.inl ⟨q,rfl⟩)⟩
  .exact⟨i,(get l i).mpr (.inr ⟨q,z⟩)⟩
 refine⟨by simp[L.size],λj i z=>?_,λj o i z r=>?_,λi B=>?_,λj i p z e=>?_⟩
 .rcases(get j i).mp z with⟨_,q⟩|⟨_,q⟩
  .lia
  .have:=L.lt j i q;lia
 .rcases(get j i).mp z with⟨c,a⟩|⟨c,a⟩
  .rcases(get o i).mp r with⟨d,b⟩|⟨d,b⟩
   .rw[c,d]
   .subst a;have:=L.lt _ _ b;lia
  .rcases(get o i).mp r with⟨d,b⟩|⟨d,b⟩
   .subst b;have:=L.lt _ _ a;lia
   .exact L.inj j o i a b
 .by_cases q:i=k
  .subst q;exact⟨_,(get _ _).mpr (.inl ⟨rfl,rfl⟩)⟩
  .obtain⟨j,z⟩:=L.sur i (by lia);exact⟨j,(get j i).mpr (.inr ⟨λy=>by subst y;exact w i z,z⟩)⟩
 .rcases(get j i).mp z with⟨c,a⟩|⟨c,a⟩
  .subst c a;have:p=h:=aAl (e.symm.trans s);subst this;exact⟨n,rfl,λm A=>grow _ ((lS L.size<|wD mask p m).mp (u m A))⟩
  .exact(L.reach j i p a e).mono grow
def BI {mask:Nat}(F:nQ (mask+1))(b:Array Int)(z:b.size<=mask):∃owner,layClean mask b=some owner/\Laid mask b.toList owner b.size:=by
 have f:∀(post a:List Int) (owner:Array (Option Nat)),b.toList=a++post->Laid mask b.toList owner a.length->
   ∃c,post.foldl (λB h=>do
    let(owner,k)<-B
    let j<-layClean.free mask owner (turns mask) (aDX h%(mask+1)) (aDX h)
    pure (owner.setIfInBounds j (some k),k+1)) (some (owner,a.length))=some (c,b.size)/\Laid mask b.toList c b.size:=λpost=>by
  induction post with
  |nil=>
   intro a owner e L;have:a.length=b.size:=by rw[<-aBl,e];simp
   exact⟨owner,by rw[List.foldl_nil,this],by rw[<-this];exact L⟩
  |cons h post g=>
   intro a owner e L;have d:a.length<b.size:=by rw[<-aBl,e];simp
   obtain⟨j,l,m⟩:=L.room (by lia);obtain⟨n,o,p,q⟩:=oT F h owner l m;have r:b.toList[a.length]?=some h:=by rw[e];simp
   have s:=L.step r p q;rw[aDs];have t:b.toList=(a++[h])++post:=by rw[e];simp
   obtain⟨c,u,v⟩:=g (a++[h]) _ t (by rw[aAx];exact s);refine⟨c,?_,v⟩;rw[<-u];congr 1;simp[o]
 obtain⟨owner,w,x⟩:=f b.toList [] (aED (mask+1) none) rfl (EC mask b.toList);refine⟨owner,?_,x⟩;unfold layClean;rw[<-Array.foldl_toList];have y:List.foldl (λB h=>do
    let(owner,k)<-B
    let j<-layClean.free mask owner (turns mask) (aDX h%(mask+1)) (aDX h)
    pure (owner.setIfInBounds j (some k),k+1)) (some (aED (mask+1) none,0)) b.toList=some (owner,b.size):=w
 rw[y];rfl
def G6 (mask:Nat)(owner:Array (Option Nat)):List (Nat×Nat):=(aAQ<|mask+1).filterMap λj=>(owner.getD j none).map (j,·)
def U4 {mask:Nat}{owner:Array (Option Nat)}(f:owner.size=mask+1){j i:Nat}:(j,i)∈G6 mask owner↔owner[j]?=some (some i):=by
 unfold G6;rw[aBZ];constructor
 .rintro⟨l,a,e⟩;have d:l<owner.size:=by rw[f];exact aBP.mp a
  have b:owner.getD l none=owner[l]:=by simp[aFl,d]
  rw[b,aDi]at e;obtain⟨h,c,g⟩:=e;cases g;rw[aAz d,c]
 .intro e;obtain⟨a,c⟩:=aCk.mp e;have b:owner.getD j none=owner[j]:=by simp[aFl,a]
  exact⟨j,aBP.mpr (by lia),by rw[b,c];rfl⟩
def BU (mask:Nat)(owner:Array (Option Nat)):((G6 mask owner).map (·.1)).Pairwise (· <·):=by unfold G6;rw[aBv];have:(aAQ<|mask+1).Pairwise (· <·):=List.pairwise_lt_range;refine List.Pairwise.filterMap _ (R:=(· <·)) ?_ this;intro a f e b c g d;rw[aDi]at c d;obtain⟨_,_,rfl⟩:=c;obtain⟨_,_,rfl⟩:=d;exact e
def PV {mask finger moves:Nat}{led plain:Bool}(F:nQ (mask+1))(es:Array (Int×au))(A:es.size<=mask):
  ∃t' d,laid mask finger moves led plain (es.map (·.1))=some (t',d)/\(d.filterMap (es[·]?)).size=es.size/\(d.filterMap (es[·]?)).toList.Perm es.toList/\SOk t' (d.filterMap (es[·]?)).toList/\
   t'.mask=mask/\t'.dummies=#[]/\t'.led=led/\t'.plain=plain/\t'.moves=moves:=by
 obtain⟨c,I,L⟩:=BI F (es.map (·.1)) (by simpa using A);have m:(es.map (·.1)).size=es.size:=by simp
 rw[m]at L;refine⟨{mask,place:=((G6 mask c).map (·.1)).toArray,dummies:=#[],finger,led,moves,plain},((G6 mask c).map (·.2)).toArray,?_,?_⟩
 .unfold laid;rw[I];rfl
 have n:(G6 mask c).Nodup:=by have:=BU mask c;rw[aBv]at this;exact aCj.mpr (this.imp λ{a b} h e=>by subst e;exact aBo _ h)
 have o:((G6 mask c).map (·.2)).Nodup:=by rw[aCj,aBv];refine List.Pairwise.imp_of_mem (R:=(· ≠·)) ?_ (aCj.mp n);rintro⟨j,i⟩ ⟨p,r⟩ J N O e;dsimp only at e;subst e;have:=L.inj j p i ((U4 L.size).mp J) ((U4 L.size).mp N);subst this;exact O rfl
 have B:((G6 mask c).map (·.2)).Perm (aAQ es.size):=by
  rw[aCL o aFB];intro i;rw[aBP,aAp];constructor
  .rintro⟨⟨j,r⟩,h,rfl⟩;exact L.lt _ _ ((U4 L.size).mp h)
  .intro s;obtain⟨j,t⟩:=L.sur i s;exact⟨(j,i),(U4 L.size).mpr t,rfl⟩
 have C:(((G6 mask c).map (·.2)).toArray.filterMap (es[·]?)).toList=(G6 mask c).filterMap (λx=>es[x.2]?):=by rw[Array.toList_filterMap,aDl];rfl
 have Q:((G6 mask c).filterMap (λx=>es[x.2]?)).Perm es.toList:=by
  have T:(G6 mask c).filterMap (λx=>es[x.2]?)=((G6 mask c).map (·.2)).filterMap (λi=>es[i]?):=by rw[aDl];rfl
  rw[T];refine(B.filterMap _).trans (List.Perm.of_eq ?_);apply aDw;intro i;have:(aAQ es.size).filterMap (λi=>es[i]?)=es.toList:=by
   have q:∀l:List (Int×au),(aAQ l.length).filterMap (λi=>l[i]?)=l:=λl=>by
    induction l with
    |nil=>rfl
    |cons a l u=>
     rw[aAt,aFI,aCG];simp only[aCZ];rw[aDl];have:((λi=>(a::l)[i]?)∘Nat.succ)=λi=>l[i]?:=by funext i;simp
     rw[this,u]
   have:=q es.toList;simpa using this
  rw[this]
 have U:∀l:List (Nat×Nat),(∀x∈l,x.2<es.size)->(l.map (·.1)).zip (l.filterMap<|λx=>es[x.2]?)=l.filterMap (λx=>es[x.2]?.map (x.1,·))/\(l.filterMap<|λx=>es[x.2]?).length=l.length:=λl=>by
  induction l with
  |nil=>intro _;exact⟨rfl,rfl⟩
  |cons x l u=>intro h;obtain⟨Y,i2⟩:=u (λy hy=>h y (aAg _ hy));have w:=h x (by simp);have e:es[x.2]?=some es[x.2]:=aAz w;rw[aAu,aCG,e];dsimp only;rw[aCG,e];dsimp only[Option.map_some];rw[aBY,Y];exact⟨rfl,by simp[i2]⟩
 obtain⟨z1,E⟩:=U (G6 mask c) (λx w=>L.lt x.1 x.2 ((U4 L.size).mp w));have f:(G6 mask c).length=es.size:=by have:=B.length_eq;simpa using this
 rw[C];refine⟨by rw[<-aBl,C,E,f],Q,⟨⟨?_,λj t=>?_,rfl⟩,F,?_,?_,λe g=>?_⟩,rfl,rfl,rfl,rfl,rfl⟩
 .intro i k s m z;have:=aCm.mp (BU mask c) i k (by simpa using s) (by simpa using m) z;simpa using this
 .have ui:j∈(G6 mask c).map (·.1):=by simpa using t
  obtain⟨⟨p,i⟩,h,rfl⟩:=aAp.mp ui;have:=(aCk.mp<|(U4 L.size).mp h).1;rw[L.size]at this;show p<=mask
  lia
 .rw[E];simp
 .simp only[aAn,aAf,f];exact A
 .unfold BA at g;dsimp only at g;rw[z1,aBZ]at g;obtain⟨⟨j,i⟩,h,H⟩:=g;rw[aDi]at H;obtain⟨⟨hh,v⟩,e2,rfl⟩:=H;have ho:=(U4 L.size).mp h;have:=L.reach j i hh ho (by rw[aAD,Array.getElem?_map,e2];rfl);refine this.mono λl z9=>?_;obtain⟨r,gc⟩:=z9;show l∈(G6 mask c).map (·.1);exact aAp.mpr ⟨(l,r),(U4 L.size).mpr gc,rfl⟩
end ST
namespace TS
open PySem PyProof.Rows
abbrev tupK:Bool->SortKind:=sortPriv%PySem.Builtin.KeyKind.tuples
structure TB (f:Bool)(aa:Array Keyed)(st:SortSt):Prop where
 perm:(arrOf st).Perm aa
 kind:kindOf st=tupK f
 failed:failedOf st=none
 pend:pendingOf st=#[]
def TB.size {f:Bool}{aa:Array Keyed}{st:SortSt}(h:TB f aa st):(arrOf st).size=aa.size:=h.perm.size_eq
def TB.setArr {f:Bool}{aa:Array Keyed}{st:SortSt}(h:TB f aa st){xs:Array Keyed}(a:xs.Perm (arrOf st)):TB f aa (PyProof.Rows.setArr st xs):=
 ⟨a.trans h.perm,h.kind,h.failed,h.pend⟩
def WY (f:Bool)(A:cp)(s:a9)(κ:KeyKind):Prop:=
 ∀(c:be) (w:cq) (E:F5) (x y:au) (a b:κ.α) {Q:AD},
  κ.keyOf x=some a->κ.keyOf y=some b->Q (κ.blt a b) s->av (bc c w) A (keyLt' (tupK f) x y) Q E s
def TB.atK {f:Bool}{κ:KeyKind}{aa:Array Keyed}{st:SortSt}(h:TB f aa st)(h0:KeysOf κ aa){i:Nat}(c:i<aa.size):∃x p a,(arrOf st)[i]?=some (x,p)/\κ.keyOf x=some a/\KK κ (arrOf st) i=a:=by
 have d:i<(arrOf st).size:=by rw[h.size];exact c
 obtain⟨a,b⟩:=h0 _ ((aES.mp h.perm).mem_iff.mp (show(arrOf st)[i]∈(arrOf st).toList by simp));have e:(arrOf st)[i]?=some (arrOf st)[i]:=getElem?_pos _ i d;exact⟨(arrOf st)[i].1,(arrOf st)[i].2,a,by rw[e],b,by unfold KK;rw[e];simp[b]⟩
section
def yq (f:Bool){prog:be}{w:cq}{A:cp}{E:F5}{s:a9}{aa:Array Keyed}{κ:KeyKind}{st:SortSt}{i j:Nat}{Q:Option Bool->SortSt->Prop}(d:WY f A s κ)(c:TB f aa st)(h0:KeysOf κ aa)(e:i<aa.size)(g:j<aa.size)
  (h:Q (some (κ.blt (KK κ (arrOf st) i) (KK κ (arrOf st) j))) st):wpS (bc prog w) A E s (ltAt' i j) Q st:=by
 obtain⟨x,p,a,k,l,m⟩:=c.atK h0 e;obtain⟨y,q,b,n,o,r⟩:=c.atK h0 g;rw[m,r]at h;rw[ltAt'_eq];refine aBy (wpS_get ?_);show wpS _ _ _ _ (do let x<-elem' (arrOf st) i;let y<-elem' (arrOf st) j;lt' x y) Q st;rw[elem'_eq,elem'_eq,k,n];refine aBy (aCn<|aBy<|aCn ?_);rw[lt'_eq];refine aBy (wpS_get ?_);rw[c.kind];refine aBy (wpS_lift<|aDY<|d prog w _ x y a b l o ⟨rfl,?_⟩);exact aCn h
def up1 (S:SortedToK κ xs x)(h:1<=x->κ.kle (KK κ xs (x-1)) (KK κ xs x)):SortedToK κ xs (x+1):=λi j a b=>by
 rcases aDm (aFm b)with c|rfl
 .exact S i j a c
 .rcases aDm a with d|rfl
  .exact KeyOrd.kle_trans (S i (j-1) (by lia) (by lia)) (h (by lia))
  .exact KeyOrd.kle_refl _
def yz (S:NonIncK κ xs x)(h:1<=x->κ.kle (KK κ xs x) (KK κ xs (x-1))):NonIncK κ xs (x+1):=λi j a b=>by
 rcases aDm (aFm b)with c|rfl
 .exact S i j a c
 .rcases aDm a with d|rfl
  .exact KeyOrd.kle_trans (h (by lia)) (S i (j-1) (by lia) (by lia))
  .exact KeyOrd.kle_refl _
def MI (S:NonIncK κ xs x)(e:∀k,KK κ a k=KK κ xs k):NonIncK κ a x:=λi j b c=>by rw[e,e];exact S i j b c
def FE (κ:KeyKind)(xs:Array Keyed)(x c:Nat):Prop:=c+1<=x/\∀k,x-(c+1)<=k->k<x->KK κ xs k=KK κ xs (x-1)
def FE.one (h:1<=x):FE κ xs x 0:=⟨h,λk a b=>by rw[show k=x-1 by lia]⟩
variable{st:SortSt}
def NI (h:WY f A s κ)(h0:KeysOf κ aa)(o:m<=aa.size)(B:TB f aa st)(p:1<=a)(b:a<=m)(S:SortedToK κ (arrOf st) a){Q:AscSt->SortSt->Prop}(q:∀n,a<=n->n<=m->SortedToK κ (arrOf st) n->(n<m->κ.klt (KK κ (arrOf st) n) (KK κ (arrOf st) (n-1)))->Q (none,n) st):wpS (bc prog w) A E s (ascLoop a m) Q st:=by
 refine aEm (I:=λn r t=>t=st/\r=(none,n)/\SortedToK κ (arrOf st) n) (λn r t k u l=>?_) (λr t ⟨d,g,c⟩=>?_) ⟨rfl,rfl,S⟩
 .obtain⟨d,g,c⟩:=l;subst d g;refine aBy (yq f h B h0 (by lia) (by lia) ?_);cases z:κ.blt (KK κ (arrOf t) n) (KK κ (arrOf t)<|n-1)with
  |true=>exact aCn (q n k (by lia) c λ_=>z)
  |false=>exact aCn ⟨rfl,rfl,up1 c λ_=>z⟩
 .subst d g;have e:max a m=m:=Nat.max_eq_right b;rw[e]at c⊢;exact q m b (aAj _) c λz=>absurd z (aBo _)
abbrev Told (f:Bool)(κ:KeyKind)(aa:Array Keyed)(m:Nat)(Q:Option Nat->SortSt->Prop):Prop:=∀n t,TB f aa t->1<=n->n<=m->SortedToK κ (arrOf t) n->Q (some n) t
def zV (d:WY f A s κ)(h0:KeysOf κ aa)(a:m<=aa.size)(B:TB f aa st)(b:1<=n)(c:n<=m)(S:NonIncK κ (arrOf st) n){Q:Option Nat->SortSt->Prop}(q:Told f κ aa m Q):
  wpS (bc prog w) A E s (tail3 n m) Q st:=by
 have B2:=B.setArr (aGj (arrOf st) 0 n<|(n-0)/2);have g:n<=(arrOf st).size:=by rw[B.size];exact aAr c a
 refine aBy (aGk<|aBy<|NI d h0 a B2 b c (λi j t h=>?_) λk l o p _=>aCn (q k _ B2 (aAr b l) o p));have e:∀k,k<n->KK κ (arrOf<|setArr st<|mirror (arrOf st) 0 n<|(n-0)/2) k=KK κ (arrOf st) (0+n-1-k):=λk r=>(KK_mirror g k).trans (i6 ⟨aBk _,r⟩);rw[e i (by lia),e j h];exact S _ _ (by lia) (by lia)
def ML (g:WY f A s κ)(h0:KeysOf κ aa)(H:m<=aa.size)(B:TB f aa st)(h:1<=n)(l:n<=m)(S:NonIncK κ (arrOf st) n){Q:DescSt->SortSt->Prop}(q:∀k c t,TB f aa t->1<=k->k<=m->NonIncK κ (arrOf t) k->FE κ (arrOf t) k c->Q (none,k,c) t):wpS (bc prog w) A E s (descLoop n m) Q st:=by
 refine aEm (I:=λk r t=>∃c,r=(none,k,c)/\TB f aa t/\NonIncK κ (arrOf t) k/\FE κ (arrOf t) k c) (λk r t J L u=>?_) (λr t ⟨c,e,a,d,b⟩=>?_) ⟨0,rfl,B,S,FE.one h⟩
 .obtain⟨c,e,a,d,b⟩:=u;subst e;have v:k<=(arrOf t).size:=by rw[a.size];lia
  dsimp only;refine aBy (yq f g a h0 (by lia) (by lia) ?_);cases z:κ.blt (KK κ (arrOf t) k) (KK κ (arrOf t)<|k-1)with
  |true=>
   have o:NonIncK κ (arrOf t) (k+1):=yz d λ_=>KeyOrd.kle_of_klt z;show wpS _ _ _ _ (if c>0 then _ else _) _ t;by_cases p:c>0
   .rw[i6 p];exact aBy (aGk (aCn ⟨0,rfl,a.setArr (aGj _ _ _ _),MI o (aFM v b.2),FE.one (by lia)⟩))
   .rw[ja p];exact aCn ⟨0,rfl,a,o,FE.one (by lia)⟩
  |false=>
   dsimp only;simp only[aAs,if_false];refine aBy (yq f g a h0 (by lia) (by lia) ?_);cases x:κ.blt (KK κ (arrOf t)<|k-1) (KK κ (arrOf t) k)with
   |true=>exact aCn (q k c t a (by lia) (by lia) d b)
   |false=>
    have e:KK κ (arrOf t) k=KK κ (arrOf t) (k-1):=KeyOrd.kle_antisymm x z;refine aCn ⟨c+1,rfl,a,yz d λ_=>by rw[e];exact KeyOrd.kle_refl _,by have:=b.1;lia,λi N y=>?_⟩;show KK κ (arrOf t) i=KK κ (arrOf t) k;rcases aDm (aFm y)with C|rfl
    .rw[e];exact b.2 i (by lia) C
    .rfl
 .subst e;have e:max n m=m:=Nat.max_eq_right l;rw[e]at d b⊢;exact q m c t a (aAr h l) (aAj _) d b
def AU (a:WY f A s κ)(h0:KeysOf κ aa)(b:m<=aa.size)(B:TB f aa st)(o:n+1<=m)(S:NonIncK κ (arrOf st) (n+1)){Q:Option Nat->SortSt->Prop}(q:Told f κ aa m Q):
  wpS (bc prog w) A E s (descPart n m) Q st:=by
 refine aBy (wpS_lift<|aDx ⟨rfl,aBy (ML a h0 b B (aGF n) o S λk c t d e g h p=>?_)⟩);have r:k<=(arrOf t).size:=by rw[d.size];lia
 show wpS _ _ _ _ (if c>0 then _ else _) _ t;by_cases l:c>0
 .rw[i6 l];exact aBy (aGk<|zV a h0 b (d.setArr<|aGj _ _ _ _) e g (MI h<|aFM r p.2) q)
 .rw[ja l];exact zV a h0 b d e g h q
def JQ (a:WY f A s κ)(h0:KeysOf κ aa)(b:m<=aa.size)(h:1<=m)(B:TB f aa st){Q:Option Nat->SortSt->Prop}(q:Told f κ aa m Q):wpS (bc prog w) A E s (countRun' 0 m) Q st:=by
 rw[countRun0_eq];refine aBy (NI a h0 b B (aAj 1) h (up1 (λ_ _ _ z=>absurd z (aFN _)) λz=>absurd z (by decide)) λn c d S l=>?_);show wpS _ _ _ _ (if(n==m)=true then _ else _) _ st;by_cases e:n=m
 .rw[i6 (beq_iff_eq.mpr e)];exact aCn (q n st B c d S)
 .rw[ja λz=>e (beq_iff_eq.mp z)];have lt:=l (by lia);by_cases g:n>1
  .rw[i6 g];refine aBy (yq f a B h0 (by lia) (by lia) ?_);cases z:κ.blt (KK κ (arrOf st) 0) (KK κ (arrOf st)<|n-1)with
   |true=>exact aCn (q n st B c d S)
   |false=>
    have o:n<=(arrOf st).size:=by rw[B.size];lia
    have same:∀k,0<=k->k<n->KK κ (arrOf st) k=KK κ (arrOf st) (n-1):=λk _ p=>KeyOrd.kle_antisymm (S k (n-1) (by lia) (by lia)) (KeyOrd.kle_trans z<|S 0 k (aBk _) p);have r:NonIncK κ (arrOf st) n:=λi j u t=>by rw[same i (aBk _) (by lia),same j (aBk _) t];exact KeyOrd.kle_refl _
    exact aBy (aGk (AU a h0 b (B.setArr<|aGj _ _ _ _) (by lia) (MI (yz r λ_=>KeyOrd.kle_of_klt lt)<|aFM o same) q))
  .rw[ja g];obtain rfl:n=1:=by lia
   exact AU a h0 b B (by lia) (yz (yz (λ_ _ _ z=>absurd z (aFN _)) λz=>absurd z (by decide)) λ_=>KeyOrd.kle_of_klt lt) q
def qR (hO:WY f A s κ)(h0:KeysOf κ aa)(hn:n<=aa.size)(hk:k<=n)(B:TB f aa st)(S:SortedToK κ (arrOf st) k){Q:Bool->SortSt->Prop}(q:∀t,TB f aa t->SortedToK κ (arrOf t) n->Q true t):
  wpS (bc prog w) A E s (binarySort' 0 n k) Q st:=by
 rw[binarySort'_eq];simp only[aDO];have S0:SortedToK κ (arrOf st) (min (max k 1) n):=λi j C L=>by
  rcases Nat.eq_or_lt_of_le C with rfl|ao
  .exact KeyOrd.kle_refl _
  .exact S i j C (by lia)
 refine aBy (wpS_mono (Q:=λr t=>r=(none,())/\TB f aa t/\SortedToK κ (arrOf t) n) (aEm (I:=λx r t=>r=(none,())/\TB f aa t/\SortedToK κ (arrOf t) (min x n)) (λx r t l1 l2 ⟨e,g,c⟩=>?step) (λr t ⟨e,g,c⟩=>⟨e,g,?fin⟩) ⟨rfl,B,S0⟩) λr t ⟨e,g,c⟩=>?post)
 case step=>
  subst e;rw[aDZ (aDt l2)]at c;have N:x<aa.size:=by lia
  let o (l:Nat):Prop:=∀i,i<l->κ.kle (KK κ (arrOf t) i) (KK κ (arrOf t) x)
  let Top (r:Nat):Prop:=∀i,r<=i->i<x->κ.klt (KK κ (arrOf t) x) (KK κ (arrOf t) i)
  refine aBy (wpS_mono (Q:=λd u=>u=t/\∃l r,d=(none,l,r)/\l<=x/\o l/\Top l) (aEm (I:=λy d u=>u=t/\∃l r,d=(none,l,r)/\l<=r/\r<=x/\r-l<=x-y/\o l/\Top r) (λy d u _ y2 ⟨e,l,r,p,O,H,J,lo,m⟩=>?istep) (λd u ⟨e,l,r,p,O,H,J,lo,m⟩=>?ifin)
   ⟨rfl,0,x,rfl,aBk _,aAj _,aAj _,λ_ z=>absurd z (aFN _),λi a b=>absurd (aDn a b) (aBo _)⟩) λd u ⟨e,l,r,p,lx,lo,m⟩=>?ipost)
  case istep=>
   subst e p;show wpS _ _ _ _ (if l>=r then _ else _) _ u;by_cases h:l>=r
   .rw[i6 h];obtain rfl:l=r:=Nat.le_antisymm O h;exact aCn ⟨rfl,l,l,rfl,H,lo,m⟩
   .rw[ja h];dsimp only;refine aBy (yq f hO g h0 N (by lia) ?_);cases z:κ.blt (KK κ (arrOf u) x) (KK κ (arrOf u)<|(l+r)/2)with
    |true=>exact aCn ⟨rfl,l,(l+r)/2,rfl,by lia,by lia,by lia,lo,λi a b=>KeyOrd.klt_of_klt_of_kle z (c _ i a b)⟩
    |false=>exact aCn ⟨rfl,(l+r)/2+1,r,rfl,by lia,by lia,by lia,λi a=>KeyOrd.kle_trans (c i ((l+r)/2) (by lia) (by lia)) z,m⟩
  case ifin=>
   subst e p;obtain rfl:l=r:=by lia
   exact⟨rfl,l,l,rfl,H,lo,m⟩
  case ipost=>
   subst e p;have hz:x<(arrOf u).size:=by rw[g.size];exact N
   show wpS _ _ _ _ (do moveDown' x l;pure (aCo (none,()))) _ u;rw[moveDown'_eq];refine aBy (wpS_modify<|aCn ⟨rfl,g.setArr (bubble_perm _ _ _),λi j C L=>?_⟩);have e:∀k,KK κ (arrOf<|setArr u<|bubble (arrOf u) x<|x-l) k=if k=l then KK κ (arrOf u) x else if l<k/\k<=x then KK κ (arrOf u) (k-1)else KK κ (arrOf u) k:=λk=>by have:=KK_bubble (κ:=κ) hz (Nat.sub_le x l) k;rw[show x-(x-l)=l by lia]at this;exact this
   have L:j<x+1:=by lia
   rw[e,e];by_cases T:i=l
   .rw[i6 T];by_cases v:j=l
    .rw[i6 v];exact KeyOrd.kle_refl _
    .rw[ja v,i6 ⟨by lia,by lia⟩];exact KeyOrd.kle_of_klt (m _ (by lia) (by lia))
   .rw[ja T];by_cases v:j=l
    .rw[i6 v,ja λz=>by lia];exact lo i (by lia)
    .rw[ja v];by_cases U:l<i/\i<=x
     .rw[i6 U,i6 ⟨by lia,by lia⟩];exact c _ _ (by lia) (by lia)
     .rw[ja U];by_cases Y:l<j/\j<=x
      .rw[i6 Y];exact c _ _ (by lia) (by lia)
      .rw[ja Y];exact c _ _ C (by lia)
 case fin=>rw[show min (max (max k 1) n) n=n by lia]at c;exact c
 case post=>subst e;exact aCn (q t g c)
def nU (f:Bool)(d:WY f A s κ)(h0:KeysOf κ aa)(B:TB f aa st)(y:2<=aa.size)(b:aa.size<64){Q:Unit->SortSt->Prop}(q:∀t,(arrOf t).Perm aa->failedOf t=none->SortedToK κ (arrOf t) aa.size->Q () t):wpS (bc prog w) A E s sortRuns' Q st:=by
 have l:minRun' aa.size aa.size 0=aa.size:=by
  generalize C:aa.size=N at*
  cases N with
  |zero=>lia
  |succ N=>rw[minRun'_succ,i6 b]
 let V6 (t:SortSt):Prop:=(arrOf t).Perm aa/\failedOf t=none/\pendingOf t=#[(0,aa.size,0)]/\SortedToK κ (arrOf t) aa.size
 have done:∀t,TB f aa t->SortedToK κ (arrOf t) aa.size->V6 (setPending t<|(pendingOf t).push (0,aa.size,0)):=λt a m=>⟨a.perm,a.failed,(jk (·.push (0,aa.size,0)) a.pend),m⟩;rw[sortRuns'_eq];refine aBy (wpS_get ?_);dsimp only;simp only[B.size,l];refine aBy (wpS_mono (Q:=λr t=>r=(none,aa.size)/\V6 t) (aEm (I:=λx r t=>(x=0/\r=(none,0)/\TB f aa t)\/(0<x/\r=(none,aa.size)/\V6 t)) (λx r t _ H I=>?step) (λr t I=>?fin)<|.inl ⟨rfl,rfl,B⟩) λr t ⟨e,D⟩=>?post)
 case step=>
  rcases I with⟨rfl,rfl,a⟩|⟨J,rfl,D⟩
  .show wpS _ _ _ _ (if 0>=aa.size then _ else _) _ t;rw[ja (by lia)];simp only[Nat.sub_zero,Nat.min_self,aDO];have fin:∀u,TB f aa u->(pendingOf u).back?=none:=λu B2=>by rw[B2.pend];rfl
   refine aBy (JQ d h0 (aAj _) (by lia) a λn u B2 L o g=>?_);show wpS _ _ _ _ (if n<aa.size then _ else _) _ u;by_cases h:n<aa.size
   .rw[i6 h];refine aBy (wpS_lift<|aDx ⟨rfl,aBy (qR d h0 (aAj _) o B2 g λv k p=>?_)⟩);simp only[aDa,aAs,if_false];refine aBy (wpS_get ?_);rw[fin v k];exact aBy (wpS_modify<|aCn<|.inr ⟨aGF _,rfl,done v k p⟩)
   .rw[ja h];obtain rfl:n=aa.size:=by lia
    refine aBy (wpS_get ?_);rw[fin u B2];exact aBy (wpS_modify<|aCn<|.inr ⟨aGF _,rfl,done u B2 g⟩)
  .show wpS _ _ _ _ (if aa.size>=aa.size then _ else _) _ t;rw[i6 (aAj _)];exact aCn ⟨rfl,D⟩
 case fin=>
  rcases I with⟨z,_⟩|⟨_,e,D⟩
  .lia
  .exact⟨e,D⟩
 case post=>
  subst e;refine aBy (wpS_mono (Q:=λr u=>u=t/\r=(none,())) (aEm (I:=λ_ r u=>u=t/\r=(none,())) (λ_ r u _ _ ⟨e,c⟩=>?istep) (λ_ _ z=>z) ⟨rfl,rfl⟩) λr u ⟨e,c⟩=>?ipost)
  case istep=>subst e c;refine aBy (wpS_get ?_);rw[i6 (by rw[D.2.2.1];exact aAj 1)];exact aCn ⟨rfl,rfl⟩
  case ipost=>subst e c;exact aCn (q _ D.1 D.2.1 D.2.2.2)
end
section
def uw (a:bb)(s c:a9):Prop:=∀b o,b≠a->s.heap.get? b=some o->c.heap.get? b=some o
def AB {P:Fin->a9->Prop}(p:s.heap.get? a=some (seqObj "list" vs.toArray n))(h0:KeysOf κ (pairsOf vs))(x:∀g,uw a s g->WY f A g κ)(r:2<=vs.length->∀g,uw a s g->∀{Q:SortKind->a9->Prop},Q (tupK f) g->av (bc prog w) A (keyKind' vs.toArray) Q E g)(t:vs.length<64)(h:∀c:SortSt,(arrOf c).Perm (pairsOf vs)->SortedToK κ (arrOf c) (pairsOf vs).size->P (.done (.ret .none)) {s with heap:=sortedHeap s.heap a vs ((arrOf c).map (·.2))}):
  av (bc prog w) A (Builtin.«list.sort» ⟨[.ref a],[]⟩) P E s:=by
 rw[list_sort_plain];have y:a<s.heap.objs.size:=aAh p;refine aAa (aEn p rfl ?_);refine aAa (listUpdate_at p rfl ?_);obtain⟨u,k⟩:∃u,(s.heap.update a<|aBI λ_=>#[]).get? a=some (seqObj "list" #[] u):=⟨_,get?_update_seq p _⟩;refine aAa (seqEpoch_at k rfl<|aAa<|aGc<|aAa<|wpAny_newList<|aAN ?_);have z:a≠(s.heap.update a<|aBI λ_=>#[]).objs.size:=by rw[Heap.size_update];exact aAm y
 have l:uw a s {s with heap:=((s.heap.update a<|aBI λ_=>#[]).push (seqObj "tuple" vs.toArray 0)).push (seqObj "list" #[] 0)}:=λb o B e=>aAc _ (aAc _<|(aAE _ _<|aCi B).trans e)
 have d:(((s.heap.update a<|aBI λ_=>#[]).push (seqObj "tuple" vs.toArray 0)).push (seqObj "list" #[] 0)).get? a=some (seqObj "list" #[] u):=aAc _ (aAc _ k);show av (bc prog w) A _ P E {s with heap:=((s.heap.update a<|aBI λ_=>#[]).push (seqObj "tuple" vs.toArray 0)).push (seqObj "list" #[] 0)};dsimp only;have C:vs.toArray.size=vs.length:=by simp
 have m:=h;by_cases q:vs.toArray.size<2
 .rw[i6 q,i6 q];refine aAa (aAb ?_);rw[StateT.run_pure];refine aAa (aAb ?_);dsimp only;refine aAa (seqEpoch_at d rfl (aAa (listUpdate_at d rfl ?_ (hsz2:=by rw[Array.size_map];show(pairsOf vs).size<=_;rw[aEZ,aFv];lia))));simp only[bne_self_eq_false,aAs,if_false];refine aAb (m (SortSt.mk' general' (vs.toArray.zip vs.toArray) #[] 7 none) (aGI _) λi j T H=>?_);have:i=j:=by rw[aEZ]at H;lia
  subst this;exact KeyOrd.kle_refl _
 .rw[ja q,ja q];refine aAa (r (by lia) _ l ?_);refine aAa (aCE (nU f (κ:=κ) (x _ l) (aa:=pairsOf vs) (st:=SortSt.mk' (tupK f) (vs.toArray.zip vs.toArray) #[] 7 none) (Q:=λ_ c=>(arrOf c).Perm (pairsOf vs)/\failedOf c=none/\SortedToK κ (arrOf c) (pairsOf vs).size)
   h0 ⟨aGI _,rfl,rfl,rfl⟩ (by rw[aEZ];lia) (by rw[aEZ];exact t) λc I J L=>⟨I,J,L⟩) ?_ λ_ _ e=>e)
  rintro⟨⟨⟩,c⟩ U ⟨rfl,v,N,O⟩;dsimp only;refine aAa (seqEpoch_at d rfl (aAa (listUpdate_at d rfl ?_ (hsz2:=by refine aAr (aEo<|(Array.size_map ..).trans (v.size_eq.trans<|aEZ _)) ?_;rw[aFv];lia))));rw[N];simp only[bne_self_eq_false,aAs,if_false];exact aAb (m c v O)
end
end TS
namespace L2
open PySem PySem.Spec PyProof.Rows
abbrev AT:=Sum Int Str
def QE:AT->au->Bool
 |.inl k,v=>Value.isInt k v
 |.inr x,v=>Value.isStrOf x v
def a3r (w:cq):AT->Int
 |.inl k=>hashInt k
 |.inr x=>hashStr w x
theorem C7:∀{k:AT} {v:au},QE k v=true->(∃i t,k=aGv i/\v=aGJ i t)\/(∃x t,k=aGw x/\v=Value.str x t)
 |.inl i,v,h=>by obtain⟨t,e⟩:=Value.isInt_shape (k:=i) (v:=v) h;exact .inl ⟨i,t,rfl,e⟩
 |.inr x,v,h=>by obtain⟨t,e⟩:=Value.isStrOf_shape (x:=x) (v:=v) h;exact .inr ⟨x,t,rfl,e⟩
def sk (a b:Int):decide ((aGv a:AT)=aGv b)=(a==b):=by
 by_cases e:a=b
 .subst e;simp
 .have h:¬(aGv a:AT)=aGv b:=λq=>e (Sum.inl.inj q);rw[decide_eq_false h];exact(beq_eq_false_iff_ne.mpr e).symm
def cx (a b:Str):decide ((aGw a:AT)=aGw b)=decide (a=b):=by
 by_cases e:a=b
 .subst e;simp
 .have h:¬(aGw a:AT)=aGw b:=λq=>e (Sum.inr.inj q);rw[decide_eq_false h,decide_eq_false e]
def gq (a:Int)(b:Str):decide ((aGv a:AT)=aGw b)=false:=decide_eq_false (λq=>nomatch q)
def gk (a:Str)(b:Int):decide ((aGw a:AT)=aGv b)=false:=decide_eq_false (λq=>nomatch q)
def yE (prog:be)(w:cq):PySem.KeyKind prog w AT where
 is:=QE
 hash:=a3r w
 inj:=λv a b g f=>by
  rcases C7 g with⟨i,t,rfl,rfl⟩|⟨x,t,rfl,rfl⟩
  .rcases C7 f with⟨j,u,rfl,e⟩|⟨y,u,rfl,e⟩
   .injection e with c _;rw[c]
   .exact nomatch e
  .rcases C7 f with⟨j,u,rfl,e⟩|⟨y,u,rfl,e⟩
   .exact nomatch e
   .injection e with c _;rw[c]
 byValue:=λk v h=>by rcases C7 h with⟨i,t,rfl,rfl⟩|⟨x,t,rfl,rfl⟩<;>rfl
 pyHash:=λd h=>by
  rcases C7 d with⟨i,t,rfl,rfl⟩|⟨x,t,rfl,rfl⟩
  .exact wpAny_pyHash_int h
  .exact wpAny_pyHash_str h
 eqBool:=λl d h=>by
  rcases C7 l with⟨i,t,rfl,rfl⟩|⟨x,t,rfl,rfl⟩
  .rcases C7 d with⟨j,u,rfl,rfl⟩|⟨y,u,rfl,rfl⟩
   .rw[sk]at h;exact wpAny_eqBool_int h
   .rw[gq]at h;exact aGo i t y u _ _ _ _ h
  .rcases C7 d with⟨j,u,rfl,rfl⟩|⟨y,u,rfl,rfl⟩
   .rw[gk]at h;exact aGp x t j u _ _ _ _ h
   .rw[cx]at h;exact wpAny_eqBool_str h
 «strs»:=λk x t v h=>by
  rcases C7 h with⟨i,u,rfl,e⟩|⟨y,u,rfl,e⟩
  .exact nomatch e
  .injection e with c _;subst c;cases v<;>rfl
def dj (prog:be)(w:cq)(k:AT)(v:au):(yE prog w).is k v=QE k v:=rfl
inductive V where
 |non|bl (b:Bool)|int (i:Int)|str (x:Str)|byt (b:Array UInt8)|flt (b:UInt64)|ref (a:Addr)|ty (n:String)
 deriving DecidableEq
def RelV:V->au->Prop
 |.non,u=>u=Value.none
 |.bl b,u=>u=aDy b
 |.int i,u=>∃t,u=aGJ i t
 |.str x,u=>∃t,u=Value.str x t
 |.byt b,u=>∃t,u=Value.bytes b t
 |.flt b,u=>∃t,u=Value.float b t
 |.ref a,u=>u=aDu a
 |.ty n,u=>u=aCr n
abbrev n8:List V->List au->Prop:=Paired RelV
def n8.length {xs:List V}{a:List au}(r:n8 xs a):xs.length=a.length:=Paired.length r
theorem n8.get:∀{xs:List V} {a:List au} {i:Nat} {x:V},n8 xs a->xs[i]?=some x->∃u,a[i]?=some u/\RelV x u
 |_,_,_,_,.nil,e=>by simp at e
 |_,_,0,_,.cons r _,e=>by simp at e;subst e;exact⟨_,rfl,r⟩
 |_,_,i+1,x,.cons _ t,e=>by obtain⟨u,b,c⟩:=n8.get (i:=i) (x:=x) t (by simpa using e);exact⟨u,by simpa using b,c⟩
theorem n8.set (r:RelV x u):∀{xs:List V} {a:List au} (i:Nat),n8 xs a->n8 (xs.set i x) (a.set i u)
 |_,_,_,.nil=>.nil
 |_,_,0,.cons _ t=>.cons r t
 |_,_,i+1,.cons q t=>.cons q (n8.set r i t)
theorem n8.append:∀{xs a:List V} {b ws:List au},n8 xs b->n8 a ws->n8 (xs++a) (b++ws)
 |_,_,_,_,.nil,s=>s
 |_,_,_,_,.cons r t,s=>.cons r (n8.append t s)
theorem n8.take:∀{xs:List V} {a:List au} (n:Nat),n8 xs a->n8 (xs.take n) (a.take n)
 |_,_,0,_=>.nil
 |_,_,_+1,.nil=>.nil
 |_,_,n+1,.cons r t=>.cons r (n8.take n t)
theorem n8.drop:∀{xs:List V} {a:List au} (n:Nat),n8 xs a->n8 (xs.drop n) (a.drop n)
 |_,_,0,r=>r
 |_,_,_+1,.nil=>.nil
 |_,_,n+1,.cons _ t=>n8.drop n t
def yx:Option V->Option au->Prop
 |some v,some u=>RelV v u
 |none,none=>True
 |_,_=>False
def KV {κ:Type}:List (κ×V)->List (κ×au)->Prop:=Paired λ(p:κ×V) (q:κ×au)=>p.1=q.1/\RelV p.2 q.2
def kV:AT->V
 |.inl i=>.int i
 |.inr x=>.str x
inductive HO where
 |lst (xs:List V)
 |tup (xs:List V)
 |dK (U:List (AT×V))|dT (U:List (List AT×V))
 |set (S:Int->Bool) (n:Nat)
 |ins (C dx:Addr) (fs:List (Str×V))
 |own (x:Addr)
 |xd (fs:List (Str×V))
 |met (f x:Addr)
 |rng (lo hi:Int)
 |frz (o:Obj) (u:HO)
 |tbl (tb:List (Pos×Str))
 |ext (φ:Heap->Prop)
abbrev Hp:=bb->Option HO
def upd (H:Hp)(a:bb)(o:HO):Hp:=λb=>if b=a then some o else H b
def j7:upd H a o a=some o:=by unfold upd;rw[i6 rfl]
def m8 (h:b≠a):upd H a o b=H b:=by unfold upd;rw[ja h]
def u7 {H:Hp}{a b:bb}{o:HO}(h:H a=some o)(h':H b=none):a≠b:=by intro e;subst e;rw[h]at h';cases h'
section
variable(P:be) (w:cq)
def ObjOk (H:Hp)(h:cv)(a:bb):HO->Prop
 |.lst d=>d.length<=sizeLine/\∃(b:List au) (n:Nat),n8 d b/\h.get? a=some {cls:=.type "list",data:=.seq b.toArray n}
 |.tup d=>d.length<=sizeLine/\∃b:List au,n8 d b/\IsTup h a b.toArray
 |.dK U=>U.length<=sizeLine/\(a==gW)=false/\∃g,KV U g/\h.DictOf (yE P w) a g
 |.dT U=>U.length<=sizeLine/\(a==gW)=false/\∃d:List (List AT×bb×au),
  Paired (λ(p:List AT×V) (q:List AT×bb×au)=>p.1=q.1/\H q.2.1=some (.tup (p.1.map kV))/\RelV p.2 q.2.2) U d/\
  ∃o m z,h.get? a=some o/\o.ExactDict/\o.data=.dict m z/\m.toList=d.map (entryOfKey<|tupleKind<|yE P w)/\(d.map (·.1)).Nodup
 |.set S n=>h.SetOf (intKind P w) a S n
 |.ins C k fs=>H k=some (.own a)/\fs.length<=1000/\k≠a/\h.get? a=some (PySem.W.instObj C k)/\
  ∃e,h.Ns1 k e/\(∀f,yx (fs.lookup f) (e f))/\PySem.Within e (fs.map (·.1))
 |.own _=>∃o,h.get? a=some o
 |.xd fs=>∃e,h.Ns1 a e/\∀f,yx (fs.lookup f) (e f)
 |.rng lo A=>∃t u v,h.get? a=some {cls:=.type "range",data:=.fields #[.int lo t,.int A u,.int 1 v]}
 |.frz o u=>h.get? a=some o/\ObjOk H h a u
 |.tbl B=>∃l:Array au,h.get? a=some {cls:=.none,data:=.fields l}/\TriplesOk l.toList/\∀p∈B,eZ p.1 l.toList=none\/∃c r g t,eZ p.1 l.toList=some (.ref c)/\H c=some (.frz r (.own c))/\r.data=.fields g/\g[1]?=some (.str p.2 t)
 |.met f x=>h.get? a=some (PySem.W.methodObj (.ref f)<|.ref x)
 |.ext φ=>φ h/\(∃o,h.get? a=some o)/\∀s y:cv,φ s->(∀o,s.get? a=some o->y.get? a=some o)->φ y
def YK:HO->Prop
 |.tup _=>True
 |.frz o _=>∃a,o.data=.fields a
 |_=>False
def gQ (H:Hp)(h:cv):Prop:=∀a o,H a=some o->ObjOk P w H h a o
end
section
variable{P:be} {w:cq} {H H':Hp} {h h':cv} {a:bb} {o:HO}
def ObjOk.lt (x:ObjOk P w H h a o):a<h.objs.size:=by
 cases o with
 |lst b=>obtain⟨_,_,_,_,e⟩:=x;exact aAh e
 |tup b=>obtain⟨_,_,_,p⟩:=x;exact p.lt
 |dK U=>obtain⟨_,_,_,_,o,_,_,e,_⟩:=x;exact aAh e
 |dT U=>obtain⟨_,_,_,_,o,_,_,e,_⟩:=x;exact aAh e
 |set S n=>obtain⟨o,_,_,_,e,_⟩:=x;exact aAh e
 |ins C c fs=>obtain⟨_,_,_,e,_⟩:=x;exact aAh e
 |own y=>obtain⟨_,e⟩:=x;exact aAh e
 |xd fs=>obtain⟨_,⟨_,_,_,e,_⟩,_⟩:=x;exact aAh e
 |rng lo d=>obtain⟨_,_,_,e⟩:=x;exact aAh e
 |frz g u=>obtain⟨e,_⟩:=x;exact aAh e
 |tbl k=>obtain⟨_,e,_⟩:=x;exact aAh e
 |met f y=>exact aAh (show h.get? a=some _ from x)
 |ext φ=>obtain⟨_,⟨_,e⟩,_⟩:=x;exact aAh e
theorem Paired.af7 {α β:Type}{F G:α->β->Prop}:∀{l₁:List α} {l₂:List β},Paired F l₁ l₂->(∀a b,F a b->G a b)->Paired G l₁ l₂
 |_,_,.nil,_=>.nil
 |_,_,.cons r t,f=>.cons (f _ _ r) (Paired.af7 t f)
def ObjOk.ab7 (x:ObjOk P w H h a o)(k:∀b u,(b=a\/H b=some (.own a))->h.get? b=some u->h'.get? b=some u)
  (O:∀b,H b=some (.own a)->H' b=some (.own a)) (L:∀b u,YK u->H b=some u->H' b=some u):ObjOk P w H' h' a o:=by
 induction o with
 |lst B=>obtain⟨z,s,n,r,e⟩:=x;exact⟨z,s,n,r,k _ _ (.inl rfl) e⟩
 |tup B=>obtain⟨z,s,r,g,e,c⟩:=x;exact⟨z,s,r,g,k _ _ (.inl rfl) e,c⟩
 |dK U=>obtain⟨z,y,A,r,g,l,m,e,c⟩:=x;exact⟨z,y,A,r,g,l,m,k _ _ (.inl rfl) e,c⟩
 |dT U=>obtain⟨z,y,B,r,g,l,m,e,c⟩:=x;exact⟨z,y,B,Paired.af7 r λp q z=>⟨z.1,L _ _ trivial z.2.1,z.2.2⟩,g,l,m,k _ _ (.inl rfl) e,c⟩
 |set S n=>obtain⟨g,l,m,t,e,c⟩:=x;exact⟨g,l,m,t,k _ _ (.inl rfl) e,c⟩
 |ins C dx fs=>obtain⟨d,z,ne,e,E,⟨I,l,m,J,c⟩,r⟩:=x;exact⟨O _ d,z,ne,k _ _ (.inl rfl) e,E,⟨I,l,m,k _ _ (.inr d) J,c⟩,r⟩
 |own y=>obtain⟨g,e⟩:=x;exact⟨g,k _ _ (.inl rfl) e⟩
 |xd fs=>obtain⟨E,⟨I,l,m,e,c⟩,r⟩:=x;exact⟨E,⟨I,l,m,k _ _ (.inl rfl) e,c⟩,r⟩
 |rng lo hi=>obtain⟨t,u,v,e⟩:=x;exact⟨t,u,v,k _ _ (.inl rfl) e⟩
 |frz g u Q=>obtain⟨e,q⟩:=x;exact⟨k _ _ (.inl rfl) e,Q q⟩
 |tbl tb=>obtain⟨T,e,t,f⟩:=x;exact⟨T,k a _ (.inl rfl) e,t,λp Y=>(f p Y).imp id λ⟨c,oc,A,t,e1,J,N⟩=>⟨c,oc,A,t,e1,L _ _ ⟨A,N.1⟩ J,N⟩⟩
 |met f y=>have e:h.get? a=some (PySem.W.methodObj (.ref f)<|.ref y):=x;show h'.get? a=some (PySem.W.methodObj (.ref f)<|.ref y);exact k a _ (.inl rfl) e
 |ext φ=>obtain⟨p,⟨o,e⟩,st⟩:=x;exact⟨st _ _ p λo q=>k _ _ (.inl rfl) q,⟨o,k _ _ (.inl rfl) e⟩,st⟩
def gQ.lt (x:gQ P w H h)(e:H a=some o):a<h.objs.size:=(x a o e).lt
def gQ.fresh (x:gQ P w H h)(e:h.objs.size<=a):H a=none:=by
 cases q:H a with
 |none=>rfl
 |some u=>exact absurd (aAv (x.lt q) e) (aBo _)
def gQ.kept (x:gQ P w H h)(k:∀b u,h.get? b=some u->h'.get? b=some u):gQ P w H h':=λa o e=>(x a o e).ab7 (λb u _ q=>k b u q) (λ_ q=>q) λ_ _ _ q=>q
def gQ.laid (x:gQ P w H h)(k:∀b u,h.get? b=some u->h'.get? b=some u)(l:h.objs.size<=a)(d:ObjOk P w (upd H a o) h' a o):gQ P w (upd H a o) h':=λb u e=>by
 have f:=x.fresh l;by_cases g:b=a
 .subst g;rw[j7]at e;cases e;exact d
 .rw[m8 g]at e;exact(x b u e).ab7 (λc v _ q=>k c v q) (λc q=>by rw[m8 (u7 q f)];exact q) λc m _ q=>by rw[m8 (u7 q f)];exact q
end
def Rd (H:Hp)(a:bb)(u:HO):Prop:=H a=some u\/∃o,H a=some (.frz o u)
def Rd.ok (r:Rd H a u)(x:gQ P w H h):ObjOk P w H h a u:=by
 rcases r with r|⟨o,r⟩
 .exact x a u r
 .obtain⟨_,q⟩:=x a _ r;exact q
def Mut:Option HO->Prop
 |some (.lst _)=>True
 |some (.dK _)=>True
 |some (.dT _)=>True
 |some (.set _ _)=>True
 |some (.ins _ _ _)=>True
 |some (.ext _)=>True
 |_=>False
section
variable{P:be} {w:cq} {H:Hp} {h h':cv} {x e:bb} {o':HO}
def gQ.write (ok:gQ P w H h)(g:Mut (H x))(s:e=x\/H e=some (.own x))(k:∀b u,b≠e->h.get? b=some u->h'.get? b=some u)(o:∃u,h'.get? e=some u)
  (p:ObjOk P w (upd H x o') h' x o'):gQ P w (upd H x o') h':=λb u q=>by
 have a:∀c y,H c=some (.own y)->c≠x:=λc y r z=>by subst z;rw[r]at g;exact g
 have d:∀c u,YK u->H c=some u->c≠x:=λc u f r z=>by subst z;rw[r]at g;cases u<;>first|exact g|exact f
 by_cases l:b=x
 .subst l;rw[j7]at q;cases q;exact p
 .rw[m8 l]at q;by_cases m:b=e
  .have t:H b=some (.own x):=by
    rcases s with z|z
    .exact absurd (m.trans z) l
    .rw[m];exact z
   rw[q]at t;cases t;obtain⟨v,A⟩:=o;exact⟨v,by rw[m];exact A⟩
  .refine(ok b u q).ab7 (λc v n r=>k c v ?_ r) (λc r=>by rw[m8 (a c b r)];exact r) λc B f r=>by rw[m8 (d c B f r)];exact r
   rcases n with rfl|n
   .exact m
   .rintro rfl;rcases s with z|z
    .exact a c b n z
    .rw[n]at z;cases z;exact l rfl
end
structure Un (fs ex:List Addr)(H H':Hp)(h h':Heap):Prop where
 keep:∀b o,h.get? b=some o->H b=none->b∉fs->b∉ex->h'.get? b=some o
 slot:∀b o,h.get? b=some o->H b=none->b∈fs->b∉ex->∃sl,h'.get? b=some {o with slots:=sl}
 free:∀b o,h.get? b=some o->H b=none->b∉ex->H' b=none
 there:∀b o,h.get? b=some o->b∉ex->∃o',h'.get? b=some o'
 tups:∀b xs,H b=some (.tup xs)->H' b=some (.tup xs)
 frzs:∀b o u,H b=some (.frz o u)->H' b=some (.frz o u)
 tbls:∀b tb,H b=some (.tbl tb)->H' b=some (.tbl tb)
section
variable{fs xu ex ex':List bb} {H H1 H2:Hp} {h h1 h2 h':cv} {a x e:bb} {o:HO}
def Un.any (u:Un fs ex H H1 h h1)(q:h.get? b=some c)(n:H b=none)(d:b∉ex):∃sl,h1.get? b=some {c with slots:=sl}:=by
 by_cases f:b∈fs
 .exact u.slot b c q n f d
 .exact⟨c.slots,u.keep b c q n f d⟩
def Un.kept (k:∀b u,h.get? b=some u->h'.get? b=some u):Un fs ex H H h h':=
 ⟨λb c q _ _ _=>k b c q,λb c q _ _ _=>⟨c.slots,k b c q⟩,λ_ _ _ n _=>n,λb c q _=>⟨c,k b c q⟩,λ_ _ q=>q,λ_ _ _ q=>q,λ_ _ q=>q⟩
def Un.refl:Un fs ex H H h h:=Un.kept λ_ _ q=>q
def Un.laid (k:∀b u,h.get? b=some u->h'.get? b=some u)(d:h.objs.size<=a)(c:H a=none):Un fs ex H (upd H a o) h h' where
 keep:=λb u q _ _ _=>k b u q
 slot:=λb u q _ _ _=>⟨u.slots,k b u q⟩
 free:=λb u q n _=>by rw[m8 (aAm<|aAv (aAh q) d)];exact n
 there:=λb u q _=>⟨u,k b u q⟩
 tups:=λb f q=>by rw[m8 (u7 q c)];exact q
 frzs:=λb u f q=>by rw[m8 (u7 q c)];exact q
 tbls:=λb g q=>by rw[m8 (u7 q c)];exact q
def Un.write (c:Mut (H x))(p:e=x\/H e=some (.own x))(k:∀b u,b≠e->h.get? b=some u->h'.get? b=some u)(d:∃u,h'.get? e=some u):Un fs ex H (upd H x o) h h':=by
 have g:∀b,H b=none->b≠x:=λb n z=>by subst z;rw[n]at c;exact c
 have l:∀b,H b=none->b≠e:=λb n z=>by
  subst z;rcases p with r|r
  .exact g b n r
  .rw[n]at r;cases r
 have f:∀b u,H b=some u->¬Mut (some u)->b≠x:=λb u q s z=>by subst z;rw[q]at c;exact s c
 refine⟨λb u q n _ _=>k b u (l b n) q,λb u q n _ _=>⟨u.slots,k b u (l b n) q⟩,λb u q n _=>by rw[m8 (g b n)];exact n,λb u q _=>?_,
  λb t q=>by rw[m8 (f b _ q λz=>z)];exact q,λb u t q=>by rw[m8 (f b _ q λz=>z)];exact q,λb v q=>by rw[m8 (f b _ q λz=>z)];exact q⟩
 by_cases m:b=e
 .subst m;exact d
 .exact⟨u,k b u m q⟩
end
def trk (h:cv)(H:Hp):List bb:=(aAQ h.objs.size).filter λa=>(H a).isSome
def sM (h:cv)(H:Hp):cv:=PySem.W.hideAll h (trk h H)
def KE (h:cv)(H:Hp):(sM h H).objs.size=h.objs.size:=PySem.W.hideAll_size _ _
def SB (e:h.get? b=some o)(n:H b=none):(sM h H).get? b=some o:=
 PySem.W.hideAll_get _ e λa=>by have q:(H b).isSome=true:=(aCa.mp a).2;rw[n]at q;simp at q
def VH (e:(sM h H).get? b=some o):h.get? b=some o/\H b=none:=by
 have a:h.get? b=some o:=PySem.W.of_hideAll (trk h H) e;refine⟨a,?_⟩;cases q:H b with
 |none=>rfl
 |some x=>have c:b∈trk h H:=aCa.mpr ⟨aBP.mpr (aAh a),by simp[q]⟩;have z:(sM h H).get? b=none:=PySem.W.hideAll_none (trk h H) c;rw[z]at e;cases e
def WQ (g h:cv)(L:bb):List (bb×Obj):=(aAQ h.objs.size).filterMap λa=>if a=L\/(g.get? a).isSome=true then none else(h.get? a).map λo=>(a,o)
def rest (g h:cv)(L d:bb):List (bb×Obj):=(WQ g h L).filter λp=>decide (p.1≠d)
structure Mod (K:PySem.W.Frag)(mg:fL)(base:Heap):Prop where
 kin:K.In base
 glob:base.Ns mainGlobals mg
 blt:∃mb,base.Ns builtinsNs mb/\∀x:Str,x≠ "__name__"->mb x=bootBuiltins x
 nolimit:base.NoLimit
structure Cx where
 prog:Program
 w:World
 K:PySem.W.Frag
 mg:Str->Option Value
 base:Heap
 A:Around
 N:List Str
 s9:Shared
 H9:Hp
 env:Env
 outer:List Env
 stack:List Env
 ex:List Addr
 fn:Str->Bool
 calm:Bool
 pn:List (Addr×Obj)
 xe:Value->Shared->Prop
def BB (l:List Env):List bb:=l.filterMap (·.frame)
abbrev Cx.fs (X:Cx):List bb:=BB X.outer
def BZ (sc:i4)(x:Str):Prop:=sc.names.lookup x=some .local\/sc.names.lookup x=some .cell\/sc.names.lookup x=some .free
def Loc (sc:i4)(x:Str):Prop:=sc.names.lookup x=some .local\/sc.names.lookup x=some .cell
def Look (env:Env)(h:cv)(m:fL)(x:Str)(u:au):Prop:=
 (env.kindOf x=some .local/\m x=some u)\/((env.kindOf x=some .cell\/env.kindOf x=some .free)/\∃c,env.cells.lookup x=some c/\h.IsCell c (some u))
structure Cx.Ok (X:Cx):Prop where
 mod:Mod X.K X.mg X.base
 kind:X.env.scope.kind=.function
 glob:X.env.globals=mainGlobals
 blt:X.env.builtins=builtinsNs
 above:X.s9.heap.objs.size<=X.env.locals
 inj:∀x y c,X.env.cells.lookup x=some c->X.env.cells.lookup y=some c->x=y
 has:∀x,(X.env.kindOf x=some .cell\/X.env.kindOf x=some .free)->∃c,X.env.cells.lookup x=some c
 cab:∀x c,X.fn x=true->X.env.cells.lookup x=some c->X.s9.heap.objs.size<=c
 hd:X.calm=true->X.A.handled=none
 frames:X.A.frames=some X.stack
 stk:X.stack=X.outer\/(X.stack=X.env::X.outer/\X.env.frame=some X.env.locals)
 exf:∀b∈X.ex,b≠X.env.locals/\∀x c,X.env.cells.lookup x=some c->c≠b
 bs:∀b o,X.base.get? b=some o->X.s9.heap.get? b=some o/\X.H9 b=none
 bsz:X.base.objs.size<=X.s9.heap.objs.size
 noex:∀b o,X.base.get? b=some o->b∉X.ex
 exfs:∀b∈X.ex,b∉X.fs
 funs:X.s9.heap.FunFrames X.base X.outer
 frf:∀b∈X.fs,X.H9 b=none
structure Inv (X:Cx)(Y:Q6)(σ:List (Option V))(H:Hp)(s:Shared):Prop where
 ok:X.Ok
 os:s.os=X.s9.os
 bare:AllBare s.gens
 base:Un X.fs X.ex X.H9 H X.s9.heap s.heap
 loc:∃m,s.heap.Ns X.env.locals m/\∀(i:Nat) (x:Str) (v:V),X.N[i]?=some x->σ[i]?=some (some v)->BZ X.env.scope x->∃u,RelV v u/\Look X.env s.heap m x u
 cell:∀x c,X.env.cells.lookup x=some c->∃v,s.heap.IsCell c v
 free:H X.env.locals=none
 freeC:∀x c,X.env.cells.lookup x=some c->H c=none
 pin:∀p∈X.pn++Y,s.heap.get? p.1=some p.2/\H p.1=none/\p.1≠X.env.locals/\p.1∉X.fs/\∀v,p.2.data≠.cell v
 hok:gQ X.prog X.w H s.heap
 len:σ.length=X.N.length
section
variable{X:Cx} {Y:Q6} {σ:List (Option V)} {H H':Hp} {s:a9} {h':cv}
def Cx.Ok.nofr (ok:X.Ok)(e:X.base.get? b=some o):b∉X.fs:=λa=>by have:=(ok.funs.mem a).1;rw[e]at this;cases this
def Inv.bs (I:Inv X Y σ H s):∀b o,X.base.get? b=some o->s.heap.get? b=some o/\H b=none:=λb o e=>⟨I.base.keep b o (I.ok.bs b o e).1 (I.ok.bs b o e).2 (I.ok.nofr e) (I.ok.noex b o e),I.base.free b o (I.ok.bs b o e).1 (I.ok.bs b o e).2 (I.ok.noex b o e)⟩
def Inv.bk (I:Inv X Y σ H s):∀b o,X.base.get? b=some o->s.heap.get? b=some o:=λb o e=>(I.bs b o e).1
def Inv.mod (I:Inv X Y σ H s):Mod X.K X.mg X.base:=I.ok.mod
def Inv.kIn (I:Inv X Y σ H s):X.K.In s.heap:=I.ok.mod.kin.keeps I.bk
def Inv.lt (I:Inv X Y σ H s):X.env.locals<s.heap.objs.size:=let⟨_,a,_⟩:=I.loc;a.lt
def Inv.sz (I:Inv X Y σ H s):X.s9.heap.objs.size<=s.heap.objs.size:=aAr I.ok.above (aDt I.lt)
def Inv.ag1 (I:Inv X Y σ H s)(h:s.heap.objs.size<=a):a∉X.fs:=λb=>by obtain⟨_,o,c,_⟩:=I.ok.funs.mem b;exact absurd (aAv (aAh c)<|aAr I.sz h) (aBo _)
def Inv.cne (I:Inv X Y σ H s):∀x c,X.env.cells.lookup x=some c->c≠X.env.locals:=λx c e z=>by obtain⟨v,o,a,b⟩:=I.cell x c e;obtain⟨m,⟨g,h,k,d,f,_⟩,_⟩:=I.loc;rw[z,d]at a;cases a;rw[f]at b;cases b
def Inv.funs (I:Inv X Y σ H s):s.heap.FunFrames X.base X.outer:=by
 have all:∀(l:List Env),(∀b∈BB l,b∈X.fs)->X.s9.heap.FunFrames X.base l->s.heap.FunFrames X.base l:=by
  intro l;induction l with
  |nil=>intro _ _;trivial
  |cons g r h=>intro f k;obtain⟨m,⟨L,o,a,n,p,q⟩,t⟩:=k;have c:L∈X.fs:=f L (by unfold BB;rw[aCG,a];exact aAW);obtain⟨u,e⟩:=I.base.slot L o p (I.ok.frf L c) c λz=>I.ok.exfs L z c;exact⟨m,⟨L,_,a,n,e,q⟩,h (λb d=>f b (by unfold BB;rw[aCG,a];exact aAg _ d)) t⟩
 exact all X.outer (λ_ d=>d) I.ok.funs
def Inv.stack (I:Inv X Y σ H s):s.heap.FunFrames X.base X.stack:=by
 rcases I.ok.stk with e|⟨e,a⟩
 .rw[e];exact I.funs
 .rw[e];obtain⟨m,b,_⟩:=I.loc;refine .cons (by rw[I.ok.kind];decide) a b ?_ I.funs;exact aEy (aAr I.ok.bsz I.ok.above)
def Inv.ab5 (I:Inv X Y σ H s):∀b∈BB X.stack,b∈X.env.locals::X.fs:=λb a=>by
 rcases I.ok.stk with e|⟨e,c⟩
 .rw[e]at a;exact aAg _ a
 .rw[e]at a;unfold BB at a;rw[aCG,c]at a;exact a
def Inv.ad5 (I:Inv X Y σ H s):∀b∈BB X.stack,H b=none:=λb a=>by
 rcases aAe.mp (I.ab5 b a)with e|a
 .rw[e];exact I.free
 .obtain⟨_,o,c,_⟩:=I.ok.funs.mem a;exact I.base.free b o c (I.ok.frf b a) λz=>I.ok.exfs b z a
def Inv.step {g':Array GenState}{t':Nat}{d':Drawn}{ch:List bb}(I:Inv X Y σ H s)
  (J:∀b∈ch,(b∈X.ex\/X.s9.heap.objs.size<=b)/\b≠X.env.locals/\(∀x c,X.env.cells.lookup x=some c->c≠b)/\∀p∈X.pn++Y,p.1≠b)
  (g:∀b o,b≠X.env.locals->b∉X.fs->b∉ch->s.heap.get? b=some o->H b=none->h'.get? b=some o)
  (slot:∀b o,b≠X.env.locals->b∈X.fs->b∉ch->s.heap.get? b=some o->H b=none->∃sl,h'.get? b=some {o with slots:=sl}) (f:∀b o,b∉ch->s.heap.get? b=some o->H b=none->H' b=none)
  (A:∀b o,b∉ch->s.heap.get? b=some o->∃L,h'.get? b=some L)
  (N:∀b xs,H b=some (.tup xs)->H' b=some (.tup xs)) (O:∀b o u,H b=some (.frz o u)->H' b=some (.frz o u)) (Q:∀b tb,H b=some (.tbl tb)->H' b=some (.tbl tb))
  (ns:∀m,s.heap.Ns X.env.locals m->h'.Ns X.env.locals m) (U:gQ X.prog X.w H' h') (hg:AllBare g'):
  Inv X Y σ H' {s with heap:=h',gens:=g',drawn:=d',toks:=t'}:=by
 have T:∀b o,X.s9.heap.get? b=some o->b≠X.env.locals:=λb o e=>aAm (aAv (aAh e) I.ok.above);have y:∀b o,X.s9.heap.get? b=some o->b∉X.ex->b∉ch:=λb o e a B=>by
  rcases(J b B).1 with z|z
  .exact a z
  .exact absurd (aAv (aAh e) z) (aBo _)
 have h:∀x c,X.env.cells.lookup x=some c->∀v,s.heap.IsCell c v->h'.IsCell c v:=λx c e v ⟨o,E,hd⟩=>by
  have t:c∉ch:=λz=>(J c z).2.2.1 x c e rfl;by_cases hc:c∈X.fs
  .obtain⟨sl,q⟩:=slot c o (I.cne x c e) hc t E (I.freeC x c e);exact⟨_,q,hd⟩
  .exact⟨o,g c o (I.cne x c e) hc t E (I.freeC x c e),hd⟩
 refine⟨I.ok,I.os,hg,⟨λb o e n B a=>?_,λb o e n B a=>?_,λb o e n a=>?_,λb o e a=>?_,λb xs e=>N b xs (I.base.tups b xs e),λb o xs e=>O b o xs (I.base.frzs b o xs e),λb ps e=>?_⟩,?_,λx c e=>?_,?_,λx c e=>?_,λp hp=>?_,U,I.len⟩
 .exact g b o (T b o e) B (y b o e a) (I.base.keep b o e n B a) (I.base.free b o e n a)
 .obtain⟨sl,C⟩:=I.base.slot b o e n B a;obtain⟨sl',e2⟩:=slot b _ (T b o e) B (y b o e a) C (I.base.free b o e n a);exact⟨sl',e2⟩
 .obtain⟨L,C⟩:=I.base.there b o e a;exact f b L (y b o e a) C (I.base.free b o e n a)
 .obtain⟨L,C⟩:=I.base.there b o e a;exact A b L (y b o e a) C
 .exact Q b ps (I.base.tbls b ps e)
 .obtain⟨m,hn,hl⟩:=I.loc;refine⟨m,ns m hn,λi x v C e2 e3=>?_⟩;obtain⟨u,r,l⟩:=hl i x v C e2 e3;refine⟨u,r,?_⟩;rcases l with l|⟨k,c,e,z⟩
  .exact .inl l
  .exact .inr ⟨k,c,e,h x c e _ z⟩
 .obtain⟨v,z⟩:=I.cell x c e;exact⟨v,h x c e v z⟩
 .obtain⟨m,⟨o,_,_,E,_⟩,_⟩:=I.loc;exact f _ o (λz=>(J _ z).2.1 rfl) E I.free
 .obtain⟨v,o,E,hd⟩:=I.cell x c e;exact f c o (λz=>(J c z).2.2.1 x c e rfl) E (I.freeC x c e)
 .obtain⟨e,n,ne,nf,d⟩:=I.pin p hp;have t:p.1∉ch:=λz=>(J p.1 z).2.2.2 p hp rfl;exact⟨g p.1 p.2 ne nf t e n,f p.1 p.2 t e n,ne,nf,d⟩
def Inv.un {t':Nat}(I:Inv X Y σ H s)(u:Un X.fs [] H H' s.heap h')(a:gQ X.prog X.w H' h'):Inv X Y σ H' {s with heap:=h',toks:=t'}:=by
 obtain⟨m,⟨o,q,t,g,r⟩,_⟩:=id I.loc;obtain⟨v,k⟩:=u.any g I.free (by simp);exact I.step (g':=s.gens) (d':=s.drawn) (ch:=[]) (λ_ z=>nomatch z) (λb o _ c _ e n=>u.keep b o e n c (by simp)) (λb o _ c _ e n=>u.slot b o e n c (by simp)) (λb o _ e n=>u.free b o e n (by simp)) (λb o _ e=>u.there b o e (by simp)) u.tups u.frzs u.tbls (λx l=>by obtain⟨y,d,f,h,p⟩:=l;rw[g]at h;cases h;exact⟨_,d,f,k,p⟩) a I.bare
def Inv.call {g':Array GenState}{t':Nat}{d':Drawn}{ch:List bb}(I:Inv X Y σ H s)(u:Un (BB X.stack) ch H H' s.heap h')(d:gQ X.prog X.w H' h')(t:AllBare g')
  (k:∀b∈ch,(b∈X.ex\/X.s9.heap.objs.size<=b)/\b≠X.env.locals/\(∀x c,X.env.cells.lookup x=some c->c≠b)/\∀p∈X.pn++Y,p.1≠b):
  Inv X Y σ H' {s with heap:=h',gens:=g',drawn:=d',toks:=t'}:=by
 obtain⟨m,⟨o,B,C,l,r⟩,_⟩:=id I.loc;obtain⟨E,f⟩:=u.any l I.free λz=>(k _ z).2.1 rfl;exact I.step (ch:=ch) k (λb o f v a e n=>u.keep b o e n (λz=>(aAe.mp<|I.ab5 b z).elim f v) a) (λb o _ _ a e n=>u.any e n a) (λb o a e n=>u.free b o e n a) (λb o a e=>u.there b o e a) u.tups u.frzs u.tbls (λJ y=>by obtain⟨L,g,h,q,A⟩:=y;rw[l]at q;cases q;exact⟨_,g,h,f,A⟩) d t
def Inv.turned {t':Nat}{it:bb}(I:Inv X Y σ H s)(k:∀b o,b≠it->s.heap.get? b=some o->h'.get? b=some o)(g:H it=none)(f:it≠X.env.locals)
  (h:it∈X.ex\/X.s9.heap.objs.size<=it) (l:∀x c,X.env.cells.lookup x=some c->c≠it) (t:∀p∈X.pn++Y,p.1≠it):Inv X Y σ H {s with heap:=h',toks:=t'}:=by
 have d:∀b u,H b=some u->b≠it:=λb u e z=>by rw[z,g]at e;cases e
 refine I.step (g':=s.gens) (d':=s.drawn) (ch:=[it]) (λb w=>?_) (λb o _ _ a e _=>k b o (λz=>a (by simp[z])) e) (λb o _ _ a e _=>⟨o.slots,k b o (λz=>a (by simp[z])) e⟩) (λ_ _ _ _ n=>n)
  (λb o a e=>⟨o,k b o (λz=>a (by simp[z])) e⟩) (λ_ _ e=>e) (λ_ _ _ e=>e) (λ_ _ e=>e) (λm y=>?_) (λb u e=>?_) I.bare
 .have e:b=it:=by simpa using w
  subst e;exact⟨h,f,l,t⟩
 .obtain⟨o,A,B,C,r⟩:=y;exact⟨o,A,B,k _ o (aCi f) C,r⟩
 .refine(I.hok b u e).ab7 (λc v a q=>k c v ?_ q) (λ_ q=>q) λ_ _ _ q=>q;rcases a with z|z
  .rw[z];exact d b u e
  .exact d c _ z
def Inv.tok (I:Inv X Y σ H s)(t:Nat):Inv X Y σ H {s with toks:=t}:=I.un (h':=s.heap) (t':=t) Un.refl I.hok
def Inv.kept (I:Inv X Y σ H s)(k:∀b u,s.heap.get? b=some u->h'.get? b=some u):Inv X Y σ H {s with heap:=h',toks:=t'}:=I.un (Un.kept k) (I.hok.kept k)
def Inv.laid (I:Inv X Y σ H s)(k:∀b u,s.heap.get? b=some u->h'.get? b=some u)(c:s.heap.objs.size<=a)(d:ObjOk X.prog X.w (upd H a o) h' a o):
 Inv X Y σ (upd H a o) {s with heap:=h',toks:=t'}:=I.un (Un.laid k c<|I.hok.fresh c) (I.hok.laid k c d)
def Inv.write (I:Inv X Y σ H s)(d:Mut (H x))(f:e=x\/H e=some (.own x))(k:∀b u,b≠e->s.heap.get? b=some u->h'.get? b=some u)(a:∃u,h'.get? e=some u)(c:ObjOk X.prog X.w (upd H x o) h' x o):Inv X Y σ (upd H x o) {s with heap:=h',toks:=t'}:=I.un (Un.write d f k a) (I.hok.write d f k a c)
def Inv.ad4 (I:Inv X Y σ H s)(h:∀p∈a,s.heap.get? p.1=some p.2/\H p.1=none/\p.1≠X.env.locals/\p.1∉X.fs/\∀v,p.2.data≠.cell v):Inv X a σ H s:=
 ⟨I.ok,I.os,I.bare,I.base,I.loc,I.cell,I.free,I.freeC,λp b=>(aAL.mp b).elim (λz=>I.pin p (aBf _ z)) (h p),I.hok,I.len⟩
def AF {N:List Str}(c:N.Nodup){i j:Nat}{x:Str}(a:N[i]?=some x)(b:N[j]?=some x):i=j:=by obtain⟨f,d⟩:=aAy.mp a;obtain⟨g,e⟩:=aAy.mp b;exact(aFC c).mp (d.trans e.symm)
def uD {M:Model}{A:cp}{E:F5}{i:Nat}{x:Str}{v:V}{u:au}{Q:Unit->a9->Prop}(I:Inv X Y σ H s)(hN:X.N.Nodup)(U:X.N[i]?=some x)(B:Loc X.env.scope x)(r:RelV v u)
  (h:∀s',Inv X Y (σ.set i (some v)) H s'->(∃a,Heap.SameBut a s.heap s'.heap/\(a=X.env.locals\/X.env.cells.lookup x=some a))->Q () s') (hf:X.fn x=true\/X.env.scope.names.lookup x=some .local:=by first|exact .inl rfl|exact .inr rfl|assumption):av M A (storeName X.env x u) Q E s:=by
 obtain⟨m,hn,hl⟩:=id I.loc;have hcls:(X.env.scope.kind==.class||(X.env.scope.kind==.module&&X.env.locals !=X.env.globals))=false:=by rw[I.ok.kind];rfl
 have J:i<σ.length:=by rw[I.len];exact(aAy.mp U).1
 have cne:=I.cne;have g:∀{a:bb} {h':cv},(∃o,s.heap.get? a=some o/\H a=none)->Heap.SameBut a s.heap h'->gQ X.prog X.w H h':=λ{a h'} ha f b ob e=>by
  obtain⟨_,_,jr⟩:=ha;refine(I.hok b ob e).ab7 (λc w' t q=>(f.2 c ?_).trans q) (λ_ q=>q) λ_ _ _ q=>q;rintro rfl;rcases t with rfl|t
  .rw[jr]at e;cases e
  .rw[jr]at t;cases t
 rcases B with L|L
 .refine wpAny_storeName_local L hn (λh' hn' f=>?_) hcls;obtain⟨oL,_,_,hoL,_⟩:=id hn;refine h _ ⟨I.ok,I.os,I.bare,⟨λb o e n O B=>?_,λb o e n O B=>?_,I.base.free,λb o e B=>?_,I.base.tups,I.base.frzs,I.base.tbls⟩,⟨_,hn',λj y v' l C e3=>?_⟩,λy c e=>?_,I.free,I.freeC,λp hp=>?_,g ⟨oL,hoL,I.free⟩ f,by simpa using I.len⟩ ⟨_,f,.inl rfl⟩
  .exact(f.2 b (aAm<|aAv (aAh e) I.ok.above)).trans (I.base.keep b o e n O B)
  .obtain⟨sl,l⟩:=I.base.slot b o e n O B;exact⟨sl,(f.2 b (aAm<|aAv (aAh e) I.ok.above)).trans l⟩
  .obtain⟨o',l⟩:=I.base.there b o e B;exact⟨o',(f.2 b (aAm<|aAv (aAh e) I.ok.above)).trans l⟩
  .by_cases T:j=i
   .subst T;rw[U]at l;cases l;rw[aBL J]at C;cases C;exact⟨u,r,.inl ⟨L,by simp⟩⟩
   .rw[aCw (aCi T)]at C;obtain⟨u',r',q⟩:=hl j y v' l C e3;refine⟨u',r',?_⟩;rcases q with⟨k,e⟩|⟨k,c,e,z⟩
    .refine .inl ⟨k,?_⟩;have:y≠x:=λe=>T (AF hN l<|e▸U);simp[this,e]
    .exact .inr ⟨k,c,e,z.sameBut f (cne y c e)⟩
  .obtain⟨w',z⟩:=I.cell y c e;exact⟨w',z.sameBut f (cne y c e)⟩
  .obtain⟨e,n,ne,nf,d⟩:=I.pin p hp;exact⟨(f.2 p.1 ne).trans e,n,ne,nf,d⟩
 .have ya:X.fn x=true:=by
   rcases hf with z|z
   .exact z
   .rw[z]at L;cases L
  obtain⟨c,t⟩:=I.ok.has x (.inl L);obtain⟨w',z⟩:=I.cell x c t;refine wpAny_storeName_cell I.ok.kind L t z (λh' yb f=>?_);obtain⟨oc,bp,hocd⟩:=id z;refine h {s with heap:=h'} ⟨I.ok,I.os,I.bare,⟨λb o e n O B=>?_,λb o e n O B=>?_,I.base.free,λb o e B=>?_,I.base.tups,I.base.frzs,I.base.tbls⟩,⟨m,hn.sameBut f (aCi<|cne x c t),λj y v' l C e3=>?_⟩,λy c' e=>?_,I.free,I.freeC,λp hp=>?_,g ⟨oc,bp,I.freeC x c t⟩ f,by simpa using I.len⟩ ⟨c,f,.inr t⟩
  .exact(f.2 b (aAm<|aAv (aAh e)<|I.ok.cab x c ya t)).trans (I.base.keep b o e n O B)
  .obtain⟨sl,l⟩:=I.base.slot b o e n O B;exact⟨sl,(f.2 b (aAm<|aAv (aAh e)<|I.ok.cab x c ya t)).trans l⟩
  .obtain⟨o',l⟩:=I.base.there b o e B;exact⟨o',(f.2 b (aAm<|aAv (aAh e)<|I.ok.cab x c ya t)).trans l⟩
  .by_cases T:j=i
   .subst T;rw[U]at l;cases l;rw[aBL J]at C;cases C;exact⟨u,r,.inr ⟨.inl L,c,t,yb⟩⟩
   .rw[aCw (aCi T)]at C;obtain⟨u',r',q⟩:=hl j y v' l C e3;refine⟨u',r',?_⟩;rcases q with q|⟨k,c',e,z'⟩
    .exact .inl q
    .refine .inr ⟨k,c',e,z'.sameBut f ?_⟩;rintro rfl;exact T (AF hN l<|I.ok.inj _ _ _ e t▸U)
  .by_cases hcc:c'=c
   .subst hcc;exact⟨_,yb⟩
   .obtain⟨w2,z2⟩:=I.cell y c' e;exact⟨w2,z2.sameBut f hcc⟩
  .obtain⟨e,n,ne,nf,d⟩:=I.pin p hp;refine⟨(f.2 p.1 ?_).trans e,n,ne,nf,d⟩;intro q;rw[q,bp]at e;have q':oc=p.2:=aAl e;exact d w' (by rw[<-q'];exact hocd)
def U8 {E:F5}{Q:Unit->a9->Prop}(I:Inv X Y σ H s)(a:X.N.Nodup)(b:X.N[i]?=some x)(c:Loc X.env.scope x)(r:RelV v u)(h:∀s',Inv X Y (σ.set i (some v)) H s'->Q () s')(d:X.fn x=true\/X.env.scope.names.lookup x=some .local:=by first|exact .inl rfl|exact .inr rfl|assumption):av M A (storeName X.env x u) Q E s:=
 uD I a b c r (λs' e _=>h s' e) d
def Inv.ag0 (I:Inv X Y σ H s)(d:s'.os=s.os)(u:Un (BB X.stack) ch H H' s.heap s'.heap)(a:gQ X.prog X.w H' s'.heap)(f:AllBare s'.gens)(g:∀b∈ch,(b∈X.ex\/X.s9.heap.objs.size<=b)/\b≠X.env.locals/\(∀x c,X.env.cells.lookup x=some c->c≠b)/\∀p∈X.pn++Y,p.1≠b):Inv X Y σ H' s':=by obtain⟨h',g',d',t',h⟩:=s';have e:h=s.os:=d;subst e;exact I.call (g':=g') (t':=t') (d':=d') u a f g
end
abbrev XK:=au->Option bb->Hp->Prop
abbrev St:=List (Option V)
abbrev VK:=V->Hp->Prop
abbrev TE:=St->Hp->VK->Prop
abbrev TT:=St->Hp->(Bool->Hp->Prop)->Prop
abbrev TA:=St->Hp->(List V->Hp->Prop)->Prop
structure Ends where
 nx:St->Hp->Prop
 rt:VK
 bk:St->Hp->Prop:=λ_ _=>False
 ct:St->Hp->Prop:=λ_ _=>False
abbrev TS:=Ends->St->Hp->Prop
def EP (X:Cx)(Y:Q6)(σ:St)(Q:VK)(u:au)(s':a9):Prop:=∃v a,Inv X Y σ a s'/\RelV v u/\Q v a
def TP (X:Cx)(Y:Q6)(σ:St)(Q:Bool->Hp->Prop)(b:Bool)(s':a9):Prop:=∃a,Inv X Y σ a s'/\Q b a
def AP (X:Cx)(Y:Q6)(σ:St)(Q:List V->Hp->Prop)(c:List au)(s':a9):Prop:=∃a b,Inv X Y σ b s'/\n8 a c/\Q a b
def SP (X:Cx)(Y:Q6)(D:Ends)(f:Flow)(s':a9):Prop:=
 match f with
 |.next=>∃b a,Inv X Y b a s'/\D.nx b a
 |.brk=>∃b a,Inv X Y b a s'/\D.bk b a
 |.cont=>∃b a,Inv X Y b a s'/\D.ct b a
 |.ret u=>∃v b a,Inv X Y b a s'/\RelV v u/\D.rt v a
def PE (X:Cx)(e:df)(t:TE):Prop:=
 ∀(Y:Q6) (s:a9) (σ:St) (H:Hp) (Q:VK),Inv X Y σ H s->t σ H Q->av (bc X.prog X.w) X.A (dC e X.env) (EP X Y σ Q) X.xe s
def PT (X:Cx)(e:df)(t:TT):Prop:=
 ∀(Y:Q6) (s:a9) (σ:St) (H:Hp) (Q:Bool->Hp->Prop),Inv X Y σ H s->t σ H Q->av (bc X.prog X.w) X.A (isTrue e X.env<|dC e X.env) (TP X Y σ Q) X.xe s
def PW (X:Cx)(e:df)(t:TT):Prop:=
 ∀(a:Sem au) (Y:Q6) (s:a9) (σ:St) (H:Hp) (Q:Bool->Hp->Prop),Inv X Y σ H s->t σ H Q->av (bc X.prog X.w) X.A (isTrue e X.env a) (TP X Y σ Q) X.xe s
def PW.pt (h:PW X e t):PT X e t:=h _
def PA (X:Cx)(es:List df)(t:TA):Prop:=
 ∀(a:Pos) (Y:Q6) (s:a9) (σ:St) (H:Hp) (Q:List V->Hp->Prop),Inv X Y σ H s->t σ H Q->av (bc X.prog X.w) X.A (spliced<|dq a<|a5 es X.env) (AP X Y σ Q) X.xe s
def PS (X:Cx)(st:dm)(t:TS):Prop:=
 ∀(Y:Q6) (s:a9) (σ:St) (H:Hp) (D:Ends),Inv X Y σ H s->t D σ H->av (bc X.prog X.w) X.A (exec st X.env) (SP X Y D) X.xe s
def xQ (X:Cx)(st:List dm)(t:TS):Prop:=
 ∀(Y:Q6) (s:a9) (σ:St) (H:Hp) (D:Ends),Inv X Y σ H s->t D σ H->av (bc X.prog X.w) X.A (execs st X.env) (SP X Y D) X.xe s
def F6 {α:Type}{t:Sem α}{Q b:α->a9->Prop}{M:Model}{A:cp}{E:F5}{s:a9}(h:av M A t Q E s)(c:∀a s,Q a s->b a s):av M A t b E s:=aCE h c λ_ _ x=>x
section
variable{X:Cx}
def a0b (i:Nat):TE:=λσ H Q=>∃v,σ[i]?=some (some v)/\Q v H
def tC (v:V):TE:=λ_ H Q=>Q v H
def R7 (k:X.N[i]?=some x)(n:BZ X.env.scope x)(d:(x==kc)=false:=by decide)(o:(x==kd)=false:=by decide):PE X (.Name x p) (a0b i):=by
 intro Y s σ H Q I h;obtain⟨v,e,h⟩:=h;obtain⟨m,q,t⟩:=I.loc;obtain⟨u,r,l⟩:=t i x v k e n;have a:EP X Y σ Q u s:=⟨v,H,I,r,h⟩;rcases l with⟨b,w⟩|⟨b,c,f,g⟩
 .exact wpAny_Name (wpAny_loadName_local I.ok.kind b q w a) d
 .rcases b with b|b
  .exact wpAny_Name (wpAny_loadName_cell I.ok.kind b f g a) d
  .exact wpAny_Name (wpAny_loadName_free I.ok.kind b f g a o) d
def jx {i j a}:PE X (.Constant (.int i) j a) (tC (.int i)):=λ_ _ _ H _ I h=>wpAny_Constant_int ⟨.int i,H,I.tok _,⟨_,rfl⟩,h⟩
def xq {b j a}:PE X (.Constant (.bool b) j a) (tC (.bl b)):=λ_ _ _ H _ I h=>Constant_bool ⟨.bl b,H,I,rfl,h⟩
def ZI {j a}:PE X (.Constant .none j a) (tC .non):=λ_ _ _ H _ I h=>Constant_none ⟨.non,H,I,rfl,h⟩
def Gl (X:Cx)(x:Str):Prop:=X.env.kindOf x=some .globalImplicit
def wY {E:F5}{Q:F5}(I:Inv X Y σ H s)(a:Gl X x)(b:X.mg x=some u)(h:Q u s)(c:(x==kc)=false:=by decide):av (bc X.prog X.w) X.A (dC (.Name x d) X.env) Q E s:=
 Calls.Name_function_global I.ok.kind a (Calls.loadGlobal_global (by rw[I.ok.glob];exact I.mod.glob.keeps I.bk) b h) c
def M6 {E:F5}{Q:F5}(I:Inv X Y σ H s)(a:Gl X x)(b:X.mg x=none)(c:cy x=some u)(h:Q u s)(d:x≠ "__name__":=by decide)(e:(x==kc)=false:=by decide):av (bc X.prog X.w) X.A (dC (.Name x f) X.env) Q E s:=by obtain⟨l,g,k⟩:=I.mod.blt;exact Calls.Name_function_global I.ok.kind a (Calls.loadGlobal_builtin (by rw[I.ok.glob];exact I.mod.glob.keeps I.bk) b (by rw[I.ok.blt];exact g.keeps I.bk) ((k x d).trans c) h) e
def WI (a:Gl X x)(b:X.mg x=some u)(r:RelV v u)(c:(x==kc)=false:=by decide):PE X (.Name x d) (tC v):=
 λ_ _ _ H _ I h=>wY I a b ⟨v,H,I,r,h⟩ c
def UB (a:Gl X x)(b:X.mg x=none)(c:cy x=some u)(r:RelV v u)(d:x≠ "__name__":=by decide)(e:(x==kc)=false:=by decide):PE X (.Name x f) (tC v):=
 λ_ _ _ H _ I h=>M6 I a b c ⟨v,H,I,r,h⟩ d e
variable{a b:df} {ta tb:TE} {pos:Pos}
def tB (t:TE):TT:=λσ H Q=>t σ H λx d=>∃c,x=.bl c/\Q c d
def gx {e:df}{t:TE}(h:PE X e t)(c:∀whole,isTrue e X.env whole=(do let v<-whole;standAt e.pos;fo [v] (truthy v)):=by intro _;rfl):PT X e (tB t):=by intro Y s σ H Q I f;refine isTrue_plain (F6 (h Y s σ H _ I f) λv n ⟨x,g,k,l,m⟩=>?_) (c _);obtain⟨d,rfl,q⟩:=m;cases l;exact aBO ⟨g,k,q⟩
variable{tA tB':TT} {rest:List df}
def a3d (t u:TT):TT:=λσ H Q=>t σ H λc d=>if c=true then u σ d Q else Q false d
def tOr (t u:TT):TT:=λσ H Q=>t σ H λc d=>if c=true then Q true d else u σ d Q
def VJ (d:PT X a tA):PW X (.BoolOp .And [a] pos) tA:=by
 intro f Y s σ H Q I h;refine isTrue_and (F6 (d Y s σ H Q I h) λc g e=>?_);cases c with
 |true=>exact isTrue_and_nil e
 |false=>exact e
def oz (d:PT X a tA):PW X (.BoolOp .Or [a] pos) tA:=by
 intro f Y s σ H Q I h;refine isTrue_or (F6 (d Y s σ H Q I h) λc g e=>?_);cases c with
 |false=>exact isTrue_or_nil e
 |true=>exact e
def nk (g:PT X a tA)(k:PW X (.BoolOp .And (b::rest) pos) tB'):PW X (.BoolOp .And (a::b::rest) pos) (a3d tA tB'):=by
 intro l Y s σ H Q I h;refine isTrue_and (F6 (g Y s σ H _ I h) λc m ⟨d,e,f⟩=>?_);cases c with
 |true=>exact k l Y m σ d Q e f
 |false=>exact⟨d,e,f⟩
def a1e (g:PT X a tA)(k:PW X (.BoolOp .Or (b::rest) pos) tB'):PW X (.BoolOp .Or (a::b::rest) pos) (tOr tA tB'):=by
 intro l Y s σ H Q I h;refine isTrue_or (F6 (g Y s σ H _ I h) λc m ⟨d,e,f⟩=>?_);cases c with
 |true=>exact⟨d,e,f⟩
 |false=>exact k l Y m σ d Q e f
def a0k (ta tb:TE):TE:=λσ H Q=>ta σ H λx d=>∃c,x=.bl c/\if c=true then tb σ d Q else Q (.bl false) d
def rj {op}(h:PE X a t):PE X (.BoolOp op [a] pos) t:=λY s σ H Q I c=>BoolOp_one (h Y s σ H Q I c)
def sj (g:PE X a ta)(k:PE X (.BoolOp .And (b::rest) pos) tb):PE X (.BoolOp .And (a::b::rest) pos) (a0k ta tb):=by
 intro Y s σ H Q I h;refine BoolOp_and (F6 (g Y s σ H _ I h) λv l ⟨x,e,f,m,d⟩=>?_);obtain⟨c,rfl,d⟩:=d;cases m;refine aBO ?_;cases c with
 |true=>exact k Y l σ e Q f d
 |false=>exact⟨.bl false,e,f,rfl,d⟩
end
def P9 (K:ka)(H:Hp)(a:bb)(xs:List V):Prop:=
 Rd H a (.lst xs)\/
  ∃(o:Obj) (b:Array au) (n:Nat),K.lookup a=some o/\o.cls=.type "list"/\o.dict=none/\o.data=.seq b n/\b.size<=sizeLine/\n8 xs b.toList
def Z6 (K:ka)(H:Hp)(a:bb)(xs:List V):Prop:=
 Rd H a (.tup xs)\/
  ∃(o:Obj) (b:Array au) (n:Nat),K.lookup a=some o/\o.cls=.type "tuple"/\o.data=.seq b n/\b.size<=sizeLine/\n8 xs b.toList
def a3m:au->Option V
 |.none=>some .non
 |.bool b=>some (.bl b)
 |.int i _=>some (.int i)
 |.str x _=>some (.str x)
 |.bytes b _=>some (.byt b)
 |.float b _=>some (.flt b)
 |.ref a=>some (.ref a)
 |.type n=>some (.ty n)
 |_=>none
def RelV.abs (r:RelV x u):a3m u=some x:=by
 cases x with
 |non=>cases r;rfl
 |bl _=>cases r;rfl
 |int _=>obtain⟨t,rfl⟩:=r;rfl
 |str _=>obtain⟨t,rfl⟩:=r;rfl
 |byt _=>obtain⟨t,rfl⟩:=r;rfl
 |flt _=>obtain⟨t,rfl⟩:=r;rfl
 |ref _=>cases r;rfl
 |ty _=>cases r;rfl
def RelV.inj {x y:V}{u:au}(r:RelV x u)(q:RelV y u):x=y:=aAl (r.abs.symm.trans q.abs)
theorem n8.inj:∀{xs a:List V} {b:List au},n8 xs b->n8 a b->xs=a
 |_,_,_,.nil,.nil=>rfl
 |_,_,_,.cons r t,.cons c d=>by rw[r.inj c,n8.inj t d]
section
variable{X:Cx} {Y:Q6} {σ:St} {H:Hp} {s:a9} {a:bb} {xs ys:List V}
def P9.of {K:ka}(h:H a=some (.lst xs)):P9 K H a xs:=.inl (.inl h)
def Z6.of {K:ka}(h:H a=some (.tup xs)):Z6 K H a xs:=.inl (.inl h)
def Inv.list (I:Inv X Y σ H s)(h:P9 X.K H a xs):∃its:List au,n8 xs its/\PlainL s.heap a its.toArray/\xs.length<=sizeLine:=by
 rcases h with h|⟨o,its,n,b,c,d,f,g,r⟩
 .obtain⟨z,its,n,r,e⟩:=h.ok I.hok;exact⟨its,r,⟨_,n,e,rfl,rfl,rfl⟩,z⟩
 .refine⟨its.toList,r,⟨o,n,I.kIn a o b,c,d,by simpa using f⟩,?_⟩;have e:=r.length;simp only[aBl]at e
  lia
def Inv.tuple (I:Inv X Y σ H s)(h:Z6 X.K H a xs):∃its:List au,n8 xs its/\IsTup s.heap a its.toArray/\xs.length<=sizeLine:=by
 rcases h with h|⟨o,its,n,b,c,d,f,r⟩
 .obtain⟨z,its,r,p⟩:=h.ok I.hok;exact⟨its,r,p,z⟩
 .refine⟨its.toList,r,⟨o,I.kIn a o b,c,n,by simpa using d⟩,?_⟩;have e:=r.length;simp only[aBl]at e
  lia
def Inv.ab2 (I:Inv X Y σ H s)(h:P9 X.K H a xs)(h':P9 X.K H a ys):xs=ys:=by
 obtain⟨c,r,⟨o,n,e,_,_,d⟩,_⟩:=I.list h;obtain⟨b,k,⟨m,p,f,_,_,g⟩,_⟩:=I.list h';rw[e]at f;cases f;rw[d]at g;injection g with l _;have:c=b:=by simpa using jk aFO l
 subst this;exact r.inj k
def Inv.ab6 (I:Inv X Y σ H s)(h:Z6 X.K H a xs)(h':Z6 X.K H a ys):xs=ys:=by
 obtain⟨c,r,⟨o,e,_,n,d⟩,_⟩:=I.tuple h;obtain⟨b,k,⟨m,f,_,p,g⟩,_⟩:=I.tuple h';rw[e]at f;cases f;rw[d]at g;injection g with l _;have:c=b:=by simpa using jk aFO l
 subst this;exact r.inj k
end
abbrev Cx.ac2 (X:Cx)(E:F5):Cx:={X with xe:=E}
abbrev Cx.nox (X:Cx):Cx:=X.ac2 λ_ _=>False
def Cx.Ok.ac2 {X:Cx}(ok:X.Ok)(E:F5):(X.ac2 E).Ok:=
 ⟨ok.mod,ok.kind,ok.glob,ok.blt,ok.above,ok.inj,ok.has,ok.cab,ok.hd,ok.frames,ok.stk,ok.exf,ok.bs,ok.bsz,ok.noex,ok.exfs,ok.funs,ok.frf⟩
def Cx.Ok.aa8 {X:Cx}{E:F5}(ok:(X.ac2 E).Ok):X.Ok:=
 ⟨ok.mod,ok.kind,ok.glob,ok.blt,ok.above,ok.inj,ok.has,ok.cab,ok.hd,ok.frames,ok.stk,ok.exf,ok.bs,ok.bsz,ok.noex,ok.exfs,ok.funs,ok.frf⟩
section
variable{X:Cx} {Y:Q6} {σ:St} {H:Hp} {s:a9} {E:F5}
def Inv.ac2 (I:Inv X Y σ H s)(E:F5):Inv (X.ac2 E) Y σ H s:=⟨I.ok.ac2 E,I.os,I.bare,I.base,I.loc,I.cell,I.free,I.freeC,I.pin,I.hok,I.len⟩
def Inv.aa8 (I:Inv (X.ac2 E) Y σ H s):Inv X Y σ H s:=⟨I.ok.aa8,I.os,I.bare,I.base,I.loc,I.cell,I.free,I.freeC,I.pin,I.hok,I.len⟩
def SP.aa8 (h:SP (X.ac2 E) Y D f s'):SP X Y D f s':=by
 cases f with
 |next=>obtain⟨a,b,I,q⟩:=h;exact⟨a,b,I.aa8,q⟩
 |brk=>obtain⟨a,b,I,q⟩:=h;exact⟨a,b,I.aa8,q⟩
 |cont=>obtain⟨a,b,I,q⟩:=h;exact⟨a,b,I.aa8,q⟩
 |ret u=>obtain⟨v,a,b,I,r,q⟩:=h;exact⟨v,a,b,I.aa8,r,q⟩
def xQ.nox {st:List dm}{t:TS}(h:xQ X.nox st t):xQ X st t:=λY s σ H D I a=>aCE (h Y s σ H D (I.ac2 _) a) (λ_ _ q=>q.aa8) λ_ _ z=>aAk z
end
section
variable{X:Cx} {st:dm} {rest:List dm} {t u:TS} {e:df} {te:TE} {pos:Pos}
def a0h:TS:=λD σ H=>D.nx σ H
def a2g (t u:TS):TS:=λD σ H=>t {D with nx:=u D} σ H
def VP:xQ X [] a0h:=λ_ _ σ H _ I h=>aEE ⟨σ,H,I,h⟩
def SG (a:PS X st t)(b:xQ X rest u):xQ X (st::rest) (a2g t u):=by
 intro Y s σ H D I h;refine aEs (F6 (a Y s σ H {D with nx:=u D} I h) λf c q=>?_);cases f with
 |next=>obtain⟨d,g,k,q⟩:=q;exact b Y c d g D k q
 |ret v=>exact q
 |brk=>exact q
 |cont=>exact q
def GW (a:PS X st t):xQ X [st] t:=by
 intro Y s σ H D I h;refine aEs (F6 (a Y s σ H D I h) λf b q=>?_);cases f with
 |next=>exact aEE q
 |ret v=>exact q
 |brk=>exact q
 |cont=>exact q
def Inv.quiet (I:Inv X Y σ H s):interactive X.env=false:=by simp[interactive,I.ok.kind]
def zk (te:TE):TS:=λD σ H=>te σ H λ_ a=>D.nx σ a
def oV (a:PE X e te)(b:eQ e none pos.line X.env=pure false:=by rfl):PS X (.Expr e pos) (zk te):=by intro Y s σ H D I h;exact wpAny_Expr_any (F6 (a Y s σ H _ I h) λv g ⟨x,c,d,k,f⟩=>⟨σ,c,d,f⟩) I.quiet b
def a2a (te:TE):TS:=λD σ H=>te σ H D.rt
def NH (a:PE X e te):PS X (.Return (some e) pos) (a2a te):=by intro Y s σ H D I h;exact wpAny_Return_some (F6 (a Y s σ H _ I h) λv g ⟨x,b,c,d,f⟩=>⟨x,σ,b,c,d,f⟩)
def a3b (c:TT)(t u:TS):TS:=λD σ H=>c σ H λb a=>if b=true then t D σ a else u D σ a
def xy {c:df}{a b:List dm}{f:TT}(n:PT X c f)(o:xQ X a t)(p:xQ X b u):PS X (.If c a b pos) (a3b f t u):=by
 intro Y s σ H D I h;refine wpAny_If (F6 (n Y s σ H _ I h) λd g ⟨k,l,m⟩=>?_);cases d with
 |true=>exact o Y g σ k D l m
 |false=>exact p Y g σ k D l m
def mz:TS:=λ_ _ _=>False
def RG:PS X st mz:=λ_ _ _ _ _ _ h=>h.elim
end
abbrev TG:=V->St->Hp->(St->Hp->Prop)->Prop
abbrev oj:=List V->St->Hp->(St->Hp->Prop)->Prop
def PG (X:Cx)(a:df)(t:TG):Prop:=
 ∀(Y:Q6) (s:a9) (σ:St) (H:Hp) (v:V) (u:au) (Q:St->Hp->Prop),Inv X Y σ H s->RelV v u->t v σ H Q->
  av (bc X.prog X.w) X.A (hV a X.env u) (λ_ d=>∃b c,Inv X Y b c d/\Q b c) X.xe s
def tx (X:Cx)(e:List df)(t:oj):Prop:=
 ∀(Y:Q6) (s:a9) (σ:St) (H:Hp) (a:List V) (b:List au) (Q:St->Hp->Prop),Inv X Y σ H s->n8 a b->t a σ H Q->
  av (bc X.prog X.w) X.A (assignInOrder ((ee e X.env).map (·.2)) b) (λ_ f=>∃c d,Inv X Y c d f/\Q c d) X.xe s
abbrev UZ:=V->V->V->Hp->(Hp->Prop)->Prop
def jq (X:Cx)(t:UZ):Prop:=
 ∀(Y:Q6) (s:a9) (σ:St) (H:Hp) (o i v:V) (a b u:au) (Q:Hp->Prop),Inv X Y σ H s->RelV o a->RelV i b->RelV v u->t o i v H Q->
  av (bc X.prog X.w) X.A (setItem a b u) (λ_ d=>∃c,Inv X Y σ c d/\Q c) X.xe s
section
variable{X:Cx} {pos:Pos}
def ZF (i:Nat):TG:=λv σ H Q=>Q (σ.set i<|some v) H
def UV (a:X.N.Nodup)(b:X.N[i]?=some x)(c:Loc X.env.scope x)(d:X.fn x=true\/X.env.scope.names.lookup x=some .local:=by first|exact .inl rfl|exact .inr rfl|assumption):PG X (.Name x pos) (ZF i):=by intro Y s σ H v u Q I r h;exact wpAny_assign_Name (U8 I a b c r (λf e=>⟨_,H,e,h⟩) d)
def a2y:oj:=λa σ H Q=>a=[]/\Q σ H
def a0s (t:TG)(u:oj):oj:=λa σ H Q=>∃v r,a=v::r/\t v σ H λb c=>u r b c Q
def VF:tx X [] a2y:=by intro Y s σ H a b Q I r h;obtain⟨e,h⟩:=h;subst e;cases r;exact assignInOrder_nil ⟨σ,H,I,h⟩
def PR {e:df}{es:List df}{t:TG}{u:oj}(b:PG X e t)(c:tx X es u)
  (d:(ee (e::es) X.env).map (·.2)=hV e X.env::(ee es X.env).map (·.2):=by rfl):tx X (e::es) (a0s t u):=by
 intro Y s σ H o p Q I r h;obtain⟨v,q,f,h⟩:=h;subst f;cases r with
 |cons r g=>rw[d];refine aFa (F6 (b Y s σ H _ _ _ I r h) λ_ k ⟨a,l,m,n⟩=>?_);exact c Y k a l _ _ Q m g n
def a2k (a b:TE)(t:UZ):TG:=λv σ H Q=>a σ H λo c=>b σ c λi d=>t o i v d λe=>Q σ e
def NC {o i:df}{c d:TE}{t:UZ}(e:PE X o c)(f:PE X i d)(g:jq X t)
  (k:∀v,hV (.Subscript o i pos) X.env v=(do
   let a<-fo [v] (dC o X.env)
   let b<-fo [v,a] (dC i X.env)
   standAt pos
   fo [v,a,b] (setItem a b v)
   release [v,a,b] []):=by intro _;rfl):PG X (.Subscript o i pos) (a2k c d t):=by
 intro Y s σ H v u Q I r h;rw[k];refine aAa (aAN<|F6 (e Y s σ H _ I h) λa l ⟨x,m,n,p,q⟩=>?_);refine aAa (aAN<|F6 (f Y l σ m _ n q) λb w ⟨y,z,A,B,C⟩=>?_);refine aAa (aEz<|aAa<|aAN<|F6 (g Y w σ z x y v a b u _ A p B r C) λ_ N ⟨E,J,L⟩=>?_);exact wpAny_release ⟨σ,E,J,L⟩
def xk (a:TE)(g:TG):TS:=λD σ H=>a σ H λx b=>g x σ b D.nx
def FG {a e:df}{b:TE}{g:TG}(c:PE X e b)(d:PG X a g)(f:gn [a] e pos.line X.env=pure false:=by rfl)(k:gr [a] e X.env=pure none:=by rfl)
  (l:(ee [a] X.env).map (·.2)=[hV a X.env]:=by rfl):PS X (.Assign [a] e pos) (xk b g):=by
 intro Y s σ H D I h;refine wpAny_Assign_stores (F6 (c Y s σ H _ I h) λv m ⟨x,n,o,p,r⟩=>?_) f k;rw[l];exact F6 (d Y m σ n x v _ o p r) λ_ t q=>q
def MN {i:Nat}{x:Str}{e:df}{b:TE}{a:Pos}(c:X.N.Nodup)(d:X.N[i]?=some x)(f:Loc X.env.scope x)(g:PE X e b)(k:eQ e (some (.Name x a)) pos.line X.env=pure false:=by rfl)(l:X.fn x=true\/X.env.scope.names.lookup x=some .local:=by first|exact .inl rfl|exact .inr rfl|assumption):
  PS X (.Assign [.Name x a] e pos) (xk b (ZF i)):=by
 intro Y s σ H D I h;refine aFn (F6 (g Y s σ H _ I h) λv r ⟨y,m,n,o,p⟩=>?_) k;exact U8 n c d f o (λt q=>⟨_,m,q,p⟩) l
def a3i (i j:Nat)(ta:TA):TS:=λD σ H=>ta σ H λa b=>∃v w,a=[v,w]/\D.nx ((σ.set i<|some v).set j (some w)) b
def ZS {i j:Nat}{x y:Str}{a b:df}{ta:TA}{g k pt:Pos}{l m HH}(J:X.calm=true)(u:X.N.Nodup)(L:X.N[i]?=some x)(O:X.N[j]?=some y)(Q:i≠j)
  (z:X.env.scope.names.lookup x=some .local) (B:X.env.scope.names.lookup y=some .local) (T:PA X [a,b] ta)
  (U:gr [.Tuple [.Name x g,.Name y k] l pt] (.Tuple [a,b] m HH) X.env=pure (some [x,y]))
  (hs:gn [.Tuple [.Name x g,.Name y k] l pt] (.Tuple [a,b] m HH) pos.line X.env=pure false:=by rfl):
  PS X (.Assign [.Tuple [.Name x g,.Name y k] l pt] (.Tuple [a,b] m HH) pos) (a3i i j ta):=by
 intro Y s σ H D I h;rw[exec_Assign_arm];refine aAa (aEz ?_);rw[hs];refine aAa (aAb ?_);rw[ja (by decide)];refine aAa (Tuple_<|F6 (T _ Y s σ H _ I h) λus c ⟨vs,C,I1,r1,n⟩=>?_);obtain⟨v,w,e1,n⟩:=n;subst e1;obtain⟨d,f,rfl,rv,r⟩:∃d f,us=[d,f]/\RelV v d/\RelV w f:=by
  cases r1 with
  |cons p q=>
   cases q with
   |cons p' q'=>cases q';exact⟨_,_,rfl,p,p'⟩
 refine aAX ?_ (by show 2<=sizeLine;decide);have I2:Inv X Y σ C {c with heap:=c.heap.push {cls:=.type "tuple",data:=.seq [d,f].toArray}}:=I1.kept (t':=c.toks) λb o e=>aAc _ e;rw[U];refine aAa (aAb ?_);show av (bc X.prog X.w) X.A (do rule "assign.swapped-stores";let items<-unpackItems (.ref c.heap.objs.size) 2 none;assignInOrder [λv=>bindName X.env y v,λv=>bindName X.env x v] items.reverse;pure Flow.next) _ _ _;refine aAa (aDx<|aAa<|unpackItems_tuple (items:=#[d,f]) (I.ok.hd J) (IsTup.new c.heap _) λh' t=>?_);have I3:=I2.kept (h':=h') (t':=c.toks) λb o e=>t b o (aAm<|aAh e) e;show av _ _ (assignInOrder [λv=>bindName X.env y v,λv=>bindName X.env x v] [f,d]>>=λ_=>pure Flow.next) _ _ _;refine aAa (aFa<|wpAny_bindName<|U8 I3 u O (.inl B) r (λs2 I4=>?_)<|.inr B);refine aFa (wpAny_bindName<|U8 I4 u L (.inl z) rv (λs3 E=>assignInOrder_nil (aAb ?_))<|.inr z);rw[List.set_comm _ _ (aCi Q)]at E;exact⟨_,C,E,n⟩
end
section
variable{X:Cx} {pos:Pos}
def ZX (c:TT)(tb:TS):TS:=λD σ H=>∃W:Nat->St->Hp->Prop,(∃m,W m σ H)/\∀m σ H,W m σ H->
 c σ H λb a=>if b=true then∃N:St->Hp->Prop,(∀d e,N d e->∃f,f<m/\W f d e)/\tb {D with nx:=N,ct:=N,bk:=D.nx} σ a else D.nx σ a
def MH {c:df}{body:List dm}{r:TT}{tb:TS}(t:PassesOwn (bc X.prog X.w) X.A X.env X.xe)(E:PT X c r)(J:xQ X body tb):PS X (.While c body [] pos) (ZX r tb):=by
 intro Y s σ H D I h;obtain⟨W,⟨L,O⟩,turn⟩:=h;refine wpAny_While (codeAny_whileLoop (λn Q=>∃u x,Inv X Y u x Q/\W n u x) ?_ L ⟨σ,H,I,O⟩);rintro n T ⟨a,y,U,w1⟩;refine aCS t (F6 (E Y T a y _ U<|turn n a y w1) λb s2 ⟨z,B,g⟩=>?_);cases b with
 |true=>
  obtain⟨N,C,g⟩:=g;rw[i6 rfl];refine aCS t (F6 (J Y s2 a z _ B g) λf s3 k=>?_);cases f with
  |next=>obtain⟨d,e,l,m⟩:=k;obtain⟨o,p,q⟩:=C d e m;exact⟨o,p,d,e,l,q⟩
  |cont=>obtain⟨d,e,l,m⟩:=k;obtain⟨o,p,q⟩:=C d e m;exact⟨o,p,d,e,l,q⟩
  |brk=>exact k
  |ret v=>exact k
 |false=>rw[ja aAY];exact aEE ⟨a,z,B,g⟩
end
structure It where
 go:Nat->Hp->Prop
 yld:Nat->Hp->V->Hp->Prop
 stop:Nat->Hp->Prop
def nT (X:Cx)(Y:Q6)(H:Hp)(b:bb):Prop:=
 H b=none/\b≠X.env.locals/\b∉X.fs/\(b∈X.ex\/X.s9.heap.objs.size<=b)/\(∀x c,X.env.cells.lookup x=some c->c≠b)/\∀p∈X.pn++Y,p.1≠b
def Inv.ae7 (I:Inv X Y σ H s)(a:s.heap.objs.size<=b)(d:H' b=none):nT X Y H' b:=by
 refine⟨d,aCA (aAv I.lt a),I.ag1 a,.inr (aAr I.sz a),λx c e z=>?_,λp f z=>?_⟩
 .obtain⟨v,q⟩:=I.cell x c e;exact absurd (aAv q.lt (by rw[z];exact a)) (aBo _)
 .exact absurd (aAv (aAh (I.pin p f).1) (by rw[z];exact a)) (aBo _)
structure Turn (P:Program)(w:World)(K:PySem.W.Frag)(tg:Expr)(J:It)(fp:List Addr)(it:Addr)(tn:Nat->Heap->Prop):Prop where
 mem:it∈fp
 obj:∀i h,tn i h->∀b∈fp,∃o,h.get? b=some o/\∀v,o.data≠.cell v
 keep:∀i h h',tn i h->(∀b∈fp,∀o,h.get? b=some o->h'.get? b=some o)->tn i h'
 item:∀(X:Cx),X.prog=P->X.w=w->X.K=K->X.calm=true->∀(i:Nat) (Y:Q6) (s:Shared) (σ:St) (H:Hp) (E:F5),Inv X Y σ H s->(∀b∈fp,nT X Y H b)->tn i s.heap->J.go i H->
  wpAny (model P w) X.A (pyNext (.ref it)) (λr s1=>∃u,r=some u/\
   wpAny (model P w) X.A (letOwnedTupleGo tg (.ref it) u) (λ_ s2=>∃x H',Inv X Y σ H' s2/\RelV x u/\J.yld i H x H'/\tn (i+1) s2.heap/\∀b∈fp,H' b=none) E s1) E s
 done:∀(X:Cx),X.prog=P->X.w=w->X.K=K->X.calm=true->∀(i:Nat) (Y:Q6) (s:Shared) (σ:St) (H:Hp) (E:F5),Inv X Y σ H s->(∀b∈fp,nT X Y H b)->tn i s.heap->J.stop i H->
  wpAny (model P w) X.A (pyNext (.ref it)) (λr s1=>r=none/\Inv X Y σ H s1) E s
 self:∀(A:Around) (i:Nat) (s:Shared) (Q:F5) (E:F5),tn i s.heap->Q (.ref it) s->wpAny (model P w) A (pyIter (.ref it)) Q E s
abbrev TI:=St->Hp->(It->Hp->Prop)->Prop
def PIE (X:Cx)(Y:Q6)(σ:St)(h:df)(R:It->Hp->Prop)(a:au)(d:a9):Prop:=
 ∃(e:bb) (f:List bb) (g:Nat->cv->Prop) (J:It) (c:Hp),a=.ref e/\Inv X Y σ c d/\Turn X.prog X.w X.K h J f e g/\g 0 d.heap/\(∀b∈f,nT X Y c b)/\R J c
def PI (X:Cx)(a iter:df)(b:TI):Prop:=
 ∀(Y:Q6) (s:a9) (σ:St) (H:Hp) (R:It->Hp->Prop),Inv X Y σ H s->b σ H R->
  av (bc X.prog X.w) X.A (dC iter X.env) (λv c=>av (bc X.prog X.w) X.A (pyIter v) (PIE X Y σ a R) X.xe c) X.xe s
def MX {E : au → a9 → Prop} {Q : Unit → a9 → Prop} (b : s.heap.get? it = some o) (c : o.cls = .type n) (d : o.data = .fields vs) (e : ["enumerate", "zip", "dict_itemiterator", "dict_reverseitemiterator", "odict_iterator", "itertools.zip_longest", "itertools.pairwise"].contains n = false) (a : Q () s) : av M A (letOwnedTupleGo f (.ref it) u) Q E s := by
  unfold letOwnedTupleGo;cases f <;> first
    | exact aAb a
    | (cases u <;> first
        | exact aAb a
        | (refine aAa (wpAny_load b ?_)
           rw [c, d];show av M A (if (["enumerate", "zip", "dict_itemiterator", "dict_reverseitemiterator", "odict_iterator", "itertools.zip_longest", "itertools.pairwise"].contains n && vs[0]? == some (d3 _)) = true then _ else _) Q E s;rw [ja (by intro h; rw [e, Bool.false_and] at h; cases h)];exact aAb a))
def Itl (K:ka)(a:bb):It:=
 ⟨λi H=>∃b x,P9 K H a b/\b[i]?=some x,λi H x c=>c=H/\∀b,P9 K H a b->b[i]?=some x,λi H=>∃b,P9 K H a b/\b.length<=i⟩
def Itt (K:ka)(a:bb):It:=
 ⟨λi H=>∃b x,Z6 K H a b/\b[i]?=some x,λi H x c=>c=H/\∀b,Z6 K H a b->b[i]?=some x,λi H=>∃b,Z6 K H a b/\b.length<=i⟩
def IY {P:be}{w:cq}{K:ka}{U:df}(a it:bb):Turn P w K U (Itl K a) [it] it (λi h=>h.IsListIter it a i)where
 mem:=by simp
 obj:=λi h st b f=>by
  have e:b=it:=by simpa using f
  subst e;obtain⟨o,e,c,d⟩:=st;exact⟨o,e,λv z=>by rw[d]at z;cases z⟩
 keep:=λi h l st k=>st.at λo e=>k it (by simp) o e
 item:=by intro X q r t T i Y s σ H E I m st y;subst q r t;obtain⟨xs,x,n,A⟩:=y;obtain⟨B,C,p,hz⟩:=I.list n;obtain⟨u,hu,ru⟩:=C.get A;obtain⟨J,L,f2,N,O,Q⟩:=m it (by simp);refine wpAny_pyNext_list_item st p.isList (x:=u) (by simpa using hu) λl g sb=>?_;have I1:Inv X Y σ H {s with heap:=l}:=I.turned (t':=s.toks) (λb o f e=>(sb.2 b f).trans e) J L N O Q;obtain⟨o,e,c,d⟩:=id g;exact⟨u,rfl,MX (s:={s with heap:=l}) e c d (by decide) ⟨x,H,I1,ru,⟨rfl,λys hy=>by rw[I.ab2 hy n];exact A⟩,g,λb f=>(m b f).1⟩⟩
 done:=by intro X q r t T i Y s σ H E I m st y;subst q r t;obtain⟨xs,n,A⟩:=y;obtain⟨B,C,p,hz⟩:=I.list n;obtain⟨J,L,f2,N,O,Q⟩:=m it (by simp);have hl:=C.length;exact wpAny_pyNext_list_end (I.ok.hd T) st p.isList (by simp;lia) λl eb=>⟨rfl,I.turned (t':=s.toks) (λb o f e=>eb b o f e) J L N O Q⟩
 self:=λ_ _ _ _ _ st h=>wpAny_pyIter_listiter st h
def FH {P:be}{w:cq}{K:ka}{U:df}(a it:bb):Turn P w K U (Itt K a) [it] it (λi h=>h.IsTupleIter it a i)where
 mem:=by simp
 obj:=λi h st b f=>by
  have e:b=it:=by simpa using f
  subst e;obtain⟨o,e,c,d⟩:=st;exact⟨o,e,λv z=>by rw[d]at z;cases z⟩
 keep:=λi h m st k=>st.at λo e=>k it (by simp) o e
 item:=by intro X r t y T i Y s σ H E I n st A;subst r t y;obtain⟨xs,x,q,B⟩:=A;obtain⟨g,C,p,hz⟩:=I.tuple q;obtain⟨u,hu,ru⟩:=C.get B;obtain⟨J,L,f2,N,O,Q⟩:=n it (by simp);refine wpAny_pyNext_tuple_item st (show s.heap.IsTuple a g.toArray from p) (x:=u) (by simpa using hu) λm l sb=>?_;have I1:Inv X Y σ H {s with heap:=m}:=I.turned (t':=s.toks) (λb o f e=>(sb.2 b f).trans e) J L N O Q;obtain⟨o,e,c,d⟩:=id l;exact⟨u,rfl,MX (s:={s with heap:=m}) e c d (by decide) ⟨x,H,I1,ru,⟨rfl,λys hy=>by rw[I.ab6 hy q];exact B⟩,l,λb f=>(n b f).1⟩⟩
 done:=by intro X r t y T i Y s σ H E I n st A;subst r t y;obtain⟨xs,q,B⟩:=A;obtain⟨g,C,p,hz⟩:=I.tuple q;obtain⟨J,L,f2,N,O,Q⟩:=n it (by simp);have hl:=C.length;exact wpAny_pyNext_tuple_end (I.ok.hd T) st (show s.heap.IsTuple a g.toArray from p) (by simp;lia) λm eb=>⟨rfl,I.turned (t':=s.toks) (λb o f e=>eb b o f e) J L N O Q⟩
 self:=λ_ _ _ _ _ st h=>wpAny_pyIter_tupleiter st h
section
variable{X:Cx} {tg:df}
def a1i (K:ka)(c:TE):TI:=λσ H R=>c σ H λx b=>∃a,x=.ref a/\(∃d,P9 K b a d)/\R (Itl K a) b
def a2b (K:ka)(c:TE):TI:=λσ H R=>c σ H λx b=>∃a,x=.ref a/\(∃d,Z6 K b a d)/\R (Itt K a) b
def VQ (f:PE X l g):PI X tg l (a1i X.K g):=by
 intro Y s σ H R I h;refine F6 (f Y s σ H _ I h) λv c ⟨x,k,d,m,n⟩=>?_;obtain⟨a,e,⟨w,r⟩,q⟩:=n;subst e;cases m;obtain⟨t,y,p,z⟩:=d.list r;refine aDz p.isList ?_;refine⟨c.heap.objs.size,[c.heap.objs.size],_,_,k,rfl,d.kept (t':=c.toks) λb o e=>aAc _ e,IY a _,⟨_,aAq _ rfl,rfl,rfl⟩,λb u=>?_,q⟩;have e:b=c.heap.objs.size:=by simpa using u
 subst e;exact d.ae7 (aAj _) (d.hok.fresh<|aAj _)
def lw {l:df}{g:TE}(k:PE X l g):PI X tg l (a2b X.K g):=by
 intro Y s σ H R I h;refine F6 (k Y s σ H _ I h) λv c ⟨x,m,d,n,r⟩=>?_;obtain⟨a,e,⟨w,t⟩,q⟩:=r;subst e;cases n;obtain⟨f,y,p,z⟩:=d.tuple t;refine wpAny_pyIter_tuple (show c.heap.IsTuple a f.toArray from p) ?_;refine⟨c.heap.objs.size,[c.heap.objs.size],_,_,m,rfl,d.kept (t':=c.toks) λb o e=>aAc _ e,FH a _,⟨_,aAq _ rfl,rfl,rfl⟩,λb u=>?_,q⟩;have e:b=c.heap.objs.size:=by simpa using u
 subst e;exact d.ae7 (aAj _) (d.hok.fresh<|aAj _)
def a2d (d:TI)(g:TG)(tb:TS):TS:=λD σ H=>d σ H λJ e=>∃W:Nat->Nat->St->Hp->Prop,(∃m,W 0 m σ e)/\∀i m σ H,W i m σ H->
 (J.stop i H/\D.nx σ H)\/(J.go i H/\∃N:St->Hp->Prop,(∀b a,N b a->∃c,c<m/\W (i+1) c b a)/\∀x a,J.yld i H x a->g x σ a λf h=>tb {D with nx:=N,ct:=N,bk:=D.nx} f h)
def oZ (a:List bb)(h:cv):List (bb×Obj):=a.filterMap λb=>(h.get? b).map λo=>(b,o)
def cS (a:b∈c)(e:h.get? b=some o):(b,o)∈oZ c h:=aBZ.mpr ⟨b,a,by rw[e];rfl⟩
def IZ (a:p∈oZ c h):p.1∈c/\h.get? p.1=some p.2:=by
 obtain⟨b,d,e⟩:=aBZ.mp a;cases q:h.get? b with
 |none=>rw[q]at e;cases e
 |some o=>rw[q]at e;have f:(b,o)=p:=aAl e;subst f;exact⟨d,q⟩
def Inv.pinned (I:Inv X Y σ H s)(g:∀b∈a,nT X Y H b)(h:∀b∈a,∃o,s.heap.get? b=some o/\∀v,o.data≠.cell v):Inv X (Y++oZ a s.heap) σ H s:=
 I.ad4 λp k=>(aAL.mp k).elim (λz=>I.pin p (aAC _ z)) λz=>by obtain⟨c,e⟩:=IZ z;obtain⟨l,m,n,_⟩:=g p.1 c;obtain⟨o,f,d⟩:=h p.1 c;rw[e]at f;cases f;exact⟨e,l,m,n,d⟩
def Inv.ab3 (I:Inv X (Y++b) σ H s):Inv X Y σ H s:=I.ad4 λp a=>I.pin p (aAC _<|aBf _ a)
def iq (z:PassesOwn (bc X.prog X.w) X.A X.env X.xe)(hc:X.calm=true)(hi:PI X tg iter wi)(hg:PG X tg g)(a:xQ X body tb)(hs:∀x,fh iter X.env x=pure x:=by intro _;rfl):PS X (.For tg iter body [] pos) (a2d wi g tb):=by
 intro Y s σ H D I h;refine wpAny_For (F6 (hi Y s σ H _ I h) λv s1 h1=>F6 h1 λitv s2 h2=>?_) hs;obtain⟨it,B,tn,J,H2,e,I2,T,ma,f2,W,⟨m0,w0⟩,turn⟩:=h2;subst e;have c:∀{q:Hp},(∀b∈B,q b=none)->∀b∈B,nT X Y q b:=λhn b a=>⟨hn b a,(f2 b a).2⟩;refine codeAny_forLoop_any (λn s'=>∃i C q,Inv X Y C q s'/\tn i s'.heap/\(∀b∈B,q b=none)/\W i n C q) ?_ m0 ⟨0,σ,H2,I2,ma,λb a=>(f2 b a).1,w0⟩;rintro n s3 ⟨i,E,U,I3,L,O,w3⟩;rcases turn i n E U w3 with⟨stop,qn⟩|⟨go,N,hN,step⟩
 .refine aCS z (F6 (T.done X rfl rfl rfl hc i Y s3 E U X.xe I3 (c O) L stop) λr s4 ⟨hr,I4⟩=>?_);subst hr;exact aEE ⟨E,U,I4,qn⟩
 .refine aCS z (F6 (T.item X rfl rfl rfl hc i Y s3 E U X.xe I3 (c O) L go) λr s4 ⟨u,hr,h4⟩=>?_);subst hr;refine aCS z (F6 h4 λ_ s5 ⟨x,H5,I5,r5,y5,y,fr5⟩=>?_);have I5':=I5.pinned (c fr5) (T.obj _ _ y);refine aCS z (F6 (hg _ s5 E H5 x u _ I5' r5<|step x H5 y5) λ_ s6 ⟨σ6,H6,I6,q6⟩=>?_);refine aCS z (F6 (a _ s6 σ6 H6 _ I6 q6) λf s7 t=>?_);have again:∀{k:St} {l:Hp},Inv X (Y++oZ B s5.heap) k l s7->N k l->∃m,m<n/\∃i C q,Inv X Y C q s7/\tn i s7.heap/\(∀b∈B,q b=none)/\W i m C q:=λ{k l} p Q=>by obtain⟨m',hm,w7⟩:=hN k l Q;refine⟨m',hm,i+1,k,l,p.ab3,T.keep _ _ _ y λb a o e=>(p.pin (b,o)<|aAC _<|aAC _<|cS a e).1,λb a=>?_,w7⟩;obtain⟨o,e,d⟩:=T.obj _ _ y b a;exact(p.pin (b,o)<|aAC _<|aAC _<|cS a e).2.1
  cases f with
  |next=>obtain⟨k,l,p,Q⟩:=t;exact again p Q
  |cont=>obtain⟨k,l,p,Q⟩:=t;exact again p Q
  |brk=>obtain⟨k,l,p,t⟩:=t;exact⟨k,l,p.ab3,t⟩
  |ret v=>obtain⟨x7,k,l,p,r7,t⟩:=t;exact⟨x7,k,l,p.ab3,r7,t⟩
end
abbrev R2:=V->V->Hp->VK->Prop
def nZ (X:Cx)(f:au->au->Sem au)(r:R2):Prop:=
 ∀(Y:Q6) (s:a9) (σ:St) (H:Hp) (x y:V) (v u:au) (Q:VK),Inv X Y σ H s->RelV x v->RelV y u->r x y H Q->
  av (bc X.prog X.w) X.A (f v u) (EP X Y σ Q) X.xe s
def UnR (X:Cx)(f:au->Sem au)(r:V->Hp->VK->Prop):Prop:=
 ∀(Y:Q6) (s:a9) (σ:St) (H:Hp) (x:V) (v:au) (Q:VK),Inv X Y σ H s->RelV x v->r x H Q->
  av (bc X.prog X.w) X.A (f v) (EP X Y σ Q) X.xe s
def AO (X:Cx)(f:au)(r:List V->Hp->VK->Prop):Prop:=
 ∀(Y:Q6) (s:a9) (σ:St) (H:Hp) (a:List V) (b:List au) (Q:VK),Inv X Y σ H s->n8 a b->r a H Q->
  av (bc X.prog X.w) X.A (call f b) (EP X Y σ Q) X.xe s
def tUn (r:V->Hp->VK->Prop)(ta:TE):TE:=λσ H Q=>ta σ H λx a=>r x a Q
def rI (C:Int->Int->Prop)(g:Int->Int->V):R2:=λx y H Q=>∃i j,x=.int i/\y=.int j/\C i j/\Q (g i j) H
def YI (g:Int->Int->V):R2:=λx y H Q=>∃i j,x=.int i/\y=.int j/\Q (g i j) H
def rU (g:Int->V):V->Hp->VK->Prop:=λx H Q=>∃i,x=.int i/\Q (g i) H
section
variable{X:Cx} {a b c:df} {ta tb tc:TE} {pos:Pos}
def MQ (k:PE X a ta)(l:PE X b tb){Y:Q6}{s:a9}{σ:St}{H:Hp}{R:V->V->Hp->Prop}(I:Inv X Y σ H s)
  (h:ta σ H λx g=>tb σ g λy d=>R x y d) {Q:F5} {f:au->au->Sem au}
  (m:∀v u e x y d,Inv X Y σ d e->RelV x v->RelV y u->R x y d->av (bc X.prog X.w) X.A (f v u) Q X.xe e):
  av (bc X.prog X.w) X.A (dC a X.env) (λv n=>av (bc X.prog X.w) X.A (dC b X.env) (λu o=>av (bc X.prog X.w) X.A (f v u) Q X.xe o) X.xe n) X.xe s:=by
 refine F6 (k Y s σ H _ I h) λv p ⟨x,g,q,r,t⟩=>?_;refine F6 (l Y p σ g _ q t) λu e ⟨y,d,z,B,C⟩=>?_;exact m v u e x y d z r B C
def a0a {r:V->Hp->VK->Prop}(d:UnR X (unaryOp op) r)(e:PE X a ta):PE X (.UnaryOp op a pos) (tUn r ta):=by intro Y s σ H Q I h;exact UnaryOp_ (F6 (e Y s σ H _ I h) λv f ⟨x,g,k,l,m⟩=>d Y f σ g x v Q k l m)
def opI {f:au->au->Sem au}{C:Int->Int->Prop}{g:Int->Int->Int}
  (rule:∀(i j:Int) (t u:Tok) (s:a9) (Q:F5) (E:F5),C i j->Q (.int (g i j) s.toks) {s with toks:=s.toks+1}->av (bc X.prog X.w) X.A (f (.int i t) (.int j u)) Q E s):
  nZ X f (rI C λi j=>.int (g i j)):=by
 intro Y s σ H x y v u Q I d e h;obtain⟨i,j,rfl,rfl,k,q⟩:=h;obtain⟨t,rfl⟩:=d;obtain⟨l,rfl⟩:=e;exact rule i j t l s _ _ k ⟨.int (g i j),H,I.tok _,⟨_,rfl⟩,q⟩
def a0m {f:au->au->Sem au}{g:Int->Int->Int}
  (rule:∀(i j:Int) (t u:Tok) (s:a9) (Q:F5) (E:F5),Q (.int (g i j) s.toks) {s with toks:=s.toks+1}->av (bc X.prog X.w) X.A (f (.int i t) (.int j u)) Q E s):
  nZ X f (YI λi j=>.int (g i j)):=by
 intro Y s σ H x y v u Q I d e h;obtain⟨i,j,rfl,rfl,q⟩:=h;obtain⟨t,rfl⟩:=d;obtain⟨k,rfl⟩:=e;exact rule i j t k s _ _ ⟨.int (g i j),H,I.tok _,⟨_,rfl⟩,q⟩
def ZZ {f:au->au->Sem au}{g:Int->Int->Bool}
  (rule:∀(i j:Int) (t u:Tok) (s:a9) (Q:F5) (E:F5),Q (.bool (g i j)) s->av (bc X.prog X.w) X.A (f (.int i t) (.int j u)) Q E s):
  nZ X f (YI λi j=>.bl (g i j)):=by
 intro Y s σ H x y v u Q I d e h;obtain⟨i,j,rfl,rfl,q⟩:=h;obtain⟨t,rfl⟩:=d;obtain⟨k,rfl⟩:=e;exact rule i j t k s _ _ ⟨.bl (g i j),H,I,rfl,q⟩
def a2t (i j:Int):Prop:=0<=j/\j<=1000000/\i.natAbs<2^64
def ZN:nZ X (et .Add) (YI λi j=>.int (i+j)):=a0m λ_ _ _ _ _ _ _ q=>add_int q
def lz:nZ X (et .Sub) (YI λi j=>.int (i-j)):=a0m λ_ _ _ _ _ _ _ q=>sub_int q
def XF:nZ X (et .Mod) (rI (λ_ j=>j≠0) λi j=>.int (i.fmod j)):=opI λ_ _ _ _ _ _ _ d q=>mod_int' d q
def rz:nZ X (et .Pow) (rI a2t λi j=>.int (i^j.toNat)):=opI λ_ _ _ _ _ _ _ d q=>pow_int_small d.1 d.2.1 d.2.2 q
def unI {f:au->Sem au}{g:Int->Int}
  (rule:∀(i:Int) (t:Tok) (s:a9) (Q:F5) (E:F5),Q (.int (g i) s.toks) {s with toks:=s.toks+1}->av (bc X.prog X.w) X.A (f (.int i t)) Q E s):
  UnR X f (rU λi=>.int (g i)):=by
 intro Y s σ H x v Q I d h;obtain⟨i,rfl,q⟩:=h;obtain⟨t,rfl⟩:=d;exact rule i t s _ _ ⟨.int (g i),H,I.tok _,⟨_,rfl⟩,q⟩
def bj:UnR X (unaryOp .USub) (rU λi=>.int (-i)):=unI λ_ _ _ _ _ q=>neg_int q
end
section
variable{X:Cx} {a b c:df} {ta tb tc:TE} {pos:Pos}
def ZY (I:Inv X Y σ H s)(q:Q (.bl k) H)(e:k=d):EP X Y σ Q (.bool d) s:=by subst e;exact⟨.bl k,H,I,rfl,q⟩
def a1h:nZ X (ez .Lt) (YI λi j=>.bl (decide (i<j))):=ZZ λ_ _ _ _ _ _ _ q=>lt_int q
def a0r:nZ X (ez .LtE) (YI λi j=>.bl (decide (i<=j))):=ZZ λ_ _ _ _ _ _ _ q=>le_int q
def a0o:nZ X (ez .Gt) (YI λi j=>.bl (decide (j<i))):=ZZ λ_ _ _ _ _ _ _ q=>gt_int q
def kj:nZ X (ez .Is) (λx y H Q=>y=.non/\Q (.bl (decide (x=.non))) H):=by
 intro Y s σ H x y v u Q I d e h;obtain⟨rfl,q⟩:=h;cases e;refine is_none_gen (ZY I q ?_);cases x<;>first
  |(cases d;rfl)
  |(obtain⟨t,rfl⟩:=d;rfl)
def PZ (b:df)(h:op≠.In:=by decide)(d:op≠.NotIn:=by decide):il op b=false:=by
 have e:(op==CmpOp.In)=false:=by cases op<;>first|rfl|exact absurd rfl h
 have f:(op==CmpOp.NotIn)=false:=by cases op<;>first|rfl|exact absurd rfl d
 cases b<;>simp[il,e,f]
def xR:(sizeLine:Nat)<2^63:=by rw[aFv];decide
def vals1 (r:n8 [x] d):∃u,d=[u]/\RelV x u:=by
 cases r with
 |cons e f=>cases f;exact⟨_,rfl,e⟩
def vals2 (r:n8 [x,y] e):∃u d,e=[u,d]/\RelV x u/\RelV y d:=by
 cases r with
 |cons f g=>
  cases g with
  |cons h k=>cases k;exact⟨_,_,rfl,f,h⟩
def SJ:AO X (.builtin "abs") (λxs H Q=>∃i,xs=[.int i]/\Q (.int (if i<0 then-i else i)) H):=by intro Y s σ H xs d Q I r h;obtain⟨i,rfl,q⟩:=h;obtain⟨u,rfl,t,rfl⟩:=vals1 r;exact call_abs_int λu e=>⟨.int (if i<0 then-i else i),H,I.tok _,⟨_,rfl⟩,q⟩
end
section
variable{prog:be} {w:cq} {A:cp} {E:F5} {s:a9} {K:ka} {x dx C f:bb} {mA:fL} {name:Str} {v:au}
end
section
variable{P:be} {w:cq} {H H':Hp} {h h':cv} {a C dx:bb} {fs xu:List (Str×V)}
end
section
variable{X:Cx} {Y:Q6} {σ:St} {H:Hp} {s:a9} {a C dx:bb} {fs:List (Str×V)} {f:Str} {v:V} {A:cp} {E:F5}
end
section
variable{X:Cx} {o e value:df} {f:Str} {pos pos' tpos:Pos} {ta tv:TE}
end
section
variable{X:Cx} {Y:Q6} {σ:St} {H:Hp} {s:a9} {A:cp} {E:F5} {Q:F5} {c:au} {b:Bool}
end
structure Room (k:Nat)(A:Around):Prop where
 hd:A.handled=none
 dp:A.depth+3*k+5<recursionLimit
 un:A.units+16*k+200<cLine
def Room.mono (r:Room k A)(h:j<=k):Room j A:=⟨r.hd,by have:=r.dp;lia,by have:=r.un;lia⟩
def Room.deeper (r:Room (k+1) A)(env:Env):Room k (A.deeper env):=
 ⟨r.hd,by have:=r.dp;show A.depth+1+3*k+5<_;lia,by have:=r.un;show A.units+3+16*k+200<_;lia⟩
def Room.depth (r:Room k A):A.depth<recursionLimit:=by have:=r.dp;lia
def Room.units (r:Room k A):A.units+64<dA:=by have:=r.un;lia
def a2q:TA:=λ_ H Q=>Q [] H
def a0e (ta:TE)(tr:TA):TA:=λσ H Q=>ta σ H λx a=>tr σ a λb c=>Q (x::b) c
section
variable{X:Cx} {e:df} {es:List df} {te:TE} {t:TA} {pos:Pos}
def bB:PA X [] a2q:=λ_ _ _ _ H Q I h=>aFo ⟨[],H,I,.nil,h⟩
def K0 (a:PE X e te)(b:PA X es t)(c:a5 (e::es) X.env=(false,dC e X.env)::a5 es X.env:=by rfl):PA X (e::es) (a0e te t):=by intro pos Y s σ H Q I h;rw[c];show av _ _ (spliced ((false,dC e X.env)::dq pos (a5 es X.env))) _ _ s;refine aFb (F6 (a Y s σ H _ I h) λu d ⟨x,f,g,k,l⟩=>?_);exact F6 (b pos Y d σ f _ g l) λr v ⟨m,n,o,p,q⟩=>⟨x::m,n,o,.cons k p,q⟩
def a2c (t:TA):TE:=λσ H Q=>t σ H λa b=>a.length<=sizeLine/\∀p,b p=none->Q (.ref p) (upd b p<|.tup a)
def a3k (t:TA):TE:=λσ H Q=>t σ H λa b=>a.length<=sizeLine/\∀p,b p=none->Q (.ref p) (upd b p<|.lst a)
def nq {f}(h:PA X es t):PE X (.Tuple es f pos) (a2c t):=by intro Y s σ H Q I g;refine wpAny_Tuple_spliced (F6 (h pos Y s σ H _ I g) λk a ⟨l,c,d,r,z,q⟩=>⟨by rw[<-r.length];exact z,?_⟩);have m:c a.heap.objs.size=none:=d.hok.fresh (aAj _);refine⟨.ref a.heap.objs.size,upd c a.heap.objs.size (.tup l),d.laid (t':=a.toks) (λb u e=>aAc _ e) (aAj _) ?_,rfl,q _ m⟩;exact⟨z,k,r,⟨_,aAq _ rfl,rfl,_,rfl⟩⟩
def NB (h:PA X es t):PE X (.List es pos) (a3k t):=by intro Y s σ H Q I f;refine wpAny_List_spliced (F6 (h pos Y s σ H _ I f) λg a ⟨k,c,d,r,z,q⟩=>⟨by rw[<-r.length];exact z,?_⟩);have l:c a.heap.objs.size=none:=d.hok.fresh (aAj _);refine⟨.ref a.heap.objs.size,upd c a.heap.objs.size (.lst k),d.laid (t':=a.toks) (λb u e=>aAc _ e) (aAj _) ?_,rfl,q _ l⟩;exact⟨z,g,0,r,aAq _ rfl⟩
end
abbrev Sp:=List V->Hp->VK->XK->Prop
abbrev TH:=List Env->Hp->a9->XK->au->a9->Prop
structure Env0 (P:Program)(w:World)(K:PySem.W.Frag)(mg:fL)(base:Heap)(A:Around)(outer:List Env)(s:Shared)(H:Hp):Prop where
 frames:A.frames=some outer
 mod:Mod K mg base
 bs:∀b o,base.get? b=some o->s.heap.get? b=some o/\H b=none
 bsz:base.objs.size<=s.heap.objs.size
 funs:s.heap.FunFrames base outer
 frf:∀b∈BB outer,H b=none
 hok:gQ P w H s.heap
 bare:AllBare s.gens
def CE (a:List Env)(P:be)(w:cq)(H:Hp)(s:a9)(Q:VK)(u:au)(s':a9):Prop:=
 ∃v b,s'.os=s.os/\AllBare s'.gens/\Un (BB a) [] H b s.heap s'.heap/\gQ P w b s'.heap/\RelV v u/\Q v b
def CR (b:TH)(a:List Env)(P:be)(w:cq)(H:Hp)(s:a9)(Q:VK)(E:XK)(r:Result)(s':a9):Prop:=
 match r with
 |.ok (.ret u)=>CE a P w H s Q u s'
 |.ok _=>False
 |.error e=>b a H s E e s'
structure FnOk (P:Program)(w:World)(K:PySem.W.Frag)(mg:fL)(base:Heap)(CX:TH)(k:Nat)(f:Addr)(fd:FuncData)(ps:List Str)(sp:Sp):Prop where
 len:∀vs H Q E,sp vs H Q E->vs.length=ps.length
 run:∀(A:Around) (outer:List Env) (s:Shared) (H:Hp) (args:Args) (us:List Value) (vs:List V) (Q:VK) (E:XK),Room k A->Env0 P w K mg base A outer s H->BindsTo s fd args (ps.zip us)->n8 vs us->sp vs H Q E->
  codeAny (model P w) A (.call (.ref f) args) (CR CX outer P w H s Q E) s
def FnOk.imp {P:be}{w:cq}{K:ka}{mg:fL}{base:cv}{d:TH}{k:Nat}{f:bb}{fd:d9}{ps:List Str}{e b:Sp}(F:FnOk P w K mg base d k f fd ps e)
  (h:∀vs H Q E,b vs H Q E->e vs H Q E):FnOk P w K mg base d k f fd ps b:=
 ⟨λvs H Q E q=>F.len vs H Q E (h _ _ _ _ q),λA a s H c g vs Q E l m n o p=>F.run A a s H c g vs Q E l m n o (h _ _ _ _ p)⟩
section
variable{X:Cx} {Y:Q6} {σ:St} {H:Hp} {s s':a9}
def Inv.af5 (I:Inv X Y σ H s):Env0 X.prog X.w X.K X.mg X.base X.A X.stack s H:=
 ⟨I.ok.frames,I.ok.mod,I.bs,aAr I.ok.bsz I.sz,I.stack,I.ad5,I.hok,I.bare⟩
def Inv.after (I:Inv X Y σ H s)(h:CE X.stack X.prog X.w H s Q u s'):EP X Y σ Q u s':=by obtain⟨v,f,os,a,un,c,r,q⟩:=h;obtain⟨k,g,d,t,e⟩:=s';obtain rfl:e=s.os:=os;exact⟨v,f,I.call (h':=k) (g':=g) (d':=d) (t':=t) (ch:=[]) un c a (λb z=>absurd z (by simp)),r,q⟩
end
def a0p (b:Sp)(a:List V)(E:XK)(t:TA):TE:=λσ H Q=>t σ H λc d=>b (c++a) d Q E
def Binds (K:ka)(fd:d9)(ps:List Str)(ds:List au):Prop:=
 ∀(s:a9) (us:List au),K.In s.heap->(us++ds).length=ps.length->BindsTo s fd ⟨us,[]⟩ (ps.zip<|us++ds)
def Binds.all {K:ka}{fd:d9}{ps:List Str}(h:∀a:List au,a.length=ps.length->bindArgs fd ⟨a,[]⟩=pure (ps.zip a)):Binds K fd ps []:=λs a _ b=>by rw[aCH]at b⊢;exact .of_eq (h a b)
def FS (b:TH)(X:Cx)(E:XK):Prop:=∀(Y:Q6) (σ:St) (H:Hp) (s:a9) (e:au) (a:a9),Inv X Y σ H s->b X.stack H s E e a->X.xe e a
section
variable{X:Cx} {CX:TH} {k:Nat} {f C:bb} {fd:d9} {ps:List Str} {sp:Sp} {dvs:List V} {ds:List au} {E:XK} {x m:Str} {p pos apos:Pos} {e o:df} {es:List df} {ta:TE} {t:TA}
def oq (F:FnOk X.prog X.w X.K X.mg X.base CX k f fd ps sp)(d:Room k X.A)(g:Binds X.K fd ps ds)(l:n8 dvs ds)(n:FS CX X E)(I:Inv X Y σ H s)(r:n8 vs a)(h:sp (vs++dvs) H Q E):av (bc X.prog X.w) X.A (call (.ref f) a) (EP X Y σ Q) X.xe s:=by
 have c:n8 (vs++dvs) (a++ds):=r.append l;have q:(a++ds).length=ps.length:=by rw[<-c.length];exact F.len _ _ _ _ h
 refine wpAny_call (aDQ (F.run X.A X.stack s H ⟨a,[]⟩ (a++ds) (vs++dvs) Q E d I.af5 (g s a I.kIn q) c h) λr v b=>?_);cases r with
 |error e=>exact n Y σ H s e v I b
 |ok y=>
  cases y with
  |ret u=>exact I.after b
  |next=>exact aAk b
  |brk=>exact aAk b
  |cont=>exact aAk b
def VU (F:FnOk X.prog X.w X.K X.mg X.base CX k f fd ps sp)(b:Room k X.A)(c:Gl X x)(d:X.mg x=some (.ref f))(g:PySem.W.keepIn X.K (.ref f)=true)(l:Binds X.K fd ps ds)(n:n8 dvs ds)(u:FS CX X E)
  (v:PA X (e::es) t) (y:(x==kc)=false:=by decide) (z:a5 (e::es) X.env=(false,dC e X.env)::a5 es X.env:=by rfl) (M9:(dq pos (a5 es X.env)).any (·.1)=false:=by rfl):
  PE X (.Call (.Name x p) (e::es) [] pos) (a0p sp dvs E t):=by
 intro Y s σ H Q I h;refine aAO (wY I c d ?_ y);refine PySem.W.callWith_K (h₀:=X.base) I.ok.mod.kin g (F6 (v pos Y s σ H _ I h) λB J ⟨L,N,a,r,q⟩=>⟨a.kIn,?_⟩) z M9;exact oq F b l n u a r q
end
section
variable{X:Cx} {CX:TH} {k:Nat} {f C:bb} {fd:d9} {ps ks:List Str} {sp:Sp} {E:XK} {x m:Str} {p pos apos kpos:Pos} {e o:df} {es:List df} {kws:List Keyword} {te ta:TE} {t tk:TA} {nm:Option Str}
variable{g:List au->List au->List au} {gV:List V->List V->List V}
end
structure FnScope (N P:List Str)(sc:Scope):Prop where
 kind:sc.kind=.function
 co:sc.isCoroutine=false
 gen:sc.isGenerator=false
 nd:N.Nodup
 pre:N.take P.length=P
 par:∀x∈P,sc.names.lookup x=some .local\/sc.names.lookup x=some .cell
 nofree:∀y∈sc.names,y.2≠.free
theorem uP {kindOf:Str->Option eu}{x:Str}:∀{binds:List (Str×au)} {m:fL},(∀v,(x,v)∉binds)->bindL kindOf binds m x=m x
 |[],_,_=>rfl
 |(n,v)::r,m,h=>by
  unfold bindL;rw[uP λw a=>h w (aAg _ a)];split
  .have:x≠n:=by rintro rfl;exact h v aAW
   simp[this]
  .rfl
theorem uU {kindOf:Str->Option eu}{x:Str}:∀{binds:List (Str×au)} {m:fL},(∀v,(x,v)∉binds)->bindC kindOf binds m x=m x
 |[],_,_=>rfl
 |(n,v)::r,m,h=>by
  unfold bindC;rw[uU λw a=>h w (aAg _ a)];split
  .rfl
  .have:x≠n:=by rintro rfl;exact h v aAW
   simp[this]
theorem uT {kindOf:Str->Option eu}{x:Str}{v:au}:∀{P:List Str} {vs:List au} {i:Nat} {m:fL},P.Nodup->P[i]?=some x->vs[i]?=some v->kindOf x=some .local->
  bindL kindOf (P.zip vs) m x=some v
 |[],_,_,_,_,h,_,_=>by simp at h
 |_::_,[],_,_,_,_,h,_=>by simp at h
 |p::P,w::vs,0,m,c,a,b,d=>by simp at a b;subst a;subst b;show bindL kindOf ((p,w)::P.zip vs) m p=_;unfold bindL;rw[uP λv e=>(aAH.mp c).1 (aDV e).1,i6 d];simp
 |p::P,w::vs,i+1,m,c,a,b,d=>by show bindL kindOf ((p,w)::P.zip vs) m x=_;unfold bindL;exact uT (i:=i) (aAH.mp c).2 (by simpa using a) (by simpa using b) d
theorem uB {kindOf:Str->Option eu}{x:Str}{v:au}:∀{P:List Str} {vs:List au} {i:Nat} {m:fL},P.Nodup->P[i]?=some x->vs[i]?=some v->kindOf x≠some .local->
  bindC kindOf (P.zip vs) m x=some v
 |[],_,_,_,_,h,_,_=>by simp at h
 |_::_,[],_,_,_,_,h,_=>by simp at h
 |p::P,w::vs,0,m,c,a,b,d=>by simp at a b;subst a;subst b;show bindC kindOf ((p,w)::P.zip vs) m p=_;unfold bindC;rw[uU λv e=>(aAH.mp c).1 (aDV e).1,ja d];simp
 |p::P,w::vs,i+1,m,c,a,b,d=>by show bindC kindOf ((p,w)::P.zip vs) m x=_;unfold bindC;exact uB (i:=i) (aAH.mp c).2 (by simpa using a) (by simpa using b) d
def start (N:List Str)(vs:List V):St:=vs.map some++aCO (N.length-vs.length) none
def CQ (c:TH)(P:be)(w:cq)(K:ka)(mg:fL)(base:cv)(N:List Str)(qual:Str)(a:i4)(f:bb)(cd:au)(A:cp)(outer:List Env)(s:a9)(H:Hp)(E:XK):Cx where
 prog:=P
 w:=w
 K:=K
 mg:=mg
 base:=base
 A:=A.deeper (envOfC qual a s.heap.objs.size f cd)
 N:=N
 s9:=s
 H9:=H
 env:=envOfC qual a s.heap.objs.size f cd
 outer:=outer
 stack:=envOfC qual a s.heap.objs.size f cd::outer
 ex:=[]
 calm:=true
 fn:=λ_=>true
 pn:=[]
 xe:=λe d=>av (bc P w) (A.deeper<|envOfC qual a s.heap.objs.size f cd) (leaving (envOfC qual a s.heap.objs.size f cd) e) (λ_ b=>c outer H s E e b) (λg b=>c outer H s E g b) d
def yR {sc:i4}{n:Nat}{x:Str}(h:sc.names.lookup x=some .cell):∃c,(ek n sc.names []).lookup x=some c:=by have q:=PySem.W.cellsFrom_some sc.names n [] (.inl h);exact aFp.mp q
def JH {O:TH}{P:be}{w:cq}{K:ka}{mg:fL}{base:cv}{N ps:List Str}{qual:Str}{d:i4}{f:bb}{cd:au}{A:cp}{g:List Env}{s Q:a9}{H:Hp}{E:XK}{L:List au}{vs:List V}
  (S:FnScope N ps d) (Y:A.handled=none) (m:Env0 P w K mg base A g s H) (hl:vs.length=ps.length) (r:n8 vs L)
  (x:InCallC s s.heap.objs.size (bindL (envOfC qual d s.heap.objs.size f cd).kindOf (ps.zip L) λ_=>none) (ek (s.heap.objs.size+1) d.names []) (bindC (envOfC qual d s.heap.objs.size f cd).kindOf (ps.zip L) λ_=>none) Q):
  Inv (CQ O P w K mg base N qual d f cd A g s H E) [] (start N vs) H Q:=by
 have M9:ps.length<=N.length:=by have:=jk aFt S.pre;rw[aBd]at this;lia
 obtain⟨I,tk,rfl,T⟩:=x.done;have o:∀b:bb,b∉(CQ O P w K mg base N qual d f cd A g s H E).ex:=λb z=>absurd (show b∈([]:List bb)from z) (by simp);refine⟨⟨m.mod,S.kind,rfl,rfl,aAj _,λy z c I l=>?_,λy t=>?_,λy c _ h=>?_,λ_=>Y,aFV m.frames,.inr ⟨rfl,rfl⟩,λb z=>absurd z (o b),m.bs,m.bsz,λb _ _=>o b,λb z=>absurd z (o b),m.funs,m.frf⟩,
  rfl,m.bare,Un.kept T,⟨_,x.toInCall.ns,λi y v I l h3=>?_⟩,λy c h=>⟨_,x.cell y c h⟩,m.hok.fresh (aAj _),λy c h=>?_,λp B=>absurd (show p∈([]:Q6)from B) (by simp),m.hok.kept T,?_⟩
 .exact name_of_addr x.apart (PySem.mem_of_lookup I) (PySem.mem_of_lookup l)
 .have t:d.names.lookup y=some .cell\/d.names.lookup y=some .free:=t;rcases t with t|t
  .exact yR t
  .exact absurd rfl (S.nofree _<|PySem.mem_of_lookup t)
 .exact aDt (x.above y c<|PySem.mem_of_lookup h)
 .have J:i<vs.length:=by
   unfold start at l;by_cases J:i<vs.length
   .exact J
   .rw[aAB (by simpa using J)]at l;rw[aBz]at l;split at l<;>cases l
  have ha:vs[i]?=some v:=by
   unfold start at l;rw[aAU (by simpa using J),aAF]at l;cases e:vs[i]? with
   |none=>rw[e]at l;cases l
   |some a=>rw[e]at l;cases l;rfl
  obtain⟨u,U,rv⟩:=r.get ha;have B:ps[i]?=some y:=by rw[<-S.pre,List.getElem?_take_of_lt (by lia)];exact I
  have C:ps.Nodup:=by rw[<-S.pre];exact S.nd.sublist (List.take_sublist _ _)
  refine⟨u,rv,?_⟩;rcases S.par y (aAo B)with k|k
  .exact .inl ⟨k,uT C B U k⟩
  .obtain⟨c,e⟩:=yR (n:=s.heap.objs.size+1) k;refine .inr ⟨.inl k,c,e,?_⟩;have q:=x.cell y c e;rw[uB C B U (by show d.names.lookup y≠_;rw[k];decide)]at q;exact q
 .exact m.hok.fresh (aDt<|x.above y c<|PySem.mem_of_lookup h)
 .unfold start;show _=N.length;rw[aAx,aAf,aCp]
  lia
def YF {z:TH}{P:be}{w:cq}{K:ka}{mg:fL}{base:cv}{k:Nat}{f:bb}{name qual:Str}{d:Arguments}{body:List dm}{a:i4}{dV kV h pm T ct oc:au}{an od:Option bb}
  {C:Array (Option au)} {N ps:List Str} {L:Sp} (lk:K.lookup f=some ⟨oc,od,.func (PySem.W.fnOf name qual d body a dV kV h pm an T ct),C⟩) (fg:PySem.W.codeIn K T qual=true) (S:FnScope N ps a)
  (len:∀vs H Q E,L vs H Q E->vs.length=ps.length)
  (vo:∀(A:cp) (c:List Env) (s:a9) (H:Hp) (vs:List V) (Q:VK) (E:XK),Room k (A.deeper (envOfC qual a s.heap.objs.size f T))->L vs H Q E->
   ∃t,xQ (CQ z P w K mg base N qual a f T A c s H E) body t/\t {nx:=λ_ H'=>Q .non H',rt:=Q} (start N vs) H):
  FnOk P w K mg base z (k+1) f (PySem.W.fnOf name qual d body a dV kV h pm an T ct) ps L:=by
 refine⟨len,λA c s H args us vs Q E O l hb r m=>?_⟩;have hl:=len _ _ _ _ m;have KX:K.In s.heap:=l.mod.kin.keeps λb o e=>(l.bs b o e).1;have U:s.heap.NoLimit:=l.mod.nolimit.keeps λb o e=>(l.bs b o e).1;have ou:∀y∈ps.zip us,a.names.lookup y.1=some .local\/(a.names.lookup y.1=some .cell/\((ek (s.heap.objs.size+1) a.names []).lookup y.1).isSome=true):=λ⟨n,v⟩ hy=>by
  rcases S.par n (aDV hy).1 with q|q
  .exact .inl q
  .exact .inr ⟨q,PySem.W.cellsFrom_some _ _ _ (.inl q)⟩
 refine codeAny_call_function O.depth (KX _ _ lk) rfl S.co S.gen rfl (PySem.W.codeRec_of KX fg) (hb _ _ _ _ ?_);refine wpAny_newFunctionEnv_cells S.kind ou λenv he s1 x=>?_;subst he;refine⟨U.keeps x.toInCall.keep,codeAny_func ?_⟩;obtain⟨t,ht,hq⟩:=vo A c s H vs Q E (O.deeper _) m;have I:Inv (CQ z P w K mg base N qual a f T A c s H E) [] (start N vs) H s1:=JH S O.hd l hl r x;refine aCE (ht [] s1 (start N vs) H _ I hq) (λfl Y g=>?_) λe Y g=>g;have p:∀{B:St} {H':Hp} {v:V} {u:au},Inv (CQ z P w K mg base N qual a f T A c s H E) [] B H' Y->RelV v u->Q v H'->CE c P w H s Q u Y:=
  λ{B H' v u} J rv q=>⟨v,H',J.os,J.bare,J.base,J.hok,rv,q⟩
 cases fl with
 |ret u=>obtain⟨v,B,H',J,rv,q⟩:=g;exact p J rv q
 |next=>obtain⟨B,H',J,q⟩:=g;exact p (v:=V.non) (u:=Value.none) J rfl q
 |brk=>obtain⟨_,_,_,q⟩:=g;exact aAk q
 |cont=>obtain⟨_,_,_,q⟩:=g;exact aAk q
section
variable{X:Cx} {x:Str} {p pos:Pos} {e:df} {es:List df} {t:TA} {id T:String} {r:List V->Hp->VK->Prop}
end
end L2
namespace HT
open PySem PyProof.Rows
def lexLt:List Int->List Int->Bool
 |[],[]=>false
 |[],_::_=>true
 |_::_,[]=>false
 |x::a,y::b=>if x=y then lexLt a b else decide (x<y)
def I9 (x y:Int)(xs a:List Int):lexLt (x::xs) (y::a)=if x=y then lexLt xs a else decide (x<y):=rfl
def aP:lexLt [] []=false:=rfl
def Q0 (y:Int)(a:List Int):lexLt [] (y::a)=true:=rfl
def D4 (x:Int)(xs:List Int):lexLt (x::xs) []=false:=rfl
def AX (A:cp)(s:a9)(a:Int)(t:Tok)(c:Int)(u:Tok):∃e,SeqAt.EqAt A s (.int a t) (.int c u) e/\(e=true↔a=c):=
 ⟨(a==c),aFc a t c u,by simp⟩
def AR (A:cp)(s:a9)(a:Int)(t:Tok)(c:Int)(u:Tok)(prog:be)(w:cq)(E:F5)(Q:F5)(h:Q (.bool (decide (a<c))) s):
  av (bc prog w) A (richCompare .Lt (.int a t) (.int c u)) Q E s:=
 (PyProof.Rows.lt_int h:av (bc prog w) A (ez .Lt (.int a t) (.int c u)) Q E s)
section
open PySem.SeqAt
open PySem.AutoSeq1 (wpAny_loadPart')
open PySem.MeetsSeq PySem.MeetsSeq2 PySem.MeetsSeq3
def sT (l b:bb)(items p:Array au)(n n2:Nat)(dd vp:Option bb)(sl um:Array (Option au))(ns C:List Int)(Y:IntsAre items.toList ns)(hj:IntsAre p.toList C):
  Meets (Builtin.«tuple.__lt__» ⟨[.ref l,.ref b],[]⟩)
   (λ_ R s=>s.heap.get? l=some {cls:=.type "tuple",dict:=dd,data:=.seq items n,slots:=sl}/\s.heap.get? b=some {cls:=.type "tuple",dict:=vp,data:=.seq p n2,slots:=um}/\
    R (.ok (.ret (.bool (lexLt ns C)))) s):=
 .of_wp λm w A R s h=>by
  obtain⟨E,g,d,H,os⟩:=s;obtain⟨hl,hb,h⟩:=h;have f2:=AutoSeq1.sub_tuple_tuple;have z1:items.size=ns.length:=by rw[<-Y.length];simp
  have z2:p.size=C.length:=by rw[<-hj.length];simp
  wp_walk using aEF hl,aEF hb,aCv _ (λrest b N=>b.1=none/\N=⟨E,g,d,H,os⟩/\∃(I J:List au) (r v:List Int),rest=I.zip J/\
   IntsAre I r/\IntsAre J v/\r.length+p.size=v.length+items.size/\R (.ok (.ret (.bool (lexLt r v)))) ⟨E,g,d,H,os⟩) _
  case turn=>
   rintro⟨y,x⟩ rest b N ⟨O,rfl,I,J,r,v,k,Q,L,f,o⟩;cases Q with
   |nil=>rw[List.zip_nil_left]at k;cases k
   |cons a t z=>
    cases L with
    |nil=>rw[List.zip_nil_right]at k;cases k
    |cons c u B=>
     rw[aBY]at k;injection k with T ag;injection T with hy hx;subst hy hx;rw[I9]at o;simp only[aAt]at f;obtain⟨e,he,vt⟩:=AX A.in1 ⟨E,g,d,H,os⟩ a t c u;refine aAa (he m w _ _ ?_);cases e with
     |true=>
      rw[i6 (vt.mp rfl)]at o
      wp_walk
      exact⟨rfl,rfl,_,_,_,_,ag,z,B,by lia,o⟩
     |false=>
      rw[ja (λq=>absurd (vt.mpr q) aAY)]at o;have U:=AR A.in1 ⟨E,g,d,H,os⟩ a t c u m w
      wp_walk using U
      exact⟨_,rfl,by simpa using o⟩
  case fin=>
   rintro⟨b1,b2⟩ N ⟨O,rfl,I,J,r,v,k,Q,L,f,o⟩;simp only at O;subst O;have hv:lexLt r v=decide (items.size<p.size):=by
    cases Q with
    |nil=>
     cases L with
     |nil=>simp only[aBm]at f;rw[aP];exact(decide_eq_false (by lia)).symm
     |cons c u hw=>simp only[aBm,aAt]at f;rw[Q0];exact(decide_eq_true (by lia)).symm
    |cons a t hv=>
     cases L with
     |nil=>simp only[aBm,aAt]at f;rw[D4];exact(decide_eq_false (by lia)).symm
     |cons c u hw=>rw[aBY]at k;cases k
   rw[hv]at o
   wp_walk
   exact⟨_,rfl,by simpa[Builtin.Tuple.tupleCompareSizes]using o⟩
  case h=>exact⟨rfl,rfl,items.toList,p.toList,ns,C,rfl,Y,hj,by lia,h⟩
end
section
variable{prog:be} {w:cq} {A:cp} {E:F5} {s:a9}
def lt_tupInts {Q:F5}(q:IsTup s.heap l items)(r:IsTup s.heap b d)(t:IntsAre items.toList ns)(u:IntsAre d.toList c)(v:A.units<dA)(h:Q (.bool (lexLt ns c)) s):av (bc prog w) A (ez .Lt (.ref l) (.ref b)) Q E s:=by
 obtain⟨⟨y,z,e,B⟩,f,g,n,k⟩:=id q;obtain⟨⟨m,C,data2,H⟩,o,p,I,a⟩:=id r;simp only at g k p a;subst g k p a;exact richCompare_meets_room (op:=.Lt) ⟨_,f,rfl⟩ ⟨_,o,rfl⟩ PySem.F.slot_tuple_lt PySem.F.entry_tuple_lt (PySem.F.args_tuple_lt_2 _ _) (sT l b items d n I z C B H ns c t u)
  ⟨f,o,show aDy (lexLt ns c)≠Value.notImplemented/\Q (.bool (lexLt ns c)) s from⟨(λx=>nomatch x),h⟩⟩ v
def cat_tup {Q:F5}(x:IsTup s.heap t vs.toArray)(y:IsTup s.heap b ws.toArray)(h:vs≠[])(z:ws=[]->Q (.ref t) s)(B:ws≠[]->Q (.ref s.heap.objs.size) {s with heap:=s.heap.push {cls:=.type "tuple",data:=.seq (vs++ws).toArray}})(g:vs.length+ws.length<=sizeLine):av (bc prog w) A (et .Add (.ref t) (.ref b)) Q E s:=by
 obtain⟨⟨cls,k,data,l⟩,c,m,n,o⟩:=id x;obtain⟨⟨p,q,data2,r⟩,d,u,v,a⟩:=id y;simp only at m o u a;subst m o u a;have e:vs.toArray++ws.toArray=(vs++ws).toArray:=by simp
 by_cases f:ws=[]
 .exact aFP ⟨_,c,rfl⟩ ⟨_,d,rfl⟩ aFD seq_tuple_add PySem.F.slot_tuple_add PySem.F.entry_tuple_add (PySem.F.args_tuple_add_2 _ _)
   (tuple_addW1 t b vs.toArray ws.toArray n v k q l r (by simpa using h) (by simp[f])) ⟨c,d,z f⟩
 .refine aFP ⟨_,c,rfl⟩ ⟨_,d,rfl⟩ aFD seq_tuple_add PySem.F.slot_tuple_add PySem.F.entry_tuple_add (PySem.F.args_tuple_add_2 _ _)
   (tuple_addW2 t b vs.toArray ws.toArray n v k q l r (by simpa using h) (by simpa using f) (by rw[aAn,aAn];exact g)) ⟨c,d,?_⟩
  rw[e];exact B f
def sIx (n d:Nat):Option Int->Nat
 |none=>d
 |some v=>if v<0 then(v+(n:Int)).toNat else min v.toNat n
def sIx_none (n d:Nat):sIx n d none=d:=rfl
def sIx_nat (n d k:Nat):sIx n d (some (k:Int))=min k n:=by show(if(k:Int)<0 then((k:Int)+(n:Int)).toNat else min (k:Int).toNat n)=min k n;rw[ja (by lia),aAZ]
def ZQ (n d:Nat)(b:d<=n)(o:Option Int):sIx n d o<=n:=by
 cases o with
 |none=>exact b
 |some v=>
  show(if v<0 then(v+(n:Int)).toNat else min v.toNat n)<=n;by_cases a:v<0
  .rw[i6 a];lia
  .rw[ja a];exact Nat.min_le_right _ _
def HI (v:Int)(n d:Nat):(if v<0 then max (v+(n:Int)) 0 else min v (n:Int))=((sIx n d (some v):Nat):Int):=by
 show(if v<0 then max (v+(n:Int)) 0 else min v (n:Int))=(((if v<0 then(v+(n:Int)).toNat else min v.toNat n):Nat):Int);by_cases a:v<0
 .simp only[i6 a];lia
 .simp only[ja a];lia
def FD (lo a:Option Int)(n:Nat):aDG lo a 1 (n:Int)=(((sIx n 0 lo:Nat):Int),((sIx n n a:Nat):Int)):=by
 have b:¬((1:Int)<0):=by lia
 unfold aDG;simp only[b,if_false];refine aFu ?_ ?_
 .cases lo with
  |none=>rfl
  |some v=>exact HI v n 0
 .cases a with
  |none=>rfl
  |some v=>exact HI v n n
def FR (i j:Nat):aCP (i:Int) (j:Int) 1=j-i:=by
 unfold aCP;have a:(1:Int)>0:=by lia
 simp only[a,if_true,Int.ediv_one];split<;>lia
def rK {Q:Option Int->a9->Prop}(p:IsPart v o)(h:Q o s):av (bc prog w) A (Builtin.Slice.slicePartIndex v) Q E s:=by
 cases p with
 |none=>exact slicePart_none h
 |int i t=>exact slicePart_int h
def lO {sl:bb}{c d:au}{lo a:Option Int}{n:Nat}{Q:Int×Int×Nat->a9->Prop}(f:s.heap.IsSliceOf sl c d .none)(g:IsPart c lo)(k:IsPart d a)
  (h:Q (((sIx n 0 lo:Nat):Int),1,sIx n n a-sIx n 0 lo) s):av (bc prog w) A (aET (.ref sl) (pure (n:Int))) Q E s:=by
 obtain⟨os,b,l,e⟩:=id f;unfold aET Builtin.Slice.sliceFields;refine aAa (aAa<|aCQ b e (x:=c) rfl<|aAa<|aCQ b e (x:=d) rfl<|aAa<|aCQ b e (x:=.none) rfl<|aAb ?_);refine aAa (slicePart_none ?_);show av _ _ (if((1:Int)==0)=true then _ else _) _ _ s;rw[ja (by decide)];refine aAa (rK g<|aAa<|rK k<|aAa<|aAb ?_);show av _ _ (match aDG lo a 1 (n:Int)with|(lo,a)=>pure (lo,(1:Int),aCP lo a 1)) _ _ s;rw[FD lo a n];show av _ _ (pure (((sIx n 0 lo:Nat):Int),(1:Int),aCP ((sIx n 0 lo:Nat):Int) ((sIx n n a:Nat):Int) 1)) _ _ s;rw[FR];exact aAb h
def RL (xs:Array au)(i k:Nat):((aAQ k).filterMap λ(m:Nat)=>xs[((i:Int)+(m:Int)*1).toNat]?).toArray=((xs.toList.drop i).take k).toArray:=by
 have e:(λ(m:Nat)=>xs[((i:Int)+(m:Int)*1).toNat]?)=λm=>xs[i+m]?:=by
  funext m
  have:((i:Int)+(m:Int)*1).toNat=i+m:=by lia
  rw[this]
 rw[e];have:=pick_run xs i k;rw[aDl]at this;have a:((λx=>xs[x]?)∘λx=>i+x)=λm=>xs[i+m]?:=rfl;rw[a]at this;rw[this]
def getItem_tuple_cut {t sl:bb}{items:Array au}{g k:au}{lo a:Option Int}{Q:F5}(b:IsTup s.heap t items)(l:s.heap.IsSliceOf sl g k .none)(n:IsPart g lo)(o:IsPart k a)
  (p:¬(sIx items.size 0 lo=0/\sIx items.size items.size a=items.size))
  (h:Q (.ref s.heap.objs.size) {s with heap:=s.heap.push {cls:=.type "tuple",data:=.seq ((items.toList.drop (sIx items.size 0 lo)).take (sIx items.size items.size a-sIx items.size 0 lo)).toArray}})
  (r:items.size<=sizeLine):av (bc prog w) A (getItem (.ref t) (.ref sl)) Q E s:=by
 have c:sizeOk (.seq ((items.toList.drop<|sIx items.size 0 lo).take (sIx items.size items.size a-sIx items.size 0 lo)).toArray):=by
  show((items.toList.drop<|sIx items.size 0 lo).take (sIx items.size items.size a-sIx items.size 0 lo)).toArray.size<=sizeLine;rw[aAn,aBd,aCu,aBl]
  lia
 have v:sIx items.size items.size a<=items.size:=ZQ _ _ (aAj _) a;obtain⟨os,d,u,x⟩:=id l;have e:s.TypeIs (.ref sl) "slice":=⟨os,d,u⟩;unfold getItem;try with_reducible refine aAN ?_
 first|refine aAa (aAb ?_)|skip
 refine aAa (wpAny_sequenceKey b.typeIs (by decide) ?_);refine aAa (aCb (name:=aCB "__getitem__") b.typeIs aCC
  (aBp aCC b.typeIs entry_tuple_getitem ?_ (args_tuple_getitem _ _)))
 show av _ _ (aDA (.ref t)>>=_) _ _ s;refine aAa (tupleItemsOf_ b ?_);refine aAa (aDR e ?_);rw[i6 (by decide)];refine aAa (lO l n o ?_);have f:¬((((sIx items.size 0 lo:Nat):Int)==0&&(1:Int)==1&&(sIx items.size items.size a-sIx items.size 0 lo)==items.size)=true):=by intro q;rw[aAP,aAP]at q;have y:((sIx items.size 0 lo:Nat):Int)=0:=eq_of_beq q.1.1;have z:sIx items.size items.size a-sIx items.size 0 lo=items.size:=eq_of_beq q.2;exact p ⟨by lia,by lia⟩
 show av _ _ (if(((sIx items.size 0 lo:Nat):Int)==0&&(1:Int)==1&&(sIx items.size items.size a-sIx items.size 0 lo)==items.size)=true then _ else _) _ _ s;rw[ja f,RL];first
  |exact aAa (m:=aCT _) (aAX (aAb ⟨_,rfl,aAb h⟩) c)
  |exact aAa (m:=aCT _) (aAX (aAa<|aAb<|aAb ⟨_,rfl,aAb h⟩) c)
  |exact aAa (aAa (m:=aCT _)<|aAX (aAb<|aAb ⟨_,rfl,aAb h⟩) c)
  |exact aAa (aAa (m:=aCT _)<|aAX (aAb ⟨_,rfl,aAb h⟩) c)
end
end HT
namespace L2
open PySem PySem.Spec PyProof.Rows
abbrev TO:=St->Hp->(Option Int->Hp->Prop)->Prop
def PO (X:Cx)(e:Option df)(t:TO):Prop:=
 ∀(Y:Q6) (s:a9) (σ:St) (H:Hp) (Q:Option Int->Hp->Prop),Inv X Y σ H s->t σ H Q->
  av (bc X.prog X.w) X.A (evalPart e X.env) (λu b=>∃o a,Inv X Y σ a b/\IsPart u o/\Q o a) X.xe s
def VA:TO:=λ_ H Q=>Q none H
def yy (t:TE):TO:=λσ H Q=>t σ H λx a=>∃i,x=.int i/\Q (some i) a
section
variable{X:Cx} {e:df} {te:TE} {lo hi:Option df} {tl th:TO} {pos p2:Pos}
def wU:PO X none VA:=by intro Y s σ H Q I h;rw[evalPart_none];exact aAb ⟨none,H,I,.none,h⟩
def VD (h:PE X e te):PO X (some e) (yy te):=by intro Y s σ H Q I a;rw[evalPart_some];refine F6 (h Y s σ H _ I a) λu g ⟨x,b,c,d,f⟩=>?_;obtain⟨i,rfl,q⟩:=f;obtain⟨t,rfl⟩:=d;exact⟨some i,b,c,.int i t,q⟩
def ck (X:Cx)(r:V->Option Int->Option Int->Hp->VK->Prop):Prop:=
 ∀(Y:Q6) (s:a9) (σ:St) (H:Hp) (x:V) (v a b:au) (lo hi:Option Int) (c:bb) (Q:VK),Inv X Y σ H s->RelV x v->s.heap.IsSliceOf c a b .none->IsPart a lo->IsPart b hi->r x lo hi H Q->
  ∃T id,typeLookup (.type T) "__getitem__"=pure (some<|.builtin id)/\s.TypeIs v T/\av (bc X.prog X.w) X.A (getItem v<|.ref c) (EP X Y σ Q) X.xe s
def ck.or {r a:V->Option Int->Option Int->Hp->VK->Prop}(h:ck X r)(h':ck X a):ck X (λx lo hi H Q=>r x lo hi H Q\/a x lo hi H Q):=by
 intro Y s σ H x v b c lo hi d Q I f g k l q;rcases q with q|q
 .exact h Y s σ H x v b c lo hi d Q I f g k l q
 .exact h' Y s σ H x v b c lo hi d Q I f g k l q
def tSl (r:V->Option Int->Option Int->Hp->VK->Prop)(te:TE)(tl th:TO):TE:=λσ H Q=>te σ H λx a=>tl σ a λl b=>th σ b λu c=>r x l u c Q
def NO {r:V->Option Int->Option Int->Hp->VK->Prop}(g:ck X r)(k:PE X e te)(m:PO X lo tl)(n:PO X hi th):PE X (.Subscript e (.Slice lo hi none p2) pos) (tSl r te tl th):=by intro Y s σ H Q I h;refine Subscript_ (F6 (k Y s σ H _ I h) λv o ⟨x,p,t,y,z⟩=>?_);refine wpAny_Slice (F6 (m Y o σ p _ t z) λc B ⟨l,C,E,J,L⟩=>F6 (n Y B σ C _ E L) λd a ⟨u,f,N,O,U⟩=>?_);rw[evalPart_none];refine aAb ?_;have I4:Inv X Y σ f {a with heap:=a.heap.push {cls:=.type "slice",data:=.fields #[c,d,.none]}}:=N.kept (t':=a.toks) λb ob q=>aAc _ q;obtain⟨T,id,hT,ht,hg⟩:=g Y {a with heap:=a.heap.push {cls:=.type "slice",data:=.fields #[c,d,.none]}} σ f x v c d l u a.heap.objs.size Q I4 y (Heap.IsSliceOf.new ..) J O U;show av (bc X.prog X.w) X.A (subscriptTail e (.Slice lo hi none p2) v<|.ref a.heap.objs.size) (EP X Y σ Q) X.xe {a with heap:=a.heap.push {cls:=.type "slice",data:=.fields #[c,d,.none]}};exact tail_any (ops:=[.ref a.heap.objs.size,v]) ht hT hg (by with_unfolding_all rfl)
def zZ (xs:List V)(lo hi:Option Int):List V:=(xs.drop<|HT.sIx xs.length 0 lo).take (HT.sIx xs.length xs.length hi-HT.sIx xs.length 0 lo)
def mU (xs:List V)(lo hi:Option Int):(zZ xs lo hi).length<=xs.length:=by
 unfold zZ;rw[aBd,aCu]
 lia
def a0d (K:ka):V->Option Int->Option Int->Hp->VK->Prop:=λx lo hi H Q=>∃a b,x=.ref a/\Z6 K H a b/\
 ¬(HT.sIx b.length 0 lo=0/\HT.sIx b.length b.length hi=b.length)/\∀p,H p=none->Q (.ref p) (upd H p<|.tup (zZ b lo hi))
def jz:ck X (a0d X.K):=by
 intro Y s σ H x v w y lo hi z Q I l m n p h;obtain⟨a,d,rfl,t,u,q⟩:=h;cases l;obtain⟨f,r,g,k⟩:=I.tuple t;have c:f.toArray.size=d.length:=by rw[aAn];exact r.length.symm
 refine⟨"tuple",_,aCC.lookup,g.typeIs,?_⟩;refine HT.getItem_tuple_cut g m n p (by rw[c];exact u) ?_ (by rw[c];exact k);rw[c];refine⟨.ref s.heap.objs.size,_,I.laid (t':=s.toks) (o:=.tup (zZ d lo hi)) (λb A q=>aAc _ q) (aAj _) ?_,rfl,q _ (I.hok.fresh<|aAj _)⟩;exact⟨aAr (mU d lo hi) k,_,(r.drop<|HT.sIx d.length 0 lo).take (HT.sIx d.length d.length hi-HT.sIx d.length 0 lo),IsTup.new _ _⟩
def a1g (K:ka):R2:=λx y H Q=>∃a b d c,x=.ref a/\y=.ref b/\Z6 K H a d/\Z6 K H b c/\d≠[]/\d.length+c.length<=sizeLine/\
 (c=[]->Q (.ref a) H)/\(c≠[]->∀p,H p=none->Q (.ref p) (upd H p<|.tup (d++c)))
def n8.ac5 (r:n8 xs a):a=[]↔xs=[]:=by
 cases r with
 |nil=>simp
 |cons _ _=>simp
def GR:nZ X (et .Add) (a1g X.K):=by intro Y s σ H x y v u Q I g k h;obtain⟨a,b,l,m,rfl,rfl,n,p,r,f,t,A⟩:=h;cases g;cases k;obtain⟨B,d,C,_⟩:=I.tuple n;obtain⟨E,c,p2,_⟩:=I.tuple p;refine HT.cat_tup C p2 (λz=>r (d.ac5.mp z)) (λz=>⟨.ref a,H,I,rfl,t (c.ac5.mp z)⟩) (λz=>?_) (by rw[<-d.length,<-c.length];exact f);refine⟨.ref s.heap.objs.size,_,I.laid (t':=s.toks) (o:=.tup (l++m)) (λb J q=>aAc _ q) (aAj _) ?_,rfl,A (λw=>z (c.ac5.mpr w)) _ (I.hok.fresh<|aAj _)⟩;exact⟨by rw[aAx];exact f,_,d.append c,IsTup.new _ _⟩
end
def ES (n:Nat)(i:Int):Option Nat:=if 0<=i then(if i<n then some i.toNat else none)else if-(n:Int)<=i then some (i+n).toNat else none
def pU {α:Type}(xs:List α)(i:Int):Option α:=(ES xs.length i).bind λj=>xs[j]?
def HU (h:ES n i=some j):seqIndex? i n=some j/\j<n/\-(n:Int)<=i/\i<n:=by
 unfold ES at h;by_cases b:0<=i
 .rw[i6 b]at h;by_cases a:i<n
  .rw[i6 a]at h;have e:i.toNat=j:=aAl h;exact⟨by rw[seqIndex_of b a,e],by lia,by lia,a⟩
  .rw[ja a]at h;cases h
 .rw[ja b]at h;by_cases a:-(n:Int)<=i
  .rw[i6 a]at h;have e:(i+n).toNat=j:=aAl h;exact⟨by rw[seqIndex_neg (by lia) a,e],by lia,a,by lia⟩
  .rw[ja a]at h;cases h
def GH {α:Type}{xs:List α}{i:Int}{v:α}(h:pU xs i=some v):∃j,seqIndex? i xs.length=some j/\xs[j]?=some v/\j<xs.length/\-(xs.length:Int)<=i/\i<xs.length:=by
 unfold pU at h;cases e:ES xs.length i with
 |none=>rw[e]at h;cases h
 |some j=>rw[e]at h;obtain⟨a,b,c,d⟩:=HU e;exact⟨j,a,h,b,c,d⟩
def UJ (b:df):Prop:=∀o i,subscripted b false o i=operate [o,i] (getItem o i)
def IxR (X:Cx)(r:R2):Prop:=
 ∀(b a:df) (Y:Q6) (s:a9) (σ:St) (H:Hp) (x y:V) (v u:au) (Q:VK),Inv X Y σ H s->RelV x v->RelV y u->r x y H Q->
  subscripted a false v u=operate [v,u] (getItem v u)->av (bc X.prog X.w) X.A (subscriptTail b a v u) (EP X Y σ Q) X.xe s
def MtR (X:Cx)(id:String)(r:V->List V->Hp->VK->Prop):Prop:=
 ∀(Y:Q6) (s:a9) (σ:St) (H:Hp) (x:V) (a:List V) (v:au) (b:List au) (Q:VK),Inv X Y σ H s->RelV x v->n8 a b->r x a H Q->
  av (bc X.prog X.w) X.A (call (.builtin id) (v::b)) (EP X Y σ Q) X.xe s
section
variable{X:Cx} {a b:df} {ta tb:TE} {pos:Pos}
def a2p (K:ka):R2:=λx y H Q=>∃p c i v,x=.ref p/\y=.int i/\P9 K H p c/\pU c i=some v/\Q v H
def a3p (K:ka):R2:=λx y H Q=>∃p c i v,x=.ref p/\y=.int i/\Z6 K H p c/\pU c i=some v/\Q v H
def UO:IxR X (a2p X.K):=by
 intro e f Y s σ H x y v u Q I B C h n;obtain⟨p,xs,i,z,rfl,rfl,E,J,q⟩:=h;cases B;obtain⟨t,rfl⟩:=C;obtain⟨g,r,k,hz⟩:=I.list E;obtain⟨j,d,L,h3,N,O⟩:=GH J;obtain⟨w,o,l⟩:=r.get L;have T:=r.length;have hn:=xR;have c:EP X Y σ Q w s:=⟨z,H,I,l,q⟩;by_cases A:0<=i
 .have m:i.toNat=j:=by rw[seqIndex_of A O]at d;exact aAl d
  exact item_listR k.isList A (by lia) (by rw[m];simpa using o) c n
 .have m:(i+(g.toArray.size:Int)).toNat=j:=by rw[seqIndex_neg (by lia) N]at d;rw[aAn,<-T];exact aAl d
  exact subscriptTail_builtinR (x:=w) k.isList.typeIs aFq.lookup
   (wpAny_getItem_list_neg (Q:=λr U=>r=w/\EP X Y σ Q r U) k.isList (by lia) (by rw[aAn]<;>lia) (by lia) (by rw[m];simpa using o) ⟨rfl,c⟩) n
def ZT:IxR X (a3p X.K):=by
 intro c d Y s σ H x y v u Q I k l h m;obtain⟨p,N,i,z,rfl,rfl,n,o,q⟩:=h;cases k;obtain⟨t,rfl⟩:=l;obtain⟨A,r,g,O⟩:=I.tuple n;obtain⟨j,B,C,T,U,h5⟩:=GH o;obtain⟨w,E,e⟩:=r.get C;have J:=r.length;have hn:=xR;have f:EP X Y σ Q w s:=⟨z,H,I,e,q⟩;exact subscriptTail_builtinR (x:=w) g.typeIs aCC.lookup
  (getItem_tuple (j:=j) (Q:=λr L=>r=w/\EP X Y σ Q r L) g (by lia) (by lia) (by rw[aAn,<-J];exact B) (by simpa using E) ⟨rfl,f⟩) m
def DH (its:List au)(n j:Nat)(u:au):aBI (·.setIfInBounds j u) {cls:=.type "list",data:=.seq its.toArray n}={cls:=.type "list",data:=.seq (its.set j u).toArray n}:=by simp[aBI]
def Inv.lst {Y:Q6}{σ:St}{H:Hp}{s:a9}{p:bb}{xs:List V}(I:Inv X Y σ H s)(h:H p=some (.lst xs)):
  ∃(its:List au) (n:Nat),n8 xs its/\s.heap.get? p=some {cls:=.type "list",data:=.seq its.toArray n}/\xs.length<=sizeLine:=by
 obtain⟨z,its,n,r,e⟩:=I.hok p _ h;exact⟨its,n,r,e,z⟩
def Inv.af6 {Y:Q6}{σ:St}{H:Hp}{s:a9}{p:bb}{xs c:List V}{its its':List au}{n d:Nat}{f:Obj->Obj}(I:Inv X Y σ H s)(h:H p=some (.lst xs))
  (k:s.heap.get? p=some {cls:=.type "list",data:=.seq its.toArray n}) (g:f {cls:=.type "list",data:=.seq its.toArray n}={cls:=.type "list",data:=.seq its'.toArray d}) (r:n8 c its') (hz:c.length<=sizeLine) (t:Nat):
  Inv X Y σ (upd H p (.lst c)) {s with heap:=s.heap.update p f,toks:=t}:=by
 have e:(s.heap.update p f).get? p=some {cls:=.type "list",data:=.seq its'.toArray d}:=by rw[aBh f k (by rw[g]<;>rfl),g]
 refine I.write (x:=p) (e:=p) (by rw[h];trivial) (.inl rfl) (λb u l q=>(aAE _ _<|aCi l).trans q) ⟨_,e⟩ ?_;exact⟨hz,its',d,r,e⟩
def a0f:V->V->V->Hp->(Hp->Prop)->Prop:=λo i v H Q=>∃p c k j,o=.ref p/\i=.int k/\H p=some (.lst c)/\ES c.length k=some j/\Q (upd H p<|.lst (c.set j v))
def OK:jq X a0f:=by
 intro Y s σ H o i v L N u Q I z A B h;obtain⟨p,C,k,j,rfl,rfl,l,E,q⟩:=h;cases z;obtain⟨t,rfl⟩:=A;obtain⟨c,n,r,e,J⟩:=I.lst l;obtain⟨d,O,m,w⟩:=HU E;have f:=r.length;have T:=xR;have x:Inv X Y σ (upd H p<|.lst (C.set j v)) {s with heap:=s.heap.update p (aBI (·.setIfInBounds j u))}:=
  I.af6 l e (DH c n j u) (r.set B j) (by rw[aFQ];exact J) s.toks
 by_cases y:0<=k
 .have g:k.toNat=j:=by rw[seqIndex_of y w]at d;exact aAl d
  exact PySem.W.ki_setAt e y (by lia) (by rw[aAn,<-f];exact w) (by rw[g];exact⟨_,x,q⟩)
 .have g:(k+(c.toArray.size:Int)).toNat=j:=by rw[seqIndex_neg (by lia) m]at d;rw[aAn,<-f];exact aAl d
  exact PySem.W.ki_setBack e (by lia) (by rw[aAn,<-f];exact m) (by lia) (by rw[g];exact⟨_,x,q⟩)
def xT (lo c:Option Int)(n:Nat):(h9 lo c none n).1=((HT.sIx n 0 lo:Nat):Int)/\(h9 lo c none n).2.1=((HT.sIx n n c:Nat):Int)/\(h9 lo c none n).2.2=1:=by
 refine⟨?_,?_,rfl⟩
 .cases lo with
  |none=>simp[h9,HT.sIx]
  |some i=>
   simp only[h9,HT.sIx,Option.getD_none,show(1:Int)>0 by decide,if_true];by_cases h:i<0
   .simp only[h,if_true]<;>lia
   .simp only[h,if_false]<;>lia
 .cases c with
  |none=>simp[h9,HT.sIx]
  |some i=>
   simp only[h9,HT.sIx,Option.getD_none,show(1:Int)>0 by decide,if_true];by_cases h:i<0
   .simp only[h,if_true]<;>lia
   .simp only[h,if_false]<;>lia
def tL (its:List au)(lo c:Option Int):slicePick its.toArray lo c none=((its.drop (HT.sIx its.length 0 lo)).take (HT.sIx its.length its.length c-HT.sIx its.length 0 lo)).toArray:=by obtain⟨d,e,f⟩:=xT lo c its.toArray.size;unfold slicePick;rw[d,e,f];simp only[sliceRange_one,pick_run,aAn]<;>rfl
def a1c (K:ka):V->Option Int->Option Int->Hp->VK->Prop:=λx lo d H Q=>∃a c,x=.ref a/\P9 K H a c/\∀p,H p=none->Q (.ref p) (upd H p<|.lst (zZ c lo d))
def WN:ck X (a1c X.K):=by intro Y s σ H x v t u lo d w Q I f g k l h;obtain⟨a,c,rfl,m,q⟩:=h;cases f;obtain⟨n,r,e,p⟩:=I.list m;have hlen:=r.length;refine⟨"list",_,aFq.lookup,e.isList.typeIs,?_⟩;refine wpAny_getItem_list_slice e.isList g k l .none (by simp) ?_ (by rw[aAn]<;>lia);rw[tL,<-hlen];refine⟨.ref s.heap.objs.size,_,I.laid (t':=s.toks) (o:=.lst (zZ c lo d)) (λb y q=>aAc _ q) (aAj _) ?_,rfl,q _ (I.hok.fresh<|aAj _)⟩;exact⟨aAr (mU c lo d) p,_,0,(r.drop<|HT.sIx c.length 0 lo).take (HT.sIx c.length c.length d-HT.sIx c.length 0 lo),aAq _ rfl⟩
def a1n:V->Bool
 |.non=>true
 |.bl _=>true
 |.int _=>true
 |.str _=>true
 |_=>false
def jV:AO X (.builtin "len") (λxs H Q=>∃p d,xs=[.ref p]/\(P9 X.K H p d\/Z6 X.K H p d)/\Q (.int d.length) H):=by
 intro Y s σ H xs n Q I r h;obtain⟨p,d,rfl,e,q⟩:=h;obtain⟨u,rfl,l⟩:=vals1 r;cases l;have o:=xR;rcases e with e|e
 .obtain⟨f,g,k,m⟩:=I.list e;have c:=g.length;exact Calls.call_len_list k.isList (by simp only[aAn]<;>lia) ⟨.int d.length,H,I.tok _,⟨s.toks+1,by rw[aAn,c]⟩,q⟩
 .obtain⟨f,g,k,m⟩:=I.tuple e;have c:=g.length;exact len_tuple k (by simp only[aAn]<;>lia) ⟨.int d.length,H,I.tok _,⟨s.toks+1,by rw[aAn,c]⟩,q⟩
def kR:AO X (.type "list") (λxs H Q=>∃p f,xs=[.ref p]/\(P9 X.K H p f\/Z6 X.K H p f)/\∀l,H l=none->Q (.ref l) (upd H l (.lst f))):=by
 intro Y s σ H xs L Q I r h;obtain⟨p,f,rfl,m,q⟩:=h;obtain⟨u,rfl,J⟩:=vals1 r;cases J;have t:∀(c:List au),n8 f c->f.length<=sizeLine->∀(d:cv) (g:Nat),(∀b E,s.heap.get? b=some E->d.get? b=some E)->
   d.get? s.heap.objs.size=some {cls:=.type "list",dict:=none,data:=.seq c.toArray g,slots:=#[]}->EP X Y σ Q (.ref s.heap.objs.size) {s with heap:=d}:=λc k v d g x e=>
  ⟨.ref s.heap.objs.size,_,I.laid (t':=s.toks) x (aAj _) (show ObjOk X.prog X.w _ d _ (.lst f)from⟨v,c,g,k,e⟩),rfl,q _ (I.hok.fresh<|aAj _)⟩
 rcases m with m|m
 .obtain⟨c,k,z,v⟩:=I.list m;have y:=k.length;obtain⟨o,A,B,n,C⟩:=z.isList;exact call_list_seq p (.inl rfl) A B C (λd g x e=>t c k v d g x e) (by simp only[aAn]<;>lia)
 .obtain⟨c,k,z,v⟩:=I.tuple m;have y:=k.length;obtain⟨o,A,B,n,C⟩:=z;exact call_list_seq p (.inr rfl) A B C (λd g x e=>t c k v d g x e) (by simp only[aAn]<;>lia)
def gS:AO X (.type "tuple") (λxs H Q=>∃p d,xs=[.ref p]/\((P9 X.K H p d/\∀l,H l=none->Q (.ref l) (upd H l (.tup d)))\/(Z6 X.K H p d/\Q (.ref p) H))):=by
 intro Y s σ H xs A Q I r h;obtain⟨p,d,rfl,h⟩:=h;obtain⟨u,rfl,x⟩:=vals1 r;cases x;rcases h with⟨g,q⟩|⟨g,q⟩
 .obtain⟨c,k,m,n⟩:=I.list g;have t:=k.length;refine call_tuple_list m.isList (λf y=>?_) (by simp only[aAn]<;>lia);have v:Inv X Y σ H {s with heap:=f}:=I.kept (t':=s.toks) y;have z:Inv X Y σ (upd H f.objs.size<|.tup d) {s with heap:=f.push {cls:=.type "tuple",data:=.seq c.toArray}}:=
   v.laid (t':=s.toks) (λb o e=>aAc _ e) (aAj _) (show ObjOk X.prog X.w _ _ _ (.tup d)from⟨n,c,k,IsTup.new _ _⟩)
  exact⟨.ref f.objs.size,_,z,rfl,q _ (v.hok.fresh<|aAj _)⟩
 .obtain⟨c,k,m,n⟩:=I.tuple g;exact call_tuple_same m ⟨.ref p,H,I,rfl,q⟩
def tyV (K : ka) (T : String) (x : V) (H : Hp) : Prop := match x with
  | .str _ => T = "str"
  | .int _ => T = "int"
  | .ref p => (T = "list" ∧ ∃ c, P9 K H p c) ∨ (T = "tuple" ∧ ∃ o, K.lookup p = some o ∧ o.cls = .type "tuple" ∧ o.dict = none) ∨
      (T = "dict" ∧ ((∃ U, H p = some (.dK U)) ∨ ∃ U, H p = some (.dT U))) ∨ (T = "set" ∧ ∃ S n, H p = some (.set S n))
  | _ => False
def PY (I:Inv X Y σ H s)(r:RelV x v)(g:tyV X.K T x H):
  s.TypeIs v T/\∀a,v=.ref a->∃l,s.heap.get? a=some l/\l.dict=none:=by
 cases x with
 |str z=>obtain⟨t,rfl⟩:=r;cases(show T= "str"from g);exact⟨typeIs_str s z t,λ_ e=>nomatch e⟩
 |int i=>obtain⟨t,rfl⟩:=r;cases(show T= "int"from g);exact⟨typeIs_int s i t,λ_ e=>nomatch e⟩
 |ref p=>
  cases r;rcases g with⟨rfl,y,q⟩|⟨rfl,o,d,u,h⟩|⟨rfl,d⟩|⟨rfl,S,n,d⟩
  .obtain⟨w,_,m,_⟩:=I.list q;refine⟨m.isList.typeIs,λa e=>?_⟩;cases e;obtain⟨o,n,e,c,h,_⟩:=m;exact⟨o,e,h⟩
  .refine⟨⟨o,I.kIn p o d,u⟩,λa e=>?_⟩;cases e;exact⟨o,I.kIn _ o d,h⟩
  .have z:∃o,s.heap.get? p=some o/\o.ExactDict:=by
    rcases d with⟨U,d⟩|⟨U,d⟩
    .obtain⟨_,_,_,_,o,_,_,e,f,_⟩:=I.hok p _ d;exact⟨o,e,f⟩
    .obtain⟨_,_,_,_,o,_,_,e,f,_⟩:=I.hok p _ d;exact⟨o,e,f⟩
   obtain⟨o,e,f⟩:=z;refine⟨⟨o,e,f.1⟩,λa k=>?_⟩;cases k;exact⟨o,e,f.2.1⟩
  .obtain⟨o,_,_,_,e,f,_⟩:=I.hok p _ d;refine⟨⟨o,e,f.1⟩,λa k=>?_⟩;cases k;exact⟨o,e,f.2.1⟩
 |_=>exact aAk g
def a3n (K:ka)(T:String)(r:V->List V->Hp->VK->Prop)(d:TE):TE:=λσ H Q=>d σ H λx c=>tyV K T x c/\r x [] c Q
def tBM (K:ka)(T:String)(r:V->List V->Hp->VK->Prop)(d:TE)(t:TA):TE:=λσ H Q=>d σ H λx c=>tyV K T x c/\t σ c λe f=>r x e f Q
variable{o e:df} {es:List df} {to:TE} {t:TA} {name:Str} {apos bf:Pos} {T id:String} {r:V->List V->Hp->VK->Prop}
def QU (g:PlainAttrs T)(slot:Slot T name id)(c:typeOf (.builtin id)=pure (.type "method_descriptor"))(k:MtR X id r)(l:PE X o to)
  (m:gs o name X.env (dC o X.env)=dC o X.env:=by rfl) (n:(apos.endLine==bf.line)=true:=by rfl):PE X (.Call (.Attribute o name apos) [] [] bf) (a3n X.K T r to):=by
 intro Y s σ H Q I h;refine wpAny_Call_method0_late m n (F6 (l Y s σ H _ I h) λv p ⟨x,q,d,f,u,w⟩=>?_);obtain⟨y,z⟩:=PY d f u;exact⟨T,id,g,slot,c,y,z,aFJ rfl (PySem.evalArgs_none<|k Y p σ q x [] v [] Q d f .nil w)⟩
def YB (k:PlainAttrs T)(slot:Slot T name id)(c:typeOf (.builtin id)=pure (.type "method_descriptor"))(l:MtR X id r)(m:PE X o to)(n:PA X (e::es) t)
  (p:gs o name X.env (dC o X.env)=dC o X.env:=by rfl)
  (q:((dq bf (a5 (e::es) X.env)).all (λx=>!x.1)&&(backToKw bf (keywordEach [] X.env)).all (λx=>x.1.isSome)
   &&decide ((e::es).length+([]:List Keyword).length+(if([]:List Keyword).isEmpty then 0 else 1)<30))=true:=by rfl)
  (u:(apos.endLine==bf.line)=true:=by rfl) (w:a5 (e::es) X.env=(false,dC e X.env)::a5 es X.env:=by rfl) (y:(dq bf (a5 es X.env)).any (·.1)=false:=by rfl):
  PE X (.Call (.Attribute o name apos) (e::es) [] bf) (tBM X.K T r to t):=by
 intro Y s σ H Q I h;refine wpAny_Call_method_late p q u rfl (F6 (m Y s σ H _ I h) λv z ⟨x,A,d,f,B,C⟩=>?_);obtain⟨E,J⟩:=PY d f B;refine⟨T,id,k,slot,c,E,J,?_⟩;have g:=n bf Y z σ A _ d C;rw[w]at g⊢;refine aFJ (by show(false||(dq bf<|a5 es X.env).any (·.1))=false;rw[y]<;>rfl) (Calls.evalArgs_plain ?_);exact F6 g λL N ⟨O,U,I2,r2,q2⟩=>l Y N σ U x O v L Q I2 f r2 q2
end
def MtM (X:Cx)(id:String)(r:V->List V->Hp->VK->Prop):Prop:=
 ∀(Y:Q6) (s:a9) (σ:St) (H:Hp) (x:V) (a:List V) (v:au) (b:List au) (Q:VK),Inv X Y σ H s->RelV x v->n8 a b->r x a H Q->
  av (bc X.prog X.w) X.A (call (.builtin id) (v::b)) (EP X Y σ Q) X.xe s
theorem n8.one:∀{x:V} {a:List au},n8 [x] a->∃u,a=[u]/\RelV x u
 |_,_,.cons r .nil=>⟨_,rfl,r⟩
theorem n8.zero:∀{a:List au},n8 [] a->a=[]
 |_,.nil=>rfl
def n8.dropLast (h:n8 xs a):n8 xs.dropLast a.dropLast:=by
 induction h with
 |nil=>exact .nil
 |cons r t b=>
  cases t with
  |nil=>exact .nil
  |cons q c=>exact .cons r b
def n8.reverse (h:n8 xs a):n8 xs.reverse a.reverse:=by
 induction h with
 |nil=>exact .nil
 |cons r t b=>rw[aAK,aAK];exact n8.append b (.cons r .nil)
def DN {α:Type}(l:List α):l.eraseIdx (l.length-1)=l.dropLast:=by
 induction l with
 |nil=>rfl
 |cons a r c=>
  cases r with
  |nil=>rfl
  |cons b r=>
   have e:(a::b::r).length-1=((b::r).length-1)+1:=by
    have d:(a::b::r).length=r.length+2:=rfl;have f:(b::r).length=r.length+1:=rfl
    lia
   rw[e,aFw,c]
   all_goals rfl
section
variable{X:Cx} {Y:Q6} {σ:St} {H:Hp} {s:a9} {l b:bb} {xs ys zs:List V}
def Inv.af3 {its its':List au}{n:Nat}{f:Array au->Array au}{t':Nat}(I:Inv X Y σ H s)(a:H l=some (.lst xs))
  (e:s.heap.get? l=some {cls:=.type "list",data:=.seq its.toArray n}) (c:f its.toArray=its'.toArray) (d:n8 ys its') (hz:ys.length<=sizeLine):
  Inv X Y σ (upd H l (.lst ys)) {s with heap:=s.heap.update l (aBI f),toks:=t'}:=by
 have q:=PySem.IsL.update e f;rw[c]at q;refine I.write (x:=l) (e:=l) (by rw[a];exact trivial) (.inl rfl) (λk u g h=>(aAE s.heap (aBI f)<|aCi g).trans h) ⟨_,q⟩ ?_;exact⟨hz,its',_,d,q⟩
def Inv.ag2 (I:Inv X Y σ H s)(a:n8 ys its)(hz:ys.length<=sizeLine):
  Inv X Y σ (upd H s.heap.objs.size (.lst ys)) {s with heap:=s.heap.push {cls:=.type "list",data:=.seq its.toArray},toks:=t'}:=
 I.laid (λ_ _ q=>aAc _ q) (aAj _) ⟨hz,its,0,a,aAq _ rfl⟩
def Inv.fresh (I:Inv X Y σ H s):H s.heap.objs.size=none:=I.hok.fresh (aAj _)
def Inv.af2 (I:Inv X Y σ H s)(a:H l=some (.lst xs)):xs.length<=sizeLine/\∃(its:List au) (n:Nat),n8 xs its/\xs.length=its.length/\s.heap.get? l=some {cls:=.type "list",data:=.seq its.toArray n}:=by obtain⟨z,its,n,r,e⟩:=I.hok l _ a;exact⟨z,its,n,r,r.length,e⟩
def NV (h:n<=sizeLine):aCU n=false:=by unfold aCU;exact decide_eq_false (by lia)
end
section
variable{X:Cx}
def UI:V->List V->Hp->VK->Prop:=λx b H Q=>∃l a y,x=.ref l/\b=[y]/\H l=some (.lst a)/\a.length<sizeLine/\Q .non (upd H l<|.lst (a++[y]))
def vM:MtM X "list.append" UI:=by
 intro Y s σ H x g v k Q I c d h;obtain⟨l,m,y,rfl,rfl,b,o,q⟩:=h;cases c;obtain⟨u,rfl,f⟩:=d.one;obtain⟨z,a,n,r,p,e⟩:=I.af2 b;refine call_meets F.slot_list_append ⟨_,e,rfl⟩ F.entry_list_append (F.args_list_append_2 _ _) (PySem.list_append l a.toArray n u (by rw[aAn];lia)) ⟨e,?_⟩;refine⟨.non,_,I.af3 (its':=a++[u]) b e (by simp) (r.append<|.cons f .nil) ?_,rfl,q⟩;rw[aAx,List.length_singleton]
 lia
def a2v:V->List V->Hp->VK->Prop:=λx b H Q=>∃l a y,x=.ref l/\b=[]/\H l=some (.lst a)/\a[a.length-1]?=some y/\Q y (upd H l<|.lst a.dropLast)
def SQ:MtM X "list.pop" a2v:=by
 intro Y s σ H x t v w Q I f g h;obtain⟨l,A,y,rfl,rfl,d,k,q⟩:=h;cases f;have b:=g.zero;subst b;obtain⟨z,a,n,r,m,e⟩:=I.af2 d;obtain⟨u,o,p⟩:=r.get k;have c:a.toArray[a.toArray.size-1]?=some u:=by show a.toArray[a.length-1]?=some u;rw[<-aAD,<-m];exact o
 refine call_meets F.slot_list_pop ⟨_,e,rfl⟩ F.entry_list_pop (F.args_list_pop_1 _) (MeetsSeq.list_pop_last l a.toArray n u c (by rw[aAn];lia)) ⟨e,?_⟩;refine⟨y,_,I.af3 (its':=a.dropLast) d e ?_ r.dropLast ?_,p,q⟩
 .show a.toArray.eraseIdxIfInBounds (a.toArray.size-1)=a.dropLast.toArray;rw[aAn,List.eraseIdxIfInBounds_toArray,DN]
 .rw[aFW]
  lia
end
section
variable{prog:be} {w:cq} {A:cp} {E:F5} {s:a9}
end
section
variable{X:Cx}
end
end L2
namespace Att
open PySem PySem.W PySem.Calls PyProof.Rows
def nS:∀(ns:List Int) (vs:List au),WellAll P h vs (ns.map WData.int)->IntsAre vs ns:=by
 intro ns;induction ns with
 |nil=>intro vs w;rw[aDS]at w;cases w;exact .nil
 |cons n ns c=>
  intro vs w;rw[aAu]at w;cases w with
  |cons a b=>cases a;exact .cons _ _ (c _ b)
def script_of {l:OpenLaw}{n:Nat}(o:l.most=some n){P:Params}{h:cv}{args:List WData}{b:List au}
  (k:l.row.toRowW.claim.pre args=true) (p:WellAll P h b args):
  ∃a vs ns,b=[aDu a]/\args=[WData.list (ns.map WData.int)]/\h.get? a=some {cls:=.type "list",data:=.seq vs.toArray}/\IntsAre vs ns/\ns.length<=n:=by
 have g:WShape.hasAll [] args [.list .int]=true:=(pre_splitW k).1;have m:l.pre.holds [] {args:=args}=true:=(pre_splitW k).2;obtain⟨d,r,rfl,s,t⟩:=hasAllW_cons g;obtain rfl:=hasAllW_nil t;obtain⟨A,rfl,u⟩:=hasW_list s;obtain⟨ns,rfl⟩:=items_int u;have c:ns.length<=n:=by
  unfold OpenLaw.pre at m;have e:(WTm.not<|.lt (.lit (.int (n:Int))) (.len (.arg 0))).holds [] {args:=[.list (ns.map .int)]}=true:=by have e:=(holds_andW m).1;rw[o]at e;exact e
  have f:=condW_of e (w_not<|w_lt w_lit<|w_len_list<|w_arg rfl);rw[aAf]at f;refine aEt λq=>?_;have v:(n:Int)<((ns.length:Nat):Int):=by lia
  first
   |(rw[decide_eq_true v]at f;exact absurd f (by decide))
   |(simp at f;lia)
 cases p with
 |cons w x=>
  cases x;cases w with
  |list y z=>exact⟨_,_,ns,rfl,rfl,y,nS ns _ z,c⟩
def post_true (l:OpenLaw)(args:List WData):l.row.toRowW.claim.post args (.bool true) args=true:=
 postW_of (r:=l.row.toRowW) (X:=(true==true))
  (show WShape.has [] (.bool true) .bool=true by first|rfl|decide|simp[WShape.has,WShape.arms,WShape.armsAll])
  (show(WTm.eq .res (.lit (.bool true))).value [] {args:=args,res:=some (.bool true),after:=args}=some (.bool (true==true))from w_eq_bool (w_res rfl) w_lit) rfl
section
variable{prog:be} {w:cq} {A:cp} {E:F5} {s:a9} {K:Frag}
def a2m (h:cv)(L d:bb):List (bb×Obj):=(aAQ h.objs.size).filterMap λa=>if a=L\/a=d then none else(h.get? a).map λo=>(a,o)
end
end Att
namespace L2
open PySem PySem.Spec PyProof.Rows
theorem Y1:∀{vs:List au} {ns:List Int},IntsAre vs ns->n8 (ns.map V.int) vs
 |_,_,.nil=>.nil
 |_,_,.cons n t h=>.cons ⟨t,rfl⟩ (Y1 h)
def G8 (s:dm):Arguments:=match s with
 |.FunctionDef _ a _ _ _ _ _ _ _ _=>a
 |_=>{posonlyargs:=[],args:=[],vararg:=none,kwonlyargs:=[],kw_defaults:=[],kwarg:=none,defaults:=[]}
def u9 (s:dm):List dm:=match s with
 |.FunctionDef _ _ b _ _ _ _ _ _ _=>b
 |_=>[]
def c7 (s:dm):i4:=match s with
 |.FunctionDef _ _ _ _ _ _ a _ _ _=>a
 |_=>{kind:=.function,names:=[],isGenerator:=false,isCoroutine:=false}
abbrev wN:TH:=λ_ _ _ _ _ _=>False
abbrev E0:XK:=λ_ _ _=>False
def wq:FS wN X E0:=λ_ _ _ _ _ _ _ h=>h.elim
structure Fun (K:PySem.W.Frag)(x qual:Str)(st:Stmt)(f:Addr)(fd:FuncData):Prop where
 ex:∃(oc:Value) (od:Option Addr) (kV doc pm:Value) (an:Option Addr) (T ct:Value) (osl:Array (Option Value)),
  fd=PySem.W.fnOf x qual (G8 st) (u9 st) (c7 st) .none kV doc pm an T ct/\K.lookup f=some ⟨oc,od,.func fd,osl⟩/\PySem.W.codeIn K T qual=true
 kp:PySem.W.keepIn K (.ref f)=true
section
variable{P:be} {w:cq} {K:ka} {mg:fL} {base:cv}
def Fun.ok {x qual:Str}{st:dm}{f:bb}{fd:d9}{N ps:List Str}{k:Nat}{b:Sp}(F:Fun K x qual st f fd)(S:FnScope N ps (c7 st))(len:∀vs H Q E,b vs H Q E->vs.length=ps.length)
  (d:∀(T:au) (A:cp) (a:List Env) (s:a9) (H:Hp) (vs:List V) (Q:VK) (E:XK),Room k (A.deeper (envOfC qual (c7 st) s.heap.objs.size f T))->b vs H Q E->
   ∃t,xQ (CQ wN P w K mg base N qual (c7 st) f T A a s H E).nox (u9 st) t/\t {nx:=λ_ H'=>Q .non H',rt:=Q} (start N vs) H):FnOk P w K mg base wN (k+1) f fd ps b:=by
 obtain⟨n,o,kV,e,p,r,T,u,g,rfl,lk,l⟩:=F.ex;refine YF lk l S len λA a s H vs Q E m c=>?_;obtain⟨t,h,q⟩:=d T A a s H vs Q E m c;exact⟨t,h.nox,q⟩
def Fun.binds {x qual:Str}{st:dm}{f:bb}{fd:d9}{ps:List Str}(F:Fun K x qual st f fd)
  (h:∀(kV a b:au) (c:Option bb) (T ct:au) (d:List au),d.length=ps.length->bindArgs (PySem.W.fnOf x qual (G8 st) (u9 st) (c7 st) .none kV a b c T ct) ⟨d,[]⟩=pure (ps.zip d)):Binds K fd ps []:=by
 obtain⟨g,k,kV,a,b,c,T,ct,e,rfl,lk,l⟩:=F.ex;exact .all (h kV a b c T ct)
def OA {x qual:Str}{st:dm}{f:bb}{g:au}{h d:Option bb}{b:Array (Option au)}{kV a e T ct:au}(l:K.lookup f=some ⟨g,h,.func (PySem.W.fnOf x qual (G8 st) (u9 st) (c7 st) .none kV a e d T ct),b⟩)
 (c:PySem.W.codeIn K T qual=true) (k:PySem.W.keepIn K (.ref f)=true):Fun K x qual st f (PySem.W.fnOf x qual (G8 st) (u9 st) (c7 st) .none kV a e d T ct):=⟨⟨g,h,kV,a,e,d,T,ct,b,rfl,l,c⟩,k⟩
end
section
variable{X:Cx}
end
def Same (H H':Hp):Prop:=∀b o,H b=some o->H' b=some o
def Same.refl (H:Hp):Same H H:=λ_ _ h=>h
def Same.trans (a:Same H d)(b:Same d e):Same H e:=λc o h=>b c o (a c o h)
def Same.seq {K:ka}{H H':Hp}{a:bb}{xs:List V}(e:Same H H')(h:P9 K H a xs):P9 K H' a xs:=by
 rcases h with(h|⟨o,h⟩)|h
 .exact .inl (.inl (e _ _ h))
 .exact .inl (.inr ⟨o,e _ _ h⟩)
 .exact .inr h
end L2
namespace DL
open PySem PySem.Spec L2
open PyProof.Rows hiding St
section
inductive D where
 |non|bl (b:Bool)|int (i:Int)|str (x:Str)|tup (xs:List D)|lst (xs:List D)|dct
mutual
def p7:D->Int
 |.int i=>hashInt i
 |.tup a=>reduceHash (aAM (wL a))
 |_=>0
def wL:List D->List Int
 |[]=>[]
 |x::a=>p7 x::wL a
end
def V9:Nat->D->Bool
 |_,.int _=>true
 |n+1,.tup a=>a.all (V9 n)
 |_,_=>false
inductive R (α:Type)where
 |ok (a:α)|ex (e:Str)|bad
def R.bind {α β:Type}:R α->(α->R β)->R β
 |.ok a,f=>f a
 |.ex e,_=>.ex e
 |.bad,_=>.bad
@[simp]def R.aa0 {α β:Type}(a:α)(f:α->R β):(R.ok a).bind f=f a:=rfl
section
variable(K:ka) (H:Hp) (O:bb->Prop)
mutual
inductive Rep:V->D->Prop
 |non:Rep .non .non
 |bl {b:Bool}:Rep (.bl b) (.bl b)
 |int {i:Int}:Rep (.int i) (.int i)
 |str {x:Str}:Rep (.str x) (.str x)
 |tup {a:Addr} {vs:List V} {ds:List D} (h:Z6 K H a vs) (r:Reps vs ds):Rep (.ref a) (.tup ds)
 |lst {a:Addr} {vs:List V} {ds:List D} (h:P9 K H a vs) (n:¬O a) (r:Reps vs ds):Rep (.ref a) (.lst ds)
 |dct {a:Addr} {o:Obj} (h:H a=some (.ext λh=>h.get? a=some o)) (x:o.ExactDict) (n:¬O a):Rep (.ref a) .dct
inductive Reps:List V->List D->Prop
 |nil:Reps [] []
 |cons {v:V} {d:D} {vs:List V} {ds:List D} (h:Rep v d) (t:Reps vs ds):Reps (v::vs) (d::ds)
end
end
section
variable{K:ka}
def _root_.L2.Same.tup {a:bb}{xs:List V}(e:Same H H')(h:Z6 K H a xs):Z6 K H' a xs:=by
 rcases h with(h|⟨o,h⟩)|h
 .exact .inl (.inl (e _ _ h))
 .exact .inl (.inr ⟨o,e _ _ h⟩)
 .exact .inr h
mutual
theorem Rep.mono (e:∀a xs,Z6 K H a xs->Z6 K H' a xs)(b:∀a xs,¬O a->P9 K H a xs->¬f a/\P9 K H' a xs)(c:∀a φ,¬O a->H a=some (.ext φ)->¬f a/\H' a=some (.ext φ)):∀{v:V} {d:D},Rep K H O v d->Rep K H' f v d
 |_,_,.non=>.non
 |_,_,.bl=>.bl
 |_,_,.int=>.int
 |_,_,.str=>.str
 |_,_,.tup h r=>.tup (e _ _ h) (Reps.mono e b c r)
 |_,_,.lst h n r=>.lst (b _ _ n h).2 (b _ _ n h).1 (Reps.mono e b c r)
 |_,_,.dct h x n=>.dct (c _ _ n h).2 x (c _ _ n h).1
theorem Reps.mono (b:∀a xs,Z6 K H a xs->Z6 K H' a xs)(c:∀a xs,¬O a->P9 K H a xs->¬d a/\P9 K H' a xs)(e:∀a φ,¬O a->H a=some (.ext φ)->¬d a/\H' a=some (.ext φ)):∀{vs:List V} {ds:List D},Reps K H O vs ds->Reps K H' d vs ds
 |_,_,.nil=>.nil
 |_,_,.cons h t=>.cons (Rep.mono b c e h) (Reps.mono b c e t)
end
def Rep.same (e:Same H H')(r:Rep K H O v d):Rep K H' O v d:=r.mono (λ_ _ h=>e.tup h) (λ_ _ n h=>⟨n,e.seq h⟩) λ_ _ n h=>⟨n,e _ _ h⟩
def Reps.same (e:Same H H')(r:Reps K H O v d):Reps K H' O v d:=r.mono (λ_ _ h=>e.tup h) (λ_ _ n h=>⟨n,e.seq h⟩) λ_ _ n h=>⟨n,e _ _ h⟩
def Rep.sub (e:∀a,b a->O a)(r:Rep K H O v d):Rep K H b v d:=r.mono (λ_ _ h=>h) (λ_ _ n h=>⟨λz=>n (e _ z),h⟩) λ_ _ n h=>⟨λz=>n (e _ z),h⟩
def Reps.sub (e:∀a,b a->O a)(r:Reps K H O v d):Reps K H b v d:=r.mono (λ_ _ h=>h) (λ_ _ n h=>⟨λz=>n (e _ z),h⟩) λ_ _ n h=>⟨λz=>n (e _ z),h⟩
theorem Reps.length:∀{vs:List V} {ds:List D},Reps K H O vs ds->vs.length=ds.length
 |_,_,.nil=>rfl
 |_,_,.cons _ t=>by simp[Reps.length t]
theorem Reps.get:∀{vs:List V} {ds:List D} {i:Nat} {d:D},Reps K H O vs ds->ds[i]?=some d->∃v,vs[i]?=some v/\Rep K H O v d
 |_,_,_,_,.nil,e=>by simp at e
 |_,_,0,_,.cons r _,e=>by simp at e;subst e;exact⟨_,rfl,r⟩
 |_,_,i+1,d,.cons _ t,e=>by obtain⟨u,a,b⟩:=Reps.get (i:=i) (d:=d) t (by simpa using e);exact⟨u,by simpa using a,b⟩
theorem Reps.append:∀{vs ws:List V} {ds es:List D},Reps K H O vs ds->Reps K H O ws es->Reps K H O (vs++ws) (ds++es)
 |_,_,_,_,.nil,s=>s
 |_,_,_,_,.cons r t,s=>.cons r (Reps.append t s)
theorem Reps.take:∀{vs:List V} {ds:List D} (n:Nat),Reps K H O vs ds->Reps K H O (vs.take n) (ds.take n)
 |_,_,0,_=>.nil
 |_,_,_+1,.nil=>.nil
 |_,_,n+1,.cons r t=>.cons r (Reps.take n t)
theorem Reps.drop:∀{vs:List V} {ds:List D} (n:Nat),Reps K H O vs ds->Reps K H O (vs.drop n) (ds.drop n)
 |_,_,0,r=>r
 |_,_,_+1,.nil=>.nil
 |_,_,n+1,.cons _ t=>Reps.drop n t
theorem Reps.set (r:Rep K H O v d):∀{vs:List V} {ds:List D} (i:Nat),Reps K H O vs ds->Reps K H O (vs.set i v) (ds.set i d)
 |_,_,_,.nil=>.nil
 |_,_,0,.cons _ t=>.cons r t
 |_,_,i+1,.cons q t=>.cons q (Reps.set r i t)
def Reps.dropLast (r:Reps K H O vs ds):Reps K H O vs.dropLast ds.dropLast:=by rw[aEp,aEp,r.length];exact r.take _
def Reps.snoc (r:Reps K H O vs ds)(h:Rep K H O v d):Reps K H O (vs++[v]) (ds++[d]):=r.append (.cons h .nil)
theorem Reps.ints:∀(ns:List Int),Reps K H O (ns.map V.int) (ns.map D.int)
 |[]=>.nil
 |_::ns=>.cons .int (Reps.ints ns)
theorem Reps.reverse:∀{vs:List V} {ds:List D},Reps K H O vs ds->Reps K H O vs.reverse ds.reverse
 |_,_,.nil=>.nil
 |_,_,.cons r t=>by rw[aAK,aAK];exact(Reps.reverse t).snoc r
end
def Kp (H:Hp)(O:bb->Prop)(H':Hp)(a:bb->Prop):Prop:=∀b o,H b=some o->¬O b->H' b=some o/\¬a b
section
def Kp.refl (H:Hp)(O:bb->Prop):Kp H O H O:=λ_ _ h n=>⟨h,n⟩
def Kp.of (s:Same H H'):Kp H O H' O:=λb o h n=>⟨s b o h,n⟩
def Kp.trans (a:Kp H O H' f)(b:Kp H' f d e):Kp H O d e:=λc o h n=>let⟨g,k⟩:=a c o h n;b c o g k
end
class Tabs where
 tbs:List (Addr×List (Pos×Str))
inductive Sl where
 |no|v (d:D)|o (xs:List D)|x (C:Value)|c (m:List D->R D) (φ:Hp->(Addr->Prop)->Addr->Prop)|d (U:List (D×D))
abbrev Ev:=List Sl
def Mt:HO->Prop
 |.lst _=>True
 |.dK _=>True
 |.dT _=>True
 |.ext _=>True
 |_=>False
def nW (K:ka)(H:Hp)(O:bb->Prop)(es:List ij)(U:List (D×D)):Prop:=
 Paired (λ(e:ij) (p:D×D)=>(∃a,e.key=.ref a/\Rep K H O (.ref a) p.1)/\(∃v,RelV v e.val/\Rep K H O v p.2)/\e.hash=p7 p.1/\V9 7 p.1=true) es U
def MK (a:bb)(o:Obj)(es:List ij):Prop:=(a==gW)=false/\o.ExactDict/\∃b c,o.data=.dict b c/\b.toList=es
def LU:Sl->Prop
 |.o _=>True
 |.d _=>True
 |_=>False
section
variable(K:ka) (H9 H:Hp) (O:bb->Prop)
def cW (x:Option (Option V)):Sl->Prop
 |.no=>True
 |.v d=>∃v,x=some (some v)/\Rep K H O v d
 |.o k=>∃a b,x=some (some (V.ref a))/\O a/\H9 a=none/\H a=some (.lst b)/\Reps K H O b k
 |.x C=>∃a o,x=some (some (V.ref a))/\H a=some (.frz o (.own a))/\o.cls=C
 |.c m φ=>∃a,x=some (some (V.ref a))/\∀e f,Kp H O e f->φ e f a
 |.d U=>∃a o g,x=some (some (V.ref a))/\O a/\H9 a=none/\H a=some (.ext λh=>h.get? a=some o)/\MK a o g/\nW K H O g U/\(U.map (·.1)).Nodup
end
variable [Tabs]
def Tb (H:Hp):Prop:=∀p∈Tabs.tbs,H p.1=some (.tbl p.2)
structure EnvOk (K:PySem.W.Frag)(H9:Hp)(O0:Addr->Prop)(H:Hp)(O:Addr->Prop)(σ:St)(ρ:Ev):Prop where
 len:σ.length=ρ.length
 same:Same H9 H
 sub:∀a,O0 a->O a
 trk:∀a,O a->∃o,H a=some o/\Mt o
 trk0:∀a,O0 a->∃o,H9 a=some o
 tab:Tb H
 slot:∀(i:Nat) (sl:Sl),ρ[i]?=some sl->cW K H9 H O σ[i]? sl
 inj:∀(i j:Nat) (x y:Sl) (a:Addr),ρ[i]?=some x->ρ[j]?=some y->LU x->LU y->σ[i]?=some (some (V.ref a))->σ[j]?=some (some (V.ref a))->i=j
section
variable{K:ka} {O0 O O':bb->Prop}
def Tb.same (h:Tb H)(s:Same H H'):Tb H':=λp a=>s _ _ (h p a)
def EnvOk.val (E:EnvOk K a O0 H O σ ρ)(i:Nat)(d:D)(h:ρ[i]?=some (Sl.v d)):∃v,σ[i]?=some (some v)/\Rep K H O v d:=E.slot i _ h
def EnvOk.own (E:EnvOk K b O0 H O σ ρ)(i:Nat)(xs:List D)(h:ρ[i]?=some (Sl.o xs)):∃a vs,σ[i]?=some (some (V.ref a))/\O a/\b a=none/\H a=some (.lst vs)/\Reps K H O vs xs:=E.slot i _ h
def nW.mono (f:∀{v:V} {d:D},Rep K H O v d->Rep K H' O' v d):∀{U:List (D×D)},nW K H O es U->nW K H' O' es U:=λ{_} r=>Paired.af7 r λ_ _ ⟨⟨v,a,b⟩,⟨w,c,e⟩,g⟩=>⟨⟨v,a,f b⟩,⟨w,c,f e⟩,g⟩
def cW.move (h:cW K A H O x sl)(l:∀a xs,Z6 K H a xs->Z6 K H' a xs)(p:∀a xs,¬O a->P9 K H a xs->¬O' a/\P9 K H' a xs)(B:∀a o u,H a=some (.frz o u)->H' a=some (.frz o u))(q:Kp H O H' O')(z:LU sl->∀a o,x=some (some (V.ref a))->O a->H a=some o->O' a/\H' a=some o):cW K A H' O' x sl:=by
 have s:∀a φ,¬O a->H a=some (.ext φ)->¬O' a/\H' a=some (.ext φ):=λa φ n h=>⟨(q a _ h n).2,(q a _ h n).1⟩;cases sl with
 |no=>trivial
 |v d=>obtain⟨v,b,e⟩:=h;exact⟨v,b,e.mono l p s⟩
 |o xs=>obtain⟨a,E,b,e,f,t,w⟩:=h;obtain⟨g,y⟩:=z trivial a _ b e t;exact⟨a,E,b,g,f,y,w.mono l p s⟩
 |x C=>obtain⟨a,o,b,e,f⟩:=h;exact⟨a,o,b,B _ _ _ e,f⟩
 |c m φ=>obtain⟨a,b,e⟩:=h;exact⟨a,b,λI J k=>e I J (q.trans k)⟩
 |d U=>obtain⟨a,o,L,b,e,f,t,w,g⟩:=h;obtain⟨y,N⟩:=z trivial a _ b e t;exact⟨a,o,L,b,y,f,N,w,g.1.mono λr=>r.mono l p s,g.2⟩
def cW.grow (h:cW K a H O x sl)(e:Same H H'):cW K a H' O x sl:=
 h.move (λ_ _ q=>e.tup q) (λ_ _ n q=>⟨n,e.seq q⟩) (λ_ _ _ q=>e _ _ q) (Kp.of e) λ_ _ _ _ b c=>⟨b,e _ _ c⟩
def EnvOk.grow (E:EnvOk K b O0 H O σ ρ)(e:Same H H'):EnvOk K b O0 H' O σ ρ where
 len:=E.len
 same:=E.same.trans e
 sub:=E.sub
 trk:=λa h=>let⟨o,q,m⟩:=E.trk a h;⟨o,e a o q,m⟩
 trk0:=E.trk0
 tab:=E.tab.same e
 slot:=λi c h=>(E.slot i c h).grow e
 inj:=E.inj
def EnvOk.fresh (E:EnvOk K a O0 H O σ ρ)(h:H p=none):¬O p:=λz=>by obtain⟨o,q,_⟩:=E.trk p z;rw[h]at q;cases q
def y9 {α:Type}{l:List α}{i j:Nat}{x:α}(h:i≠j):(l.set i x)[j]?=l[j]?:=aCw h
def C5 {α:Type}{l:List α}{i:Nat}{x y:α}(h:(l.set i x)[i]?=some y):y=x/\i<l.length:=by
 have a:i<l.length:=by have:=(aAy.mp h).1;simpa using this
 rw[aBL a]at h;exact⟨(aAl h).symm,a⟩
def EnvOk.put (E:EnvOk K d O0 H O σ ρ){v:Option V}{sl:Sl}(i:Nat)(no:¬LU sl)(r:cW K d H O (some v) sl):EnvOk K d O0 H O (σ.set i v) (ρ.set i sl)where
 len:=by simpa using E.len
 same:=E.same
 sub:=E.sub
 trk:=E.trk
 trk0:=E.trk0
 tab:=E.tab
 slot:=λj s h=>by
  by_cases f:i=j
  .subst f;obtain⟨e,t⟩:=C5 h;subst e;rw[aBL (by rw[E.len];exact t)];exact r
  .rw[y9 f]at h⊢;exact E.slot j s h
 inj:=λj k x y a b c g m n p=>by
  have ne:∀(l:Nat) (z:Sl),(ρ.set i sl)[l]?=some z->LU z->i≠l:=λl z q o e=>by subst e;obtain⟨e,_⟩:=C5 q;subst e;exact no o
  have u:=ne j x b g;have w:=ne k y c m;rw[y9 u]at b n;rw[y9 w]at c p;exact E.inj j k x y a b c g m n p
def EnvOk.set (E:EnvOk K a O0 H O σ ρ)(i:Nat)(r:Rep K H O v d):EnvOk K a O0 H O (σ.set i (some v)) (ρ.set i (.v d)):=E.put i (λz=>z) ⟨v,rfl,r⟩
def cW.at_ (h:cW K g H O x sl)(o:LU sl):∃a u,x=some (some (V.ref a))/\O a/\g a=none/\H a=some u/\Mt u:=by
 cases sl with
 |o k=>obtain⟨a,l,b,c,e,f,_⟩:=h;exact⟨a,_,b,c,e,f,trivial⟩
 |d U=>obtain⟨a,u,m,b,c,e,f,_⟩:=h;exact⟨a,_,b,c,e,f,trivial⟩
 |_=>exact o.elim
def EnvOk.af4 (E:EnvOk K p O0 H O σ ρ){a:bb}{sl:Sl}(i:Nat)(t:∀(j:Nat) (y:Sl),i≠j->ρ[j]?=some y->LU y->σ[j]?≠some (some (V.ref a)))(r:cW K p H O (some (some (V.ref a))) sl):
  EnvOk K p O0 H O (σ.set i (some (V.ref a))) (ρ.set i sl)where
 len:=by simpa using E.len
 same:=E.same
 sub:=E.sub
 trk:=E.trk
 trk0:=E.trk0
 tab:=E.tab
 slot:=λj s h=>by
  by_cases c:i=j
  .subst c;obtain⟨e,w⟩:=C5 h;subst e;rw[aBL (by rw[E.len];exact w)];exact r
  .rw[y9 c]at h⊢;exact E.slot j s h
 inj:=λj k x y b m n u v f g=>by
  have at_:∀(l:Nat),i=l->(σ.set i<|some<|V.ref a)[l]?=some (some<|V.ref b)->b=a:=λl e q=>by subst e;obtain⟨e,_⟩:=C5 q;injection e with e;injection e
  by_cases c:i=j
  .by_cases d:i=k
   .exact c.symm.trans d
   .exfalso;have o:=at_ j c f;subst o;rw[y9 d]at n g;exact t k y d n v g
  .by_cases d:i=k
   .exfalso;have o:=at_ k d g;subst o;rw[y9 c]at m f;exact t j x c m u f
   .rw[y9 c]at m f;rw[y9 d]at n g;exact E.inj j k x y b m n u v f g
def k7 (h:H p=none)(o:HO):Same H (upd H p o):=λb u q=>by rw[m8 (u7 q h)];exact q
def EnvOk.ab8 (E:EnvOk K f O0 H O σ ρ)(h:H a=none)(g:K.lookup a=none)(m:Mt u):EnvOk K f O0 (upd H a u) (λb=>O b\/b=a) σ ρ:=by
 have s:=k7 h u;have ne:∀b c,P9 K H b c->b≠a:=λb c q z=>by
  subst z;rcases q with(q|⟨o,q⟩)|⟨o,_,_,q,_⟩
  .rw[h]at q;cases q
  .rw[h]at q;cases q
  .rw[g]at q;cases q
 refine⟨E.len,E.same.trans s,λb z=>.inl (E.sub b z),λb z=>?_,E.trk0,E.tab.same s,λi k e=>?_,E.inj⟩
 .rcases z with z|z
  .obtain⟨o,q,m⟩:=E.trk b z;exact⟨o,s b o q,m⟩
  .subst z;exact⟨_,j7,m⟩
 .exact(E.slot i k e).move (λ_ _ q=>s.tup q) (λb c n q=>⟨λz=>z.elim n (ne b c q),s.seq q⟩) (λ_ _ _ q=>s _ _ q) (λb o d n=>⟨s b o d,λz=>z.elim n λe=>by subst e;rw[h]at d;cases d⟩) λ_ b o _ l p=>⟨.inl l,s _ _ p⟩
def nj (h:H a=none)(c:K.lookup a=none)(q:P9 K H b xs):b≠a:=λz=>by
 subst z;rcases q with(q|⟨o,q⟩)|⟨o,_,_,q,_⟩
 .rw[h]at q;cases q
 .rw[h]at q;cases q
 .rw[c]at q;cases q
def Reps.ab8 (h:H a=none)(c:K.lookup a=none)(r:Reps K H O v d):Reps K (upd H a u) (λb=>O b\/b=a) v d:=
 r.mono (λ_ _ q=>(k7 h u).tup q) (λb e n q=>⟨λz=>z.elim n (nj h c q),(k7 h u).seq q⟩) λb φ n q=>⟨λz=>z.elim n (u7 q h),k7 h u _ _ q⟩
def EnvOk.ae1 (E:EnvOk K d O0 H O σ ρ)(i:Nat)(h:H a=none)(g:K.lookup a=none)(m:Mt u)(r:d a=none->cW K d (upd H a u) (λb=>O b\/b=a) (some (some (V.ref a))) sl):
  EnvOk K d O0 (upd H a u) (λb=>O b\/b=a) (σ.set i (some (.ref a))) (ρ.set i sl):=by
 have k:d a=none:=by
  cases e:d a with
  |none=>rfl
  |some o=>have:=E.same a o e;rw[h]at this;cases this
 refine(E.ab8 h g m).af4 i (λj y _ e o q=>?_) (r k);obtain⟨b,w,c,_,_,f,_⟩:=(E.slot j y e).at_ o;rw[q]at c;injection c with c;injection c with c;injection c with c;subst c;rw[h]at f;cases f
def wK (h:H a=some u)(m:Mt u)(q:Z6 K H b xs):Z6 K (upd H a u') b xs:=by
 have ne:∀w,H b=some w->¬Mt w->b≠a:=λw e n z=>by subst z;rw[h]at e;cases e;exact n m
 rcases q with(q|⟨o,q⟩)|q
 .exact .inl (.inl (by rw[m8 (ne _ q λz=>z)];exact q))
 .exact .inl (.inr ⟨o,by rw[m8 (ne _ q λz=>z)];exact q⟩)
 .exact .inr q
def wV (c:O a)(n:¬O b)(q:P9 K H b xs):P9 K (upd H a u') b xs:=by
 have ne:b≠a:=λz=>by subst z;exact n c
 rcases q with(q|⟨o,q⟩)|q
 .exact .inl (.inl (by rw[m8 ne];exact q))
 .exact .inl (.inr ⟨o,by rw[m8 ne];exact q⟩)
 .exact .inr q
def Rep.upd (h:H a=some u)(m:Mt u)(c:O a)(r:Rep K H O v d):Rep K (upd H a u') O v d:=r.mono (λ_ _ q=>wK h m q) (λ_ _ n q=>⟨n,wV c n q⟩) λb _ n q=>⟨n,by rw[m8 (λz=>n (by rw[z];exact c))];exact q⟩
def Reps.upd (h:H a=some u)(m:Mt u)(c:O a)(r:Reps K H O v d):Reps K (upd H a u') O v d:=r.mono (λ_ _ q=>wK h m q) (λ_ _ n q=>⟨n,wV c n q⟩) λb _ n q=>⟨n,by rw[m8 (λz=>n (by rw[z];exact c))];exact q⟩
def EnvOk.ae2 {i:Nat}{sl sl':Sl}{a:bb}{u u':HO}(E:EnvOk K g O0 H O σ ρ)(e:ρ[i]?=some sl)(t:LU sl)(v:σ[i]?=some (some (V.ref a)))(A:H a=some u)(m':Mt u')(ow':LU sl')
  (r:O a->g a=none->Mt u->cW K g (upd H a u') O (some (some (V.ref a))) sl'):EnvOk K g O0 (upd H a u') O σ (ρ.set i sl')/\Kp H O (upd H a u') O:=by
 obtain⟨b,w,c,B,T,U,m⟩:=(E.slot i sl e).at_ t;rw[v]at c;injection c with c;injection c with c;injection c with c;subst c;rw[A]at U;cases U;have Y:Kp H O (upd H a u') O:=λb o f n=>⟨by rw[m8 (λz=>by subst z;exact n B)];exact f,n⟩;have nf:∀b w,H b=some w->¬Mt w->upd H a u' b=some w:=λb w q n=>by rw[m8 (λz=>by subst z;rw[A]at q;cases q;exact n m)];exact q
 refine⟨⟨by simpa using E.len,λb o q=>?_,E.sub,λb z=>?_,E.trk0,λp hp=>nf _ _ (E.tab p hp) λz=>z,λj s h=>?_,λj k x y b C I o1 o2 J q4=>?_⟩,Y⟩
 .rw[m8 (λz=>by subst z;rw[T]at q;cases q)];exact E.same b o q
 .by_cases f:b=a
  .subst f;exact⟨_,j7,m'⟩
  .obtain⟨o,q,m⟩:=E.trk b z;exact⟨o,by rw[m8 f];exact q,m⟩
 .by_cases L:i=j
  .subst L;obtain⟨e',_⟩:=C5 h;subst e';rw[v];exact r B T m
  .rw[y9 L]at h;refine(E.slot j s h).move (λ_ _ q=>wK A m q) (λ_ _ n q=>⟨n,wV B n q⟩) (λb o w q=>nf _ _ q λz=>z) Y λo b w C I J=>⟨I,?_⟩;rw[m8 (λz=>by subst z;exact L (E.inj i j sl s b e h t o v C))];exact J
 .have d:∀l z,(ρ.set i sl')[l]?=some z->LU z->∃z',ρ[l]?=some z'/\LU z':=λl z q o=>by
   by_cases hl:i=l
   .subst hl;exact⟨sl,e,t⟩
   .rw[y9 hl]at q;exact⟨z,q,o⟩
  obtain⟨x',u1,N⟩:=d j x C o1;obtain⟨y',u2,Q⟩:=d k y I o2;exact E.inj j k x' y' b u1 u2 N Q J q4
def EnvOk.ae5 {i:Nat}{sl sl':Sl}{a:bb}(E:EnvOk K u O0 H O σ ρ)(e:ρ[i]?=some sl)(v:LU sl)(l:σ[i]?=some (some (V.ref a)))(no:¬LU sl')(r:cW K u H (λb=>O b/\b≠a) (some (some (V.ref a))) sl'):
  EnvOk K u O0 H (λb=>O b/\b≠a) σ (ρ.set i sl'):=by
 obtain⟨b,w,c,Q,C,T,m⟩:=(E.slot i sl e).at_ v;rw[l]at c;injection c with c;injection c with c;injection c with c;subst c;have sub:∀b,(O b/\b≠a)->O b:=λb z=>z.1;refine⟨by simpa using E.len,E.same,λb z=>⟨E.sub b z,λq=>?_⟩,λb z=>E.trk b z.1,E.trk0,E.tab,λj s h=>?_,λj k x y b d f A B p I=>?_⟩
 .subst q;obtain⟨o,q⟩:=E.trk0 b z;rw[C]at q;cases q
 .by_cases t:i=j
  .subst t;obtain⟨g,_⟩:=C5 h;subst g;rw[l];exact r
  .rw[y9 t]at h;refine(E.slot j s h).move (λ_ _ q=>q) (λ_ _ n q=>⟨λz=>n z.1,q⟩) (λ_ _ _ q=>q) (λb o J n=>⟨J,λz=>n z.1⟩) λo b w d f p=>⟨⟨f,λz=>?_⟩,p⟩;subst z;exact t (E.inj i j sl s b e h v o l d)
 .have L:i≠j:=λz=>by subst z;obtain⟨g,_⟩:=C5 d;subst g;exact no A
  have N:i≠k:=λz=>by subst z;obtain⟨g,_⟩:=C5 f;subst g;exact no B
  rw[y9 L]at d;rw[y9 N]at f;exact E.inj j k x y b d f A B p I
end
def XW (X:Cx)(e:Str)(H:Hp):Prop:=False
def RC (X:Cx)(H:Hp)(O:bb->Prop)(r:R D)(Q:VK):Prop:=match r with
 |.ok d=>∀v a,Same H a->Rep X.K a O v d->Q v a
 |.ex e=>∀a,Same H a->XW X e a
 |.bad=>False
def B8 (K:ka)(H:Hp)(O:bb->Prop)(v:V)(d:D):Prop:=Rep K H O v d\/∃a b c,v=.ref a/\d=.lst c/\P9 K H a b/\Reps K H O b c
def RP (X:Cx)(H:Hp)(O:bb->Prop)(r:R D)(Q:VK):Prop:=match r with
 |.ok d=>∀v a,Same H a->B8 X.K a O v d->Q v a
 |.ex e=>∀a,Same H a->XW X e a
 |.bad=>False
def BP (X:Cx)(H:Hp)(r:R Bool)(Q:Bool->Hp->Prop):Prop:=match r with
 |.ok b=>∀a,Same H a->Q b a
 |.ex e=>∀a,Same H a->XW X e a
 |.bad=>False
def JB (X:Cx)(H:Hp)(O:bb->Prop)(r:R (List D))(Q:List V->Hp->Prop):Prop:=match r with
 |.ok c=>∀b a,Same H a->Reps X.K a O b c->Q b a
 |.ex e=>∀a,Same H a->XW X e a
 |.bad=>False
def RW (X:Cx)(H:Hp)(O:bb->Prop)(r:R (List D))(Q:List V->Hp->Prop):Prop:=match r with
 |.ok c=>∀b a,Same H a->Paired (B8 X.K a O) b c->Q b a
 |.ex e=>∀a,Same H a->XW X e a
 |.bad=>False
def tD (X:Cx)(f:Ev->R D):TE:=λσ H Q=>∃a b O ρ,EnvOk X.K a b H O σ ρ/\RC X H O (f ρ) Q
def tDB (X:Cx)(f:Ev->R D):TE:=λσ H Q=>∃a b O ρ,EnvOk X.K a b H O σ ρ/\RP X H O (f ρ) Q
def tDT (X:Cx)(f:Ev->R Bool):TT:=λσ H Q=>∃a b O ρ,EnvOk X.K a b H O σ ρ/\BP X H (f ρ) Q
def tDs (X:Cx)(f:Ev->R (List D)):TA:=λσ H Q=>∃a b O ρ,EnvOk X.K a b H O σ ρ/\JB X H O (f ρ) Q
def a3c (X:Cx)(f:Ev->R (List D)):TA:=λσ H Q=>∃a b O ρ,EnvOk X.K a b H O σ ρ/\RW X H O (f ρ) Q
def PD (X:Cx)(e:df)(f:Ev->R D):Prop:=PE X e (tD X f)
def PB (X:Cx)(e:df)(f:Ev->R D):Prop:=PE X e (tDB X f)
def LV (X:Cx)(e:df)(f:Ev->R Bool):Prop:=PT X e (tDT X f)
def LY (X:Cx)(es:List df)(f:Ev->R (List D)):Prop:=PA X es (tDs X f)
def cj (X:Cx)(es:List df)(f:Ev->R (List D)):Prop:=PA X es (a3c X f)
def TM {r:Hp->(bb->Prop)->Ev->VK->Prop}(h:PE X e t)(i:∀σ H Q a b O ρ,EnvOk X.K a b H O σ ρ->r H O ρ Q->t σ H Q):PE X e λσ H Q=>∃a b O ρ,EnvOk X.K a b H O σ ρ/\r H O ρ Q:=λY s σ H Q I q=>h Y s σ H Q I (let⟨a,b,O,ρ,E,q⟩:=q;i σ H Q a b O ρ E q)
def ptI {r:Hp->(bb->Prop)->Ev->(Bool->Hp->Prop)->Prop}(h:PT X e t)(i:∀σ H Q a b O ρ,EnvOk X.K a b H O σ ρ->r H O ρ Q->t σ H Q):PT X e λσ H Q=>∃a b O ρ,EnvOk X.K a b H O σ ρ/\r H O ρ Q:=λY s σ H Q I q=>h Y s σ H Q I (let⟨a,b,O,ρ,E,q⟩:=q;i σ H Q a b O ρ E q)
def paI {r:Hp->(bb->Prop)->Ev->(List V->Hp->Prop)->Prop}(h:PA X es t)(i:∀σ H Q a b O ρ,EnvOk X.K a b H O σ ρ->r H O ρ Q->t σ H Q):PA X es λσ H Q=>∃a b O ρ,EnvOk X.K a b H O σ ρ/\r H O ρ Q:=λc Y s σ H Q I q=>h c Y s σ H Q I (let⟨a,b,O,ρ,E,q⟩:=q;i σ H Q a b O ρ E q)
def tR {β:Type}{r:Hp->(bb->Prop)->Ev->β->Prop}{G:List (bb×Obj)->a9->St->Hp->β->Prop}(h:∀Y s σ H Q,Inv X Y σ H s->∀a b O ρ,EnvOk X.K a b H O σ ρ->r H O ρ Q->G Y s σ H Q)(Y s σ H Q)(I:Inv X Y σ H s)(q:∃a b O ρ,EnvOk X.K a b H O σ ρ/\r H O ρ Q):G Y s σ H Q:=let⟨a,b,O,ρ,E,q⟩:=q;h Y s σ H Q I a b O ρ E q
def PD.pb (h:PD X e f):PB X e f:=TM h λσ H Q a b O ρ E q=>⟨a,b,O,ρ,E,by
 unfold RC RP at*
 cases e:f ρ with
 |ok d=>rw[e]at q;exactλv c s r=>q v c s (.inl r)
 |ex x=>rw[e]at q;exact q
 |bad=>rw[e]at q;exact q⟩
def RC.seq {O:bb->Prop}(h:RC X H O (r.bind g) Q):
  RC X H O r λv b=>∃d,r=.ok d/\Same H b/\Rep X.K b O v d/\RC X b O (g d) Q:=by
 cases r with
 |ok d=>
  intro v b c l;refine⟨d,rfl,c,l,?_⟩;have a:RC X H O (g d) Q:=h;cases e:g d with
  |ok n=>rw[e]at a;exactλw f k m=>a w f (c.trans k) m
  |ex x=>rw[e]at a;exactλf k=>a f (c.trans k)
  |bad=>rw[e]at a;exact a
 |ex x=>exact h
 |bad=>exact h
def RP.seq {O:bb->Prop}(h:RC X H O (r.bind g) Q):
  RP X H O r λv b=>∃d,r=.ok d/\Same H b/\B8 X.K b O v d/\RC X b O (g d) Q:=by
 cases r with
 |ok d=>
  intro v b c l;refine⟨d,rfl,c,l,?_⟩;have a:RC X H O (g d) Q:=h;cases e:g d with
  |ok n=>rw[e]at a;exactλw f k m=>a w f (c.trans k) m
  |ex x=>rw[e]at a;exactλf k=>a f (c.trans k)
  |bad=>rw[e]at a;exact a
 |ex x=>exact h
 |bad=>exact h
def RC.grow {O:bb->Prop}(h:RC X H O r Q)(c:Same H e):RC X e O r Q:=by
 cases r with
 |ok d=>exactλw a b f=>h w a (c.trans b) f
 |ex x=>exactλa b=>h a (c.trans b)
 |bad=>exact h
end
section
variable [Tabs]
section
variable{X:Cx}
def B8.same (e:Same H H')(r:B8 X.K H O v d):B8 X.K H' O v d:=by
 rcases r with r|⟨a,b,c,f,g,h,k⟩
 .exact .inl (r.same e)
 .exact .inr ⟨a,b,c,f,g,e.seq h,k.same e⟩
def B8.aa5 {K:ka}{ds:List D}(r:B8 K H O v (.lst ds)):∃a vs,v=.ref a/\P9 K H a vs/\Reps K H O vs ds:=by
 rcases r with r|⟨a,vs,f,c,b,d,e⟩
 .cases r with|lst h n r=>exact⟨_,_,rfl,h,r⟩
 .injection b with b;subst b;exact⟨a,vs,c,d,e⟩
def B8.af9 {K:ka}(r:B8 K H O v .dct):∃a o,v=.ref a/\H a=some (.ext λh=>h.get? a=some o)/\o.ExactDict:=by
 rcases r with r|⟨a,c,d,e,b,f,g⟩
 .cases r with|dct h x n=>exact⟨_,_,rfl,h,x⟩
 .cases b
def B8.tupI {K:ka}{ds:List D}(r:B8 K H O v (.tup ds)):∃a vs,v=.ref a/\Z6 K H a vs/\Reps K H O vs ds:=by
 rcases r with r|⟨a,vs,c,d,b,e,f⟩
 .cases r with|tup h r=>exact⟨_,_,rfl,h,r⟩
 .cases b
def B8.aa6 {K:ka}{i:Int}(r:B8 K H O v (.int i)):v=.int i:=by
 rcases r with r|⟨a,c,d,e,b,f,g⟩
 .cases r;rfl
 .cases b
def B8.blI {K:ka}{i:Bool}(r:B8 K H O v (.bl i)):v=.bl i:=by
 rcases r with r|⟨a,c,d,e,b,f,g⟩
 .cases r;rfl
 .cases b
def B8.ac1 {K:ka}(r:B8 K H O v .non):v=.non:=by
 rcases r with r|⟨a,c,d,e,b,f,g⟩
 .cases r;rfl
 .cases b
def B8.ac4 {K:ka}{i:Str}(r:B8 K H O v (.str i)):v=.str i:=by
 rcases r with r|⟨a,c,d,e,b,f,g⟩
 .cases r;rfl
 .cases b
end
def V7 (i:Nat)(ρ:Ev):R D:=match ρ[i]? with
 |some (.v d)=>.ok d
 |_=>.bad
def tM (i:Nat)(ρ:Ev):R D:=match ρ[i]? with
 |some (.v d)=>.ok d
 |some (.o a)=>.ok (.lst a)
 |_=>.bad
section
def c6 (i:Nat)(a:X.N[i]?=some x:=by rfl)(b:BZ X.env.scope x:=by first|exact aCK rfl|exact aBU (aCK rfl)|exact aBU (aBU rfl))(f:(x==kc)=false:=by decide)(g:(x==kd)=false:=by decide):PD X (.Name x h) (V7 i):=TM (R7 a b f g) λσ H Q p r O ρ E q=>by
 unfold V7 at q;cases e:ρ[i]? with
 |none=>rw[e]at q;exact q.elim
 |some k=>
  rw[e]at q;cases k with
  |no=>exact q.elim
  |x C=>exact q.elim
  |c m φ=>exact q.elim
  |d U=>exact q.elim
  |o s=>exact q.elim
  |v d=>obtain⟨v,l,n⟩:=E.val i d e;exact⟨v,l,q v H (Same.refl H) n⟩
def b8 (i:Nat)(h:X.N[i]?=some x:=by rfl)(k:BZ X.env.scope x:=by first|exact aCK rfl|exact aBU (aCK rfl)|exact aBU (aBU rfl))(l:(x==kc)=false:=by decide)(n:(x==kd)=false:=by decide):PB X (.Name x p) (tM i):=TM (R7 h k l n) λσ H Q w y O ρ E q=>by
 unfold tM at q;cases e:ρ[i]? with
 |none=>rw[e]at q;exact q.elim
 |some r=>
  rw[e]at q;cases r with
  |no=>exact q.elim
  |x C=>exact q.elim
  |c m φ=>exact q.elim
  |d U=>exact q.elim
  |o f=>obtain⟨a,s,b,g,z,t,u⟩:=E.own i f e;exact⟨_,b,q _ H (Same.refl H) (.inr ⟨a,s,f,rfl,rfl,P9.of t,u⟩)⟩
  |v d=>obtain⟨v,b,g⟩:=E.val i d e;exact⟨v,b,q v H (Same.refl H) (.inl g)⟩
def YZ (d:D)(_:Ev):R D:=.ok d
def xZ (h:PE X e (tC v))(r:∀H O,Rep X.K H O v d):PD X e (YZ d):=TM h λσ H Q a b O ρ E q=>q v H (Same.refl H) (r H O)
def d5 {j a}:PD X (.Constant (.int i) j a) (YZ (.int i)):=xZ jx λ_ _=>.int
def kU {j a}:PD X (.Constant (.bool i) j a) (YZ (.bl i)):=xZ xq λ_ _=>.bl
def EW {j a}:PD X (.Constant .none j a) (YZ .non):=xZ ZI λ_ _=>.non
def oE (X:Cx)(f:au->au->Sem au)(g:D->D->R D):Prop:=
 ∀(H:Hp) (O:bb->Prop) (x y:V) (a b:D) (Q:VK),(∀p,H p=none->¬O p)->B8 X.K H O x a->B8 X.K H O y b->RC X H O (g a b) Q->∃r,nZ X f r/\r x y H Q
def a2u (X:Cx)(O:bb->Prop)(g:D->D->R D)(Q:VK):V->V->Hp->Prop:=λx y H=>∃a b,(∀p,H p=none->¬O p)/\B8 X.K H O x a/\B8 X.K H O y b/\RC X H O (g a b) Q
def oG {c O:bb->Prop}(E:EnvOk X.K l c H O σ ρ)(q:RC X H O ((m ρ).bind λx=>(n ρ).bind λy=>g x y) Q):
  tDB X m σ H λx f=>tDB X n σ f λy h=>a2u X O g Q x y h:=by
 refine⟨l,c,O,ρ,E,?_⟩;have a:=RP.seq q;revert a;cases I:m ρ with
 |ok t=>
  intro a x f o u;obtain⟨d,e,_,r,v⟩:=a x f o u;cases e;have s:=E.grow o;refine⟨l,c,O,ρ,s,?_⟩;have b:=RP.seq v;revert b;cases J:n ρ with
  |ok w=>intro b y h k z;obtain⟨L,e,_,A,B⟩:=b y h k z;cases e;exact⟨t,w,λp C=>(s.grow k).fresh C,r.same k,A,B⟩
  |ex x=>intro b;exact b
  |bad=>intro b;exact b
 |ex x=>intro a;exact a
 |bad=>intro a;exact a
def c5 (d:oE X (et op) g)(e:PB X a f)(k:PB X b l):PD X (.BinOp a op b m) (λρ=>(f ρ).bind λx=>(l ρ).bind λy=>g x y):=by refine tR λY s σ H Q I N T O ρ E q=>?_;refine wpAny_BinOp (MQ e k I (oG E q) λv u n x y c o p t h=>?_);obtain⟨w,z,A,B,C,q⟩:=h;obtain⟨r,J,L⟩:=d c O x y w z Q A B C q;exact J Y n σ c x y v u Q o p t L
def jB (d:oE X (ez op) g)(e:PB X a f)(k:PB X b l)(m:il op b=false:=by first|exact PZ _|with_unfolding_all rfl):
  PD X (.Compare a [op] [b] n) (λρ=>(f ρ).bind λx=>(l ρ).bind λy=>g x y):=by
 refine tR λY s σ H Q I T U O ρ E q=>?_;refine wpAny_Compare1 (MQ e k I (oG E q) λv u o x y c p t w h=>?_) m;obtain⟨z,A,B,C,J,q⟩:=h;obtain⟨r,L,N⟩:=d c O x y z A Q B C J q;exact L Y o σ c x y v u Q p t w N
def jT:D->R Bool
 |.bl b=>.ok b
 |_=>.bad
def wG {O:bb->Prop}{Q:Bool->Hp->Prop}(h:BP X H (r.bind jT) Q):RC X H O r λv a=>∃c,v=.bl c/\Q c a:=by
 cases r with
 |ok d=>
  cases d with
  |bl b=>intro v a e f;cases f;exact⟨b,rfl,h a e⟩
  |_=>exact(show False from h).elim
 |ex x=>exact h
 |bad=>exact h
def k9 (f:oE X (ez op) g)(l:PB X a m)(n:PB X b o)(p:il op b=false:=by first|exact PZ _|with_unfolding_all rfl):
  LV X (.Compare a [op] [b] t) (λρ=>((m ρ).bind λx=>(o ρ).bind λy=>g x y).bind jT):=by
 refine tR λY s σ H Q I H9 O0 O ρ E q=>?_;have w:=wG (O:=O) q;refine wpAny_isTrue_Compare1 (MQ l n I (oG E w) λv u A x y d B C J h=>?_) p;obtain⟨L,N,T,U,r2,q⟩:=h;obtain⟨r,hr,hq⟩:=f d O x y L N _ T U r2 q;refine F6 (hr Y A σ d x y v u _ B C J hq) λc s3 z9=>?_;obtain⟨z,H3,I3,r3,k,e,q3⟩:=z9;subst e;cases r3;exact aBO ⟨H3,I3,q3⟩
def GG (h:PD X e f)(a:∀whole,isTrue e X.env whole=(do let v<-whole;standAt e.pos;fo [v] (truthy v)):=by intro _;rfl):LV X e (λρ=>(f ρ).bind jT):=by refine ptI (gx h a) λσ H Q b c O ρ E q=>⟨b,c,O,ρ,E,wG q⟩
def BP.seq {Q:Bool->Hp->Prop}(h:BP X H (r.bind g) Q):BP X H r λb c=>r=.ok b/\Same H c/\BP X c (g b) Q:=by
 cases r with
 |ok d=>
  intro c f;refine⟨rfl,f,?_⟩;have a:BP X H (g d) Q:=h;cases e:g d with
  |ok m=>rw[e]at a;exactλk l=>a k (f.trans l)
  |ex x=>rw[e]at a;exactλk l=>a k (f.trans l)
  |bad=>rw[e]at a;exact a
 |ex x=>exact h
 |bad=>exact h
def BP.ag3 {O:bb->Prop}(h:RC X H O (r.bind g) Q):BP X H r λb a=>r=.ok b/\Same H a/\RC X a O (g b) Q:=by
 cases r with
 |ok d=>intro a c;refine⟨rfl,c,?_⟩;have e:RC X H O (g d) Q:=h;exact e.grow c
 |ex x=>exact h
 |bad=>exact h
def BP.mono {Q c:Bool->Hp->Prop}(h:BP X H r Q)(i:∀b a,Q b a->c b a):BP X H r c:=by
 cases r with
 |ok d=>exactλa e=>i _ _ (h a e)
 |ex x=>exact h
 |bad=>exact h
def RC.mono {O:bb->Prop}(h:RC X H O r Q)(i:∀b a,Q b a->c b a):RC X H O r c:=by
 cases r with
 |ok d=>exactλv a e f=>i _ _ (h v a e f)
 |ex x=>exact h
 |bad=>exact h
def EM (X:Cx)(e:df)(f:Ev->R Bool):Prop:=PW X e (tDT X f)
def iz (f g:Ev->R Bool):Ev->R Bool:=λρ=>(f ρ).bind λb=>if b=true then g ρ else .ok false
def orB (f g:Ev->R Bool):Ev->R Bool:=λρ=>(f ρ).bind λb=>if b=true then .ok true else g ρ
variable{rest:List df}
def jU (b:LV X a f):EM X (.BoolOp .And [a] c) f:=VJ b
def wB (b:LV X a f):EM X (.BoolOp .Or [a] c) f:=oz b
def NU (h:PW X e t)(i:∀σ H Q,t' σ H Q->t σ H Q):PW X e t':=λa Y s σ H Q I q=>h a Y s σ H Q I (i σ H Q q)
def oR (k:LV X a f)(l:EM X (.BoolOp .And (b::rest) c) g):EM X (.BoolOp .And (a::b::rest) c) (iz f g):=
 NU (nk k l) λσ H Q ⟨d,e,O,ρ,E,q⟩=>⟨d,e,O,ρ,E,BP.mono (BP.seq q)<|by
  rintro b m ⟨_,n,h⟩;cases b with
  |true=>rw[i6 rfl];exact⟨d,e,O,ρ,E.grow n,h⟩
  |false=>rw[ja aAY];exact h m (Same.refl _)⟩
def DG (k:LV X a f)(l:EM X (.BoolOp .Or (b::rest) c) g):EM X (.BoolOp .Or (a::b::rest) c) (orB f g):=
 NU (a1e k l) λσ H Q ⟨d,e,O,ρ,E,q⟩=>⟨d,e,O,ρ,E,BP.mono (BP.seq q)<|by
  rintro b m ⟨_,n,h⟩;cases b with
  |false=>rw[ja aAY];exact⟨d,e,O,ρ,E.grow n,h⟩
  |true=>rw[i6 rfl];exact h m (Same.refl _)⟩
def EM.pt (h:EM X e f):LV X e f:=PW.pt h
def a0g (f:Ev->R D)(g:Ev->R D):Ev->R D:=λρ=>((f ρ).bind jT).bind λb=>if b=true then g ρ else .ok (.bl false)
def PM {op}{f:Ev->R D}(h:PD X a f):PD X (.BoolOp op [a] b) f:=rj h
def CK {f g:Ev->R D}(m:PD X a f)(n:PD X (.BoolOp .And (b::rest) d) g):PD X (.BoolOp .And (a::b::rest) d) (a0g f g):=
 TM (sj m n) λσ H Q h k O ρ E q=>⟨h,k,O,ρ,E,RC.mono (wG<|BP.ag3 q) λv o ⟨c,e,_,p,l⟩=>⟨c,e,by
  cases c with
  |true=>rw[i6 rfl];exact⟨h,k,O,ρ,E.grow p,l⟩
  |false=>rw[ja aAY];exact l _ o (Same.refl _) .bl⟩⟩
def rq:D->R D
 |.int i=>.ok (.int (-i))
 |_=>.bad
def iN {f:Ev->R D}(c:PD X a f):PD X (.UnaryOp .USub a e) (λρ=>(f ρ).bind rq):=
 TM (a0a bj c) λσ H Q g h O ρ E q=>⟨g,h,O,ρ,E,by
  refine RC.mono (RC.seq q) λv k l=>?_;obtain⟨d,_,n,m,b⟩:=l;cases d with
  |int i=>cases m;exact⟨i,rfl,b _ k (Same.refl _) .int⟩
  |_=>exact(show False from b).elim⟩
def JB.seq {H:Hp}{O:bb->Prop}{r:R (List D)}{g:List D->R D}{Q:VK}(h:RC X H O (r.bind g) Q):
  JB X H O r λv a=>∃d,r=.ok d/\Same H a/\Reps X.K a O v d/\RC X a O (g d) Q:=by
 cases r with
 |ok d=>exactλv a b c=>⟨d,rfl,b,c,(show RC X H O (g d) Q from h).grow b⟩
 |ex x=>exact h
 |bad=>exact h
def JB.mono {O:bb->Prop}{Q c:List V->Hp->Prop}(h:JB X H O r Q)(i:∀b a,Q b a->c b a):JB X H O r c:=by
 cases r with
 |ok d=>exactλv a e f=>i _ _ (h v a e f)
 |ex x=>exact h
 |bad=>exact h
def RW.seq {H:Hp}{O:bb->Prop}{r:R (List D)}{g:List D->R D}{Q:VK}(h:RC X H O (r.bind g) Q):
  RW X H O r λv a=>∃d,r=.ok d/\Same H a/\Paired (B8 X.K a O) v d/\RC X a O (g d) Q:=by
 cases r with
 |ok d=>exactλv a b c=>⟨d,rfl,b,c,(show RC X H O (g d) Q from h).grow b⟩
 |ex x=>exact h
 |bad=>exact h
def RP.mono {O:bb->Prop}(h:RP X H O r Q)(i:∀b a,Q b a->c b a):RP X H O r c:=by
 cases r with
 |ok d=>exactλv a e f=>i _ _ (h v a e f)
 |ex x=>exact h
 |bad=>exact h
def t5 (f:Ev->R D)(g:Ev->R (List D)):Ev->R (List D):=λρ=>(f ρ).bind λd=>(g ρ).bind λa=>.ok (d::a)
def T8:Ev->R (List D):=λ_=>.ok []
def o7:LY X [] T8:=paI bB λσ H Q a b O ρ E q=>q [] H (Same.refl _) .nil
def f8 {f:Ev->R D}{g:Ev->R (List D)}(n:PD X e f)(o:LY X es g)(p:a5 (e::es) X.env=(false,dC e X.env)::a5 es X.env:=by rfl):LY X (e::es) (t5 f g):=
 paI (K0 n o p) λσ H Q l m O ρ E q=>⟨l,m,O,ρ,E,by
  unfold t5 at q;cases b:f ρ with
  |ok d=>
   rw[b]at q;intro v u c r;refine⟨l,m,O,ρ,E.grow c,?_⟩;cases h:g ρ with
   |ok w=>rw[h]at q;exactλs k a t=>q (v::s) k (c.trans a) (.cons (r.same a) t)
   |ex x=>rw[h]at q;exactλk a=>q k (c.trans a)
   |bad=>rw[h]at q;exact q
  |ex x=>rw[b]at q;exact q
  |bad=>rw[b]at q;exact q⟩
def w8:cj X [] T8:=paI bB λσ H Q a b O ρ E q=>q [] H (Same.refl _) .nil
def o9 {f:Ev->R D}{g:Ev->R (List D)}(n:PB X e f)(o:cj X es g)(p:a5 (e::es) X.env=(false,dC e X.env)::a5 es X.env:=by rfl):cj X (e::es) (t5 f g):=
 paI (K0 n o p) λσ H Q l m O ρ E q=>⟨l,m,O,ρ,E,by
  unfold t5 at q;cases b:f ρ with
  |ok d=>
   rw[b]at q;intro v u c r;refine⟨l,m,O,ρ,E.grow c,?_⟩;cases h:g ρ with
   |ok w=>rw[h]at q;exactλs k a t=>q (v::s) k (c.trans a) (.cons (r.same a) t)
   |ex x=>rw[h]at q;exactλk a=>q k (c.trans a)
   |bad=>rw[h]at q;exact q
  |ex x=>rw[b]at q;exact q
  |bad=>rw[b]at q;exact q⟩
def eM (ds:List D):R D:=if ds.length<=sizeLine then .ok (.tup ds)else .bad
def lU (ds:List D):R D:=if ds.length<=sizeLine then .ok (.lst ds)else .bad
def xO {f:Ev->R (List D)}{d}(h:LY X es f):PD X (.Tuple es d e) (λρ=>(f ρ).bind eM):=
 TM (nq h) λσ H Q g k O ρ E q=>⟨g,k,O,ρ,E,JB.mono (JB.seq q)<|by
  rintro m n ⟨o,_,r,b,a⟩;unfold eM at a;split at a
  .rename_i l;exact⟨by rw[b.length];exact l,λp c=>a (.ref p) _ (k7 c _) (.tup (Z6.of j7) (b.same<|k7 c _))⟩
  .exact a.elim⟩
def S9 {f:Ev->R (List D)}(h:LY X es f):PD X (.List es d) (λρ=>(f ρ).bind lU):=
 TM (NB h) λσ H Q e g O ρ E q=>⟨e,g,O,ρ,E,JB.mono (JB.seq q)<|by
  rintro m n ⟨o,_,k,c,a⟩;unfold lU at a;split at a
  .rename_i l;exact⟨by rw[c.length];exact l,λp b=>a (.ref p) _ (k7 b _) (.lst (P9.of j7) ((E.grow k).fresh b) (c.same<|k7 b _))⟩
  .exact a.elim⟩
def fM (X:Cx)(f:au)(g:List D->R D):Prop:=
 ∀(H:Hp) (O:bb->Prop) (a:List V) (b:List D) (Q:VK),(∀p,H p=none->¬O p)->Paired (B8 X.K H O) a b->RC X H O (g b) Q->∃r,AO X f r/\r a H Q
def bN {x:Str}{id:String}{p:Pos}{f:Ev->R (List D)}{g:List D->R D}(k:fM X (.builtin id) g)(l:cj X (e::es) f)(m:Gl X x:=by rfl)(n:X.mg x=none:=by assumption)(o:cy x=some (.builtin id):=by decide+kernel)(t:x≠ "__name__":=by decide)
  (u:(x==kc)=false:=by decide) (v:a5 (e::es) X.env=(false,dC e X.env)::a5 es X.env:=by rfl) (M9:(dq a (a5 es X.env)).any (·.1)=false:=by rfl):
  PD X (.Call (.Name x p) (e::es) [] a) (λρ=>(f ρ).bind g):=by
 refine tR λY s σ H Q I w y O ρ E q=>?_;refine aAO (M6 I m n o ?_ t u);refine aBx (F6 (l a Y s σ H _ I ⟨w,y,O,ρ,E,RW.seq q⟩) λz A ⟨b,c,B,C,d,_,J,r,h⟩=>?_) v M9;obtain⟨U,L,N⟩:=k c O b d Q (λp T=>(E.grow J).fresh T) r h;exact L Y A σ c b z Q B C N
def N4 {x:Str}{T:String}{p:Pos}{f:Ev->R (List D)}{g:List D->R D}(k:fM X (.type T) g)(l:cj X (e::es) f)(m:Gl X x:=by rfl)(n:X.mg x=none:=by assumption)(o:cy x=some (.type T):=by decide+kernel)(t:x≠ "__name__":=by decide)
  (u:(x==kc)=false:=by decide) (v:a5 (e::es) X.env=(false,dC e X.env)::a5 es X.env:=by rfl) (M9:(dq a (a5 es X.env)).any (·.1)=false:=by rfl):
  PD X (.Call (.Name x p) (e::es) [] a) (λρ=>(f ρ).bind g):=by
 refine tR λY s σ H Q I w y O ρ E q=>?_;refine aAO (M6 I m n o ?_ t u);refine aBn (F6 (l a Y s σ H _ I ⟨w,y,O,ρ,E,RW.seq q⟩) λz A ⟨b,c,B,C,d,_,J,r,h⟩=>?_) v M9;obtain⟨r',L,N⟩:=k c O b d Q (λp U=>(E.grow J).fresh U) r h;exact L Y A σ c b z Q B C N
end
mutual
def x5:D->D->Bool
 |.non,.non=>true
 |.bl a,.bl b=>a==b
 |.bl a,.int b=>(if a then 1 else 0)==b
 |.int a,.bl b=>a==(if b then 1 else 0)
 |.int a,.int b=>a==b
 |.str a,.str b=>a==b
 |.tup c,.tup d=>W0 c d
 |.lst c,.lst d=>W0 c d
 |.dct,.dct=>true
 |_,_=>false
def W0:List D->List D->Bool
 |[],[]=>true
 |x::a,y::b=>x5 x y&&W0 a b
 |_,_=>false
end
mutual
def D8:D->Nat
 |.tup a=>C6 a+1
 |.lst a=>C6 a+1
 |.dct=>dA
 |_=>0
def C6:List D->Nat
 |[]=>0
 |x::a=>max (D8 x) (C6 a)
end
mutual
theorem U1:∀d:D,x5 d d=true
 |.non=>by simp[x5]
 |.bl b=>by simp[x5]
 |.int i=>by simp[x5]
 |.str x=>by simp[x5]
 |.tup a=>by rw[x5];exact lB a
 |.lst a=>by rw[x5];exact lB a
 |.dct=>by simp[x5]
theorem lB:∀ds:List D,W0 ds ds=true
 |[]=>by simp[W0]
 |x::a=>by rw[W0,U1 x,lB a];rfl
end
def nJ (xs c:List D)(j:Nat):Bool:=match xs[j]?,c[j]? with
 |some a,some b=>x5 a b
 |_,_=>false
theorem jI:∀(xs a:List D),W0 xs a=((aAQ (min xs.length a.length)).all (nJ xs a)&&(xs.length==a.length))
 |[],[]=>by simp[W0]
 |[],_::_=>by simp[W0]
 |_::_,[]=>by simp[W0]
 |x::xs,y::a=>by
  rw[W0,jI xs a,aAt,aAt,Nat.succ_min_succ,aFI,aGq,List.all_map];have b:nJ (x::xs) (y::a) 0=x5 x y:=rfl;have c:(nJ (x::xs) (y::a)∘Nat.succ)=nJ xs a:=by
   funext j
   simp[nJ]
  have d:(xs.length+1==a.length+1)=(xs.length==a.length):=by rw[aCV];simp
  rw[b,c,d,Bool.and_assoc]
theorem xX:∀{xs:List D} {d:D} {j:Nat},xs[j]?=some d->D8 d<=C6 xs
 |[],_,_,h=>by simp at h
 |x::xs,d,0,h=>by simp at h;subst h;rw[C6];exact Nat.le_max_left _ _
 |x::xs,d,j+1,h=>by rw[C6];exact aAr (xX (j:=j) (by simpa using h)) (Nat.le_max_right _ _)
section
def EA {K:ka}{H:Hp}{O:bb->Prop}{a:bb}{d:D}(h:Rep K H O (.ref a) d):(∃vs ds,d=.tup ds/\Z6 K H a vs/\Reps K H O vs ds)\/(∃vs ds,d=.lst ds/\P9 K H a vs/\Reps K H O vs ds)\/(d=.dct/\∃o:Obj,H a=some (.ext λh=>h.get? a=some o)/\o.ExactDict):=by
 cases h with
 |tup h r=>exact .inl ⟨_,_,rfl,h,r⟩
 |lst h n r=>exact .inr (.inl ⟨_,_,rfl,h,r⟩)
 |dct h x n=>exact .inr (.inr ⟨rfl,_,h,x⟩)
def XY (I:Inv X Y σ H s)(h:Z6 X.K H a vs)(h':P9 X.K H a ws):False:=by obtain⟨c,_,p,_⟩:=I.tuple h;obtain⟨b,_,d,_⟩:=I.list h';exact absurd rfl (SeqAt.ne_of_list_tuple (s:=s) d.isList p)
def YM {o:Obj}(I:Inv X Y σ H s)(h':Z6 X.K H a vs)(h:H a=some (.ext λh=>h.get? a=some o))(x:o.ExactDict):False:=by obtain⟨b,_,⟨d,g,c,_⟩,_⟩:=I.tuple h';have e:s.heap.get? _=some _:=(I.hok _ _ h).1;rw[g]at e;cases e;exact absurd (c.symm.trans x.1) (by decide)
def XV {o:Obj}(I:Inv X Y σ H s)(h':P9 X.K H a vs)(h:H a=some (.ext λh=>h.get? a=some o))(x:o.ExactDict):False:=by obtain⟨b,_,p,_⟩:=I.list h';obtain⟨d,g,c,_⟩:=p.isList;have e:s.heap.get? _=some _:=(I.hok _ _ h).1;rw[g]at e;cases e;exact absurd (c.symm.trans x.1) (by decide)
mutual
theorem Rep.inj (I:Inv X Y σ H s):∀{v:V} {d:D},Rep X.K H O v d->∀{d':D},Rep X.K H f v d'->d=d'
 |_,_,.non=>λh=>by cases h;rfl
 |_,_,.bl=>λh=>by cases h;rfl
 |_,_,.int=>λh=>by cases h;rfl
 |_,_,.str=>λh=>by cases h;rfl
 |_,_,.tup h r=>λb=>by
  rcases EA b with⟨_,_,rfl,a,c⟩|⟨_,_,rfl,a,_⟩|⟨rfl,_,a,x⟩
  .have e:=I.ab6 h a;subst e;rw[Reps.inj I r c]
  .exact(XY I h a).elim
  .exact(YM I h a x).elim
 |_,_,.lst h _ r=>λb=>by
  rcases EA b with⟨_,_,rfl,a,_⟩|⟨_,_,rfl,a,c⟩|⟨rfl,_,a,x⟩
  .exact(XY I a h).elim
  .have e:=I.ab2 h a;subst e;rw[Reps.inj I r c]
  .exact(XV I h a x).elim
 |_,_,.dct h x _=>λb=>by
  rcases EA b with⟨_,_,rfl,a,_⟩|⟨_,_,rfl,a,_⟩|⟨rfl,_⟩
  .exact(YM I a h x).elim
  .exact(XV I a h x).elim
  .rfl
theorem Reps.inj (I:Inv X Y σ H s):∀{v:List V} {d:List D},Reps X.K H O v d->∀{d':List D},Reps X.K H e v d'->d=d'
 |_,_,.nil=>λh=>by cases h;rfl
 |_,_,.cons h t=>λa=>by
  cases a with
  |cons b c=>rw[Rep.inj I h b,Reps.inj I t c]
end
def oH (A:cp)(s:a9)(a ws:List au)(xs b:List D):Prop:=∀(j:Nat) (u w:au),a[j]?=some u->ws[j]?=some w->SeqAt.EqAt A.in1 s u w (nJ xs b j)
def AQ (f:s.heap.IsList l c.toArray)(g:s.heap.IsList b ws.toArray)(e1:c.length=xs.length)(e2:ws.length=d.length)(h:A.units<dA)(p:oH A s c ws xs d):SeqAt.RcAt A s (.ref l) (.ref b) (W0 xs d)/\SeqAt.RcNeAt A s (.ref l) (.ref b) (!W0 xs d):=by
 rw[jI];by_cases a:xs.length=d.length
 .have e:c.toArray.size=ws.toArray.size:=by simp[e1,e2,a]
  have q:min xs.length d.length=c.toArray.size:=by simp[e1,a]
  have k:(xs.length==d.length)=true:=by simp[a]
  have m:∀j (n:j<c.toArray.size) (o:j<ws.toArray.size),SeqAt.EqAt A.in1 s c.toArray[j] ws.toArray[j] (nJ xs d j):=λj n o=>p j _ _ (by simp[aAd (show j<c.length by simpa using n)]) (by simp[aAd (show j<ws.length by simpa using o)]);rw[k,Bool.and_true,q];exact⟨SeqAt.RcAt.lists f g e h m,SeqAt.RcNeAt.lists f g e h m⟩
 .have e:(c.toArray.size !=ws.toArray.size)=true:=by simp[e1,e2,a]
  have k:(xs.length==d.length)=false:=by simp[a]
  rw[k,aGd];exact⟨SeqAt.RcAt.lists_lengths f g e h,SeqAt.RcNeAt.lists_lengths f g e h⟩
def mK (d:IsTup s.heap l a.toArray)(e:IsTup s.heap b ws.toArray)(e1:a.length=xs.length)(e2:ws.length=c.length)(f:A.units<dA)(m:oH A s a ws xs c):SeqAt.RcAt A s (.ref l) (.ref b) (W0 xs c)/\SeqAt.RcNeAt A s (.ref l) (.ref b) (!W0 xs c):=by
 rw[jI];have n:min xs.length c.length=min a.toArray.size ws.toArray.size:=by simp[e1,e2]
 have o:(xs.length==c.length)=(a.toArray.size==ws.toArray.size):=by simp[e1,e2]
 have g:∀j (h:j<a.toArray.size) (k:j<ws.toArray.size),SeqAt.EqAt A.in1 s a.toArray[j] ws.toArray[j] (nJ xs c j):=λj h k=>m j _ _ (by simp[aAd (show j<a.length by simpa using h)]) (by simp[aAd (show j<ws.length by simpa using k)]);rw[o,n];exact⟨SeqAt.RcAt.tuples d e f g,SeqAt.RcNeAt.tuples d e f g⟩
def y7 (A:cp):A.in1.units=A.units+1:=rfl
mutual
theorem cw (I:Inv X Y σ H s):∀{x y:V} {z B:D} {v u:au} {A:cp},Rep X.K H O x z->Rep X.K H O' y B->RelV x v->RelV y u->A.units+D8 z<dA->A.units+D8 B<dA->SeqAt.EqAt A s v u (x5 z B)
 |_,_,_,_,v,u,A,.non,f,g,b,k,d=>by
  have c:A.units<dA:=by lia
  cases g;cases f with
  |dct=>exact absurd d (by rw[D8];lia)
  |non=>cases b;exact aEa _
  |bl=>cases b;simp only[x5];exact SeqAt.EqAt.none_bool _
  |int=>obtain⟨t,rfl⟩:=b;simp only[x5];exact SeqAt.EqAt.none_int _ _
  |str=>obtain⟨t,rfl⟩:=b;simp only[x5];exact SeqAt.EqAt.none_str _ _
  |tup h r=>cases b;obtain⟨_,_,p,_⟩:=I.tuple h;simp only[x5];exact SeqAt.EqAt.none_tuple p c
  |lst h _ r=>cases b;obtain⟨_,_,p,_⟩:=I.list h;simp only[x5];exact SeqAt.EqAt.none_list p.isList c
 |_,_,_,_,v,u,A,.bl,f,g,b,k,d=>by
  have c:A.units<dA:=by lia
  cases g;cases f with
  |dct=>exact absurd d (by rw[D8];lia)
  |non=>cases b;simp only[x5];exact SeqAt.EqAt.bool_none _
  |bl=>cases b;simp only[x5];exact SeqAt.EqAt.bool_bool _ _
  |int=>obtain⟨t,rfl⟩:=b;simp only[x5];exact SeqAt.EqAt.bool_int _ _ _
  |str=>obtain⟨t,rfl⟩:=b;simp only[x5];exact SeqAt.EqAt.bool_str _ _ _
  |tup h r=>cases b;obtain⟨_,_,p,_⟩:=I.tuple h;simp only[x5];exact SeqAt.EqAt.bool_tuple _ p c
  |lst h _ r=>cases b;obtain⟨_,_,p,_⟩:=I.list h;simp only[x5];exact SeqAt.EqAt.bool_list _ p.isList c
 |_,_,_,_,v,u,A,.int,f,g,b,k,d=>by
  have c:A.units<dA:=by lia
  obtain⟨N,rfl⟩:=g;cases f with
  |dct=>exact absurd d (by rw[D8];lia)
  |non=>cases b;simp only[x5];exact SeqAt.EqAt.int_none _ _
  |bl=>cases b;simp only[x5];exact SeqAt.EqAt.int_bool _ _ _
  |int=>obtain⟨t,rfl⟩:=b;simp only[x5];exact aFc _ _ _ _
  |str=>obtain⟨t,rfl⟩:=b;simp only[x5];exact aGo _ _ _ _
  |tup h r=>cases b;obtain⟨_,_,p,_⟩:=I.tuple h;simp only[x5];exact aFX _ _ p c
  |lst h _ r=>cases b;obtain⟨_,_,p,_⟩:=I.list h;simp only[x5];exact SeqAt.EqAt.int_list _ _ p.isList c
 |_,_,_,_,v,u,A,.str,f,g,b,k,d=>by
  have c:A.units<dA:=by lia
  obtain⟨N,rfl⟩:=g;cases f with
  |dct=>exact absurd d (by rw[D8];lia)
  |non=>cases b;simp only[x5];exact SeqAt.EqAt.str_none _ _
  |bl=>cases b;simp only[x5];exact SeqAt.EqAt.str_bool _ _ _
  |int=>obtain⟨t,rfl⟩:=b;simp only[x5];exact aGp _ _ _ _
  |str=>obtain⟨t,rfl⟩:=b;simp only[x5];exact SeqAt.EqAt.str_str _ _ _ _
  |tup h r=>cases b;obtain⟨_,_,p,_⟩:=I.tuple h;simp only[x5];exact SeqAt.EqAt.str_tuple _ _ p c
  |lst h _ r=>cases b;obtain⟨_,_,p,_⟩:=I.list h;simp only[x5];exact SeqAt.EqAt.str_list _ _ p.isList c
 |_,_,_,_,v,u,A,.tup (a:=a) (vs:=vs) (ds:=ds) h r,f,g,b,k,d=>by
  have c:A.units<dA:=by lia
  cases g;obtain⟨C,o,p,_⟩:=I.tuple h;cases f with
  |dct=>exact absurd d (by rw[D8];lia)
  |non=>cases b;simp only[x5];exact SeqAt.EqAt.tuple_none p c
  |bl=>cases b;simp only[x5];exact SeqAt.EqAt.tuple_bool _ p c
  |int=>obtain⟨t,rfl⟩:=b;simp only[x5];exact aFY _ _ p c
  |str=>obtain⟨t,rfl⟩:=b;simp only[x5];exact SeqAt.EqAt.tuple_str _ _ p c
  |@tup E Q T l m=>
   cases b;obtain⟨q,w,n,_⟩:=I.tuple l;by_cases e:a=E
   .subst e;have J:=I.ab6 h l;subst J;have L:=Reps.inj I r m;subst L;rw[U1];exact aEa _
   .simp only[x5];refine aFd e (mK p n (by rw[<-o.length,r.length]) (by rw[<-w.length,m.length]) c<|kP I r m o w ?_ ?_).1
    .rw[D8]at k;rw[y7];lia
    .rw[D8]at d;rw[y7];lia
  |lst l _ m=>cases b;obtain⟨_,_,n,_⟩:=I.list l;simp only[x5];exact SeqAt.EqAt.tuple_list p n.isList c
 |_,_,_,_,v,u,A,.lst (a:=a) (vs:=vs) (ds:=ds) h nO r,f,g,b,k,d=>by
  have c:A.units<dA:=by lia
  cases g;obtain⟨C,o,p,_⟩:=I.list h;cases f with
  |dct=>exact absurd d (by rw[D8];lia)
  |non=>cases b;simp only[x5];exact SeqAt.EqAt.list_none p.isList c
  |bl=>cases b;simp only[x5];exact SeqAt.EqAt.list_bool _ p.isList c
  |int=>obtain⟨t,rfl⟩:=b;simp only[x5];exact SeqAt.EqAt.list_int _ _ p.isList c
  |str=>obtain⟨t,rfl⟩:=b;simp only[x5];exact SeqAt.EqAt.list_str _ _ p.isList c
  |tup l m=>cases b;obtain⟨_,_,n,_⟩:=I.tuple l;simp only[x5];exact SeqAt.EqAt.list_tuple p.isList n c
  |@lst E Q T l U m=>
   cases b;obtain⟨q,w,n,_⟩:=I.list l;by_cases e:a=E
   .subst e;have J:=I.ab2 h l;subst J;have L:=Reps.inj I r m;subst L;rw[U1];exact aEa _
   .simp only[x5];refine aFd e (AQ p.isList n.isList (by rw[<-o.length,r.length]) (by rw[<-w.length,m.length]) c<|kP I r m o w ?_ ?_).1
    .rw[D8]at k;rw[y7];lia
    .rw[D8]at d;rw[y7];lia
 |_,_,_,_,v,u,A,.dct ..,f,g,b,k,d=>absurd k (by rw[D8];lia)
theorem kP (I:Inv X Y σ H s):∀{vs ws:List V} {xs k:List D} {c e:List au} {A:cp},Reps X.K H O vs xs->Reps X.K H y ws k->n8 vs c->n8 ws e->A.in1.units+C6 xs<dA->A.in1.units+C6 k<dA->oH A s c e xs k
 |_,_,_,_,c,e,A,.nil,z,f,g,l,m=>λj u w a b=>by cases f;simp at a
 |_,_,_,_,c,e,A,.cons h t,.nil,f,g,l,m=>λj u w a b=>by cases g;simp at b
 |_,_,_,_,c,e,A,.cons (d:=d) (ds:=ds) h t,.cons (d:=B) (ds:=C) p r,f,g,l,m=>λj u w a b=>by
  cases f with
  |cons v x=>
   cases g with
   |cons n o=>
    rw[C6]at l m;cases j with
    |zero=>simp only[aCZ,aGx]at a b;subst a b;exact cw I h p v n (by lia) (by lia)
    |succ j=>simp only[aDb]at a b;have q:=kP I (A:=A) t r x o (by lia) (by lia) j u w a b;exact q
end
def a0c (I:Inv X Y σ H s)(o:B8 X.K H O x C)(c:B8 X.K H U y f)(q:RelV x v)(d:RelV y u)(E:A.units+D8 C<dA)(l:A.units+D8 f<dA):
  SeqAt.RcAt A s v u (x5 C f)/\SeqAt.RcNeAt A s v u (!x5 C f):=by
 have b:A.units<dA:=by lia
 cases C with
 |dct=>exact absurd E (by rw[D8];lia)
 |non=>
  cases o.ac1;cases q;cases f with
  |dct=>exact absurd l (by rw[D8];lia)
  |non=>cases c.ac1;cases d;simp only[x5];exact⟨SeqAt.RcAt.none_none,SeqAt.RcNeAt.none_none⟩
  |bl=>cases c.blI;cases d;simp only[x5];exact⟨SeqAt.RcAt.none_bool _,SeqAt.RcNeAt.none_bool _⟩
  |int=>cases c.aa6;obtain⟨t,rfl⟩:=d;simp only[x5];exact⟨SeqAt.RcAt.none_int _ _,SeqAt.RcNeAt.none_int _ _⟩
  |str=>cases c.ac4;obtain⟨t,rfl⟩:=d;simp only[x5];exact⟨SeqAt.RcAt.none_str _ _,SeqAt.RcNeAt.none_str _ _⟩
  |tup e=>obtain⟨a,g,rfl,h,r⟩:=c.tupI;cases d;obtain⟨_,_,p,_⟩:=I.tuple h;simp only[x5];exact⟨SeqAt.RcAt.none_tuple p b,SeqAt.RcNeAt.none_tuple p b⟩
  |lst e=>obtain⟨a,g,rfl,h,r⟩:=c.aa5;cases d;obtain⟨_,_,p,_⟩:=I.list h;simp only[x5];exact⟨SeqAt.RcAt.none_list p.isList b,SeqAt.RcNeAt.none_list p.isList b⟩
 |bl=>
  cases o.blI;cases q;cases f with
  |dct=>exact absurd l (by rw[D8];lia)
  |non=>cases c.ac1;cases d;simp only[x5];exact⟨SeqAt.RcAt.bool_none _,SeqAt.RcNeAt.bool_none _⟩
  |bl=>cases c.blI;cases d;simp only[x5];exact⟨SeqAt.RcAt.bool_bool _ _,SeqAt.RcNeAt.bool_bool _ _⟩
  |int=>cases c.aa6;obtain⟨t,rfl⟩:=d;simp only[x5];exact⟨SeqAt.RcAt.bool_int _ _ _,SeqAt.RcNeAt.bool_int _ _ _⟩
  |str=>cases c.ac4;obtain⟨t,rfl⟩:=d;simp only[x5];exact⟨SeqAt.RcAt.bool_str _ _ _,SeqAt.RcNeAt.bool_str _ _ _⟩
  |tup e=>obtain⟨a,g,rfl,h,r⟩:=c.tupI;cases d;obtain⟨_,_,p,_⟩:=I.tuple h;simp only[x5];exact⟨SeqAt.RcAt.bool_tuple _ p b,SeqAt.RcNeAt.bool_tuple _ p b⟩
  |lst e=>obtain⟨a,g,rfl,h,r⟩:=c.aa5;cases d;obtain⟨_,_,p,_⟩:=I.list h;simp only[x5];exact⟨SeqAt.RcAt.bool_list _ p.isList b,SeqAt.RcNeAt.bool_list _ p.isList b⟩
 |int=>
  cases o.aa6;obtain⟨Q,rfl⟩:=q;cases f with
  |dct=>exact absurd l (by rw[D8];lia)
  |non=>cases c.ac1;cases d;simp only[x5];exact⟨SeqAt.RcAt.int_none _ _,SeqAt.RcNeAt.int_none _ _⟩
  |bl=>cases c.blI;cases d;simp only[x5];exact⟨SeqAt.RcAt.int_bool _ _ _,SeqAt.RcNeAt.int_bool _ _ _⟩
  |int=>cases c.aa6;obtain⟨t,rfl⟩:=d;simp only[x5];exact⟨SeqAt.RcAt.int_int _ _ _ _,SeqAt.RcNeAt.int_int _ _ _ _⟩
  |str=>cases c.ac4;obtain⟨t,rfl⟩:=d;simp only[x5];exact⟨SeqAt.RcAt.int_str _ _ _ _,SeqAt.RcNeAt.int_str _ _ _ _⟩
  |tup e=>obtain⟨a,g,rfl,h,r⟩:=c.tupI;cases d;obtain⟨_,_,p,_⟩:=I.tuple h;simp only[x5];exact⟨SeqAt.RcAt.int_tuple _ _ p b,SeqAt.RcNeAt.int_tuple _ _ p b⟩
  |lst e=>obtain⟨a,g,rfl,h,r⟩:=c.aa5;cases d;obtain⟨_,_,p,_⟩:=I.list h;simp only[x5];exact⟨SeqAt.RcAt.int_list _ _ p.isList b,SeqAt.RcNeAt.int_list _ _ p.isList b⟩
 |str=>
  cases o.ac4;obtain⟨Q,rfl⟩:=q;cases f with
  |dct=>exact absurd l (by rw[D8];lia)
  |non=>cases c.ac1;cases d;simp only[x5];exact⟨SeqAt.RcAt.str_none _ _,SeqAt.RcNeAt.str_none _ _⟩
  |bl=>cases c.blI;cases d;simp only[x5];exact⟨SeqAt.RcAt.str_bool _ _ _,SeqAt.RcNeAt.str_bool _ _ _⟩
  |int=>cases c.aa6;obtain⟨t,rfl⟩:=d;simp only[x5];exact⟨SeqAt.RcAt.str_int _ _ _ _,SeqAt.RcNeAt.str_int _ _ _ _⟩
  |str=>cases c.ac4;obtain⟨t,rfl⟩:=d;simp only[x5];exact⟨SeqAt.RcAt.str_str _ _ _ _,SeqAt.RcNeAt.str_str _ _ _ _⟩
  |tup e=>obtain⟨a,g,rfl,h,r⟩:=c.tupI;cases d;obtain⟨_,_,p,_⟩:=I.tuple h;simp only[x5];exact⟨SeqAt.RcAt.str_tuple _ _ p b,SeqAt.RcNeAt.str_tuple _ _ p b⟩
  |lst e=>obtain⟨a,g,rfl,h,r⟩:=c.aa5;cases d;obtain⟨_,_,p,_⟩:=I.list h;simp only[x5];exact⟨SeqAt.RcAt.str_list _ _ p.isList b,SeqAt.RcNeAt.str_list _ _ p.isList b⟩
 |tup T=>
  obtain⟨a,g,rfl,h,r⟩:=o.tupI;cases q;obtain⟨J,w,p,_⟩:=I.tuple h;cases f with
  |dct=>exact absurd l (by rw[D8];lia)
  |non=>cases c.ac1;cases d;simp only[x5];exact⟨SeqAt.RcAt.tuple_none p b,SeqAt.RcNeAt.tuple_none p b⟩
  |bl=>cases c.blI;cases d;simp only[x5];exact⟨SeqAt.RcAt.tuple_bool _ p b,SeqAt.RcNeAt.tuple_bool _ p b⟩
  |int=>cases c.aa6;obtain⟨t,rfl⟩:=d;simp only[x5];exact⟨SeqAt.RcAt.tuple_int _ _ p b,SeqAt.RcNeAt.tuple_int _ _ p b⟩
  |str=>cases c.ac4;obtain⟨t,rfl⟩:=d;simp only[x5];exact⟨SeqAt.RcAt.tuple_str _ _ p b,SeqAt.RcNeAt.tuple_str _ _ p b⟩
  |tup e=>
   obtain⟨L,N,rfl,m,n⟩:=c.tupI;cases d;obtain⟨z,B,k,_⟩:=I.tuple m;simp only[x5];refine mK p k (by rw[<-w.length,r.length]) (by rw[<-B.length,n.length]) b (kP I r n w B ?_ ?_)
   .rw[D8]at E;rw[y7];lia
   .rw[D8]at l;rw[y7];lia
  |lst e=>obtain⟨L,N,rfl,m,n⟩:=c.aa5;cases d;obtain⟨_,_,k,_⟩:=I.list m;simp only[x5];exact⟨SeqAt.RcAt.tuple_list p k.isList b,SeqAt.RcNeAt.tuple_list p k.isList b⟩
 |lst T=>
  obtain⟨a,g,rfl,h,r⟩:=o.aa5;cases q;obtain⟨J,w,p,_⟩:=I.list h;cases f with
  |dct=>exact absurd l (by rw[D8];lia)
  |non=>cases c.ac1;cases d;simp only[x5];exact⟨SeqAt.RcAt.list_none p.isList b,SeqAt.RcNeAt.list_none p.isList b⟩
  |bl=>cases c.blI;cases d;simp only[x5];exact⟨SeqAt.RcAt.list_bool _ p.isList b,SeqAt.RcNeAt.list_bool _ p.isList b⟩
  |int=>cases c.aa6;obtain⟨t,rfl⟩:=d;simp only[x5];exact⟨SeqAt.RcAt.list_int _ _ p.isList b,SeqAt.RcNeAt.list_int _ _ p.isList b⟩
  |str=>cases c.ac4;obtain⟨t,rfl⟩:=d;simp only[x5];exact⟨SeqAt.RcAt.list_str _ _ p.isList b,SeqAt.RcNeAt.list_str _ _ p.isList b⟩
  |tup e=>obtain⟨L,N,rfl,m,n⟩:=c.tupI;cases d;obtain⟨_,_,k,_⟩:=I.tuple m;simp only[x5];exact⟨SeqAt.RcAt.list_tuple p.isList k b,SeqAt.RcNeAt.list_tuple p.isList k b⟩
  |lst e=>
   obtain⟨L,N,rfl,m,n⟩:=c.aa5;cases d;obtain⟨z,B,k,_⟩:=I.list m;simp only[x5];refine AQ p.isList k.isList (by rw[<-w.length,r.length]) (by rw[<-B.length,n.length]) b (kP I r n w B ?_ ?_)
   .rw[D8]at E;rw[y7];lia
   .rw[D8]at l;rw[y7];lia
end
def GO (x y:D):R D:=if D8 x<=40/\D8 y<=40 then .ok (.bl (x5 x y))else .bad
def IC (x y:D):R D:=if D8 x<=40/\D8 y<=40 then .ok (.bl (!x5 x y))else .bad
section
def K9 (r:X.A.units+64<dA):oE X (ez .Eq) GO:=by
 intro H O x y e f Q t g h q;unfold GO at q;split at q
 .rename_i w;refine⟨λa b c d=>a=x/\b=y/\c=H/\d (.bl (x5 e f)) H,?_,rfl,rfl,rfl,q _ H (Same.refl _) .bl⟩;intro Y s σ c a b v u d I k l ⟨m,n,o,p⟩;subst m n o;exact(a0c I (A:=X.A) g h k l (by lia) (by lia)).1 _ _ _ _ ⟨.bl _,_,I,rfl,p⟩
 .exact q.elim
def kW (r:X.A.units+64<dA):oE X (ez .NotEq) IC:=by
 intro H O x y e f Q t g h q;unfold IC at q;split at q
 .rename_i w;refine⟨λa b c d=>a=x/\b=y/\c=H/\d (.bl (!x5 e f)) H,?_,rfl,rfl,rfl,q _ H (Same.refl _) .bl⟩;intro Y s σ c a b v u d I k l ⟨m,n,o,p⟩;subst m n o;exact(a0c I (A:=X.A) g h k l (by lia) (by lia)).2 _ _ _ _ ⟨.bl _,_,I,rfl,p⟩
 .exact q.elim
end
def eS:D->D->R D
 |.int a,.int b=>.ok (.int (a+b))
 |.lst a,.lst b=>if a.length+b.length<=sizeLine then .ok (.lst (a++b))else .bad
 |.tup [],.tup b=>.ok (.tup b)
 |.tup (x::a),.tup []=>if(x::a).length<=sizeLine then .ok (.tup (x::a))else .bad
 |.tup (x::a),.tup (y::b)=>if(x::a).length+(y::b).length<=sizeLine then .ok (.tup ((x::a)++(y::b)))else .bad
 |_,_=>.bad
def SA:D->D->R D
 |.int a,.int b=>.ok (.int (a-b))
 |_,_=>.bad
def n6 (a b:Int):Prop:=aBe a<=60000000/\aBe b<=60000000
instance(a b:Int):Decidable (n6 a b):=inferInstanceAs (Decidable<|_/\_)
def P8:D->D->R D
 |.int a,.int b=>if n6 a b then .ok (.int (a*b))else .bad
 |_,_=>.bad
def uA (b:Int):Prop:=b≠0/\aBe b<=9000
instance(b:Int):Decidable (uA b):=inferInstanceAs (Decidable<|_/\_)
def L0:D->D->R D
 |.int a,.int b=>if uA b then .ok (.int (a.fdiv b))else .bad
 |_,_=>.bad
def O9:D->D->R D
 |.int a,.int b=>if b≠0 then .ok (.int (a.fmod b))else .bad
 |_,_=>.bad
def JC:D->D->R D
 |.int a,.int b=>if 0<=b/\b<=1000000/\a.natAbs<2^64 then .ok (.int (a^b.toNat))else .bad
 |_,_=>.bad
def ltR:D->D->R D
 |.int a,.int b=>.ok (.bl (decide (a<b)))
 |_,_=>.bad
def leR:D->D->R D
 |.int a,.int b=>.ok (.bl (decide (a<=b)))
 |_,_=>.bad
def ZV:D->D->R D
 |.int a,.int b=>.ok (.bl (decide (b<a)))
 |_,_=>.bad
def JX (h0:b≠0)(h:aBe b<=n):b.natAbs.log2<n:=by
 unfold aBe at h;split at h
 .rename_i z;exact absurd (by simpa using z) h0
 .omega
def RF (h:n6 a b):IntMulOk a b:=mulOk_of_bits (m:=60000000) (n:=60000000) h.1 h.2 (by decide)
section
def oE.aa9 {f:au->au->Sem au}{g:D->D->R D}{C:Int->Int->Prop}{w:Int->Int->V}{dw:Int->Int->D}(c:nZ X f (rI C w))(h:∀a b d,g a b=.ok d->∃i j,a=.int i/\b=.int j/\C i j/\d=dw i j)
  (k:∀a b e,g a b≠.ex e) (l:∀K H O i j,Rep K H O (w i j) (dw i j)):oE X f g:=by
 intro H O x y a b Q p m n q;cases e:g a b with
 |ok d=>rw[e]at q;obtain⟨i,j,rfl,rfl,o,rfl⟩:=h a b d e;cases m.aa6;cases n.aa6;exact⟨_,c,i,j,rfl,rfl,o,q _ H (Same.refl _) (l _ _ _ _ _)⟩
 |ex x=>exact absurd e (k _ _ _)
 |bad=>rw[e]at q;exact q.elim
def nZ.c0 (h:nZ X f (YI w)):nZ X f (rI (λ_ _=>True) w):=by rintro Y s σ H x y v u Q I a b ⟨i,j,c,d,_,q⟩;exact h Y s σ H x y v u Q I a b ⟨i,j,c,d,q⟩
def x8:oE X (et .Sub) SA:=oE.aa9 (dw:=λi j=>.int (i-j)) (nZ.c0 lz) (λa b d h=>by cases a<;>cases b<;>simp only[SA,R.ok.injEq,reduceCtorEq]at h;exact⟨_,_,rfl,rfl,trivial,h.symm⟩) (λa b e h=>by cases a<;>cases b<;>simp only[SA,reduceCtorEq]at h) λ_ _ _ _ _=>.int
def zE:oE X (ez .Lt) ltR:=oE.aa9 (dw:=λi j=>.bl (decide (i<j))) (nZ.c0 a1h) (λa b d h=>by cases a<;>cases b<;>simp only[ltR,R.ok.injEq,reduceCtorEq]at h;exact⟨_,_,rfl,rfl,trivial,h.symm⟩) (λa b e h=>by cases a<;>cases b<;>simp only[ltR,reduceCtorEq]at h) λ_ _ _ _ _=>.bl
def a1k:oE X (ez .LtE) leR:=oE.aa9 (dw:=λi j=>.bl (decide (i<=j))) (nZ.c0 a0r) (λa b d h=>by cases a<;>cases b<;>simp only[leR,R.ok.injEq,reduceCtorEq]at h;exact⟨_,_,rfl,rfl,trivial,h.symm⟩) (λa b e h=>by cases a<;>cases b<;>simp only[leR,reduceCtorEq]at h) λ_ _ _ _ _=>.bl
def qX:oE X (ez .Gt) ZV:=oE.aa9 (dw:=λi j=>.bl (decide (j<i))) (nZ.c0 a0o) (λa b d h=>by cases a<;>cases b<;>simp only[ZV,R.ok.injEq,reduceCtorEq]at h;exact⟨_,_,rfl,rfl,trivial,h.symm⟩) (λa b e h=>by cases a<;>cases b<;>simp only[ZV,reduceCtorEq]at h) λ_ _ _ _ _=>.bl
def QF:nZ X (et .FloorDiv) (rI (λ_ j=>uA j) λi j=>.int (i.fdiv j)):=opI λ_ _ _ _ _ _ _ a q=>floordiv_int a.1 q (.inl (PyProof.noPylong_of_log2<|JX a.1 a.2))
def u4:oE X (et .FloorDiv) L0:=oE.aa9 (dw:=λi j=>.int (i.fdiv j)) QF (λa b d h=>by
 cases a<;>cases b<;>simp only[L0,reduceCtorEq]at h;split at h
 .rename_i c;cases h;exact⟨_,_,rfl,rfl,c,rfl⟩
 .cases h) (λa b e h=>by
  cases a<;>cases b<;>simp only[L0,reduceCtorEq]at h;split at h<;>cases h) λ_ _ _ _ _=>.int
def v5:oE X (et .Mod) O9:=oE.aa9 (dw:=λi j=>.int (i.fmod j)) XF (λa b d h=>by
 cases a<;>cases b<;>simp only[O9,reduceCtorEq]at h;split at h
 .rename_i c;cases h;exact⟨_,_,rfl,rfl,c,rfl⟩
 .cases h) (λa b e h=>by
  cases a<;>cases b<;>simp only[O9,reduceCtorEq]at h;split at h<;>cases h) λ_ _ _ _ _=>.int
def jL:oE X (et .Pow) JC:=oE.aa9 (dw:=λi j=>.int (i^j.toNat)) rz (λa b d h=>by
 cases a<;>cases b<;>simp only[JC,reduceCtorEq]at h;split at h
 .rename_i c;cases h;exact⟨_,_,rfl,rfl,c,rfl⟩
 .cases h) (λa b e h=>by
  cases a<;>cases b<;>simp only[JC,reduceCtorEq]at h;split at h<;>cases h) λ_ _ _ _ _=>.int
def WZ:nZ X (et .Mult) (rI n6 λi j=>.int (i*j)):=opI λ_ _ _ _ _ _ _ a q=>mul_int q (RF a)
def n4:oE X (et .Mult) P8:=oE.aa9 (dw:=λi j=>.int (i*j)) WZ (λa b d h=>by
 cases a<;>cases b<;>simp only[P8,reduceCtorEq]at h;split at h
 .rename_i c;cases h;exact⟨_,_,rfl,rfl,c,rfl⟩
 .cases h) (λa b e h=>by
  cases a<;>cases b<;>simp only[P8,reduceCtorEq]at h;split at h<;>cases h) λ_ _ _ _ _=>.int
def XD:nZ X (et .Add) (λx y H Q=>∃l b xs d,x=.ref l/\y=.ref b/\P9 X.K H l xs/\P9 X.K H b d/\xs.length+d.length<=sizeLine/\∀p,H p=none->Q (.ref p) (upd H p (.lst (xs++d)))):=by
 intro Y s σ H x y v u Q I B C h;obtain⟨l,b,xs,d,rfl,rfl,E,J,L,q⟩:=h;cases B;cases C;obtain⟨a,r,p,_⟩:=I.list E;obtain⟨e,g,N,_⟩:=I.list J;obtain⟨⟨O,T,k,U⟩,m,o,n,t⟩:=p.isList;obtain⟨⟨w,vp,data2,um⟩,z,A,n2,c⟩:=N.isList;simp only at o t A c;subst o t A c;have f:a.toArray.size+e.toArray.size<=sizeLine:=by rw[aAn,aAn,<-r.length,<-g.length];exact L
 have ea:a.toArray++e.toArray=(a++e).toArray:=by simp
 refine aFP ⟨_,m,rfl⟩ ⟨_,z,rfl⟩ noFill_list_add seq_list_add PySem.F.slot_list_add PySem.F.entry_list_add (PySem.F.args_list_add_2 _ _) (list_addW l b a.toArray e.toArray n n2 T vp U um f) ⟨m,z,?_⟩;rw[ea];exact⟨.ref _,_,I.ag2 (t':=s.toks) (r.append g) (by rw[aAx];omega),rfl,q _ I.fresh⟩
def SL:nZ X (et .Add) (λx y H Q=>∃a b d,x=.ref a/\y=.ref b/\Z6 X.K H a []/\Z6 X.K H b d/\Q (.ref b) H):=by intro Y s σ H x y v u Q I p r h;obtain⟨t,b,d,rfl,rfl,w,z,q⟩:=h;cases p;cases r;obtain⟨A,B,C,_⟩:=I.tuple w;obtain⟨ws,r2,E,_⟩:=I.tuple z;cases B;obtain⟨⟨J,L,e,N⟩,f,g,n,k⟩:=C;obtain⟨⟨l,O,data2,T⟩,m,o,U,c⟩:=E;simp only at g k o c;subst g k o c;exact aFP ⟨_,f,rfl⟩ ⟨_,m,rfl⟩ aFD seq_tuple_add PySem.F.slot_tuple_add PySem.F.entry_tuple_add (PySem.F.args_tuple_add_2 _ _) (tuple_addW0 t b _ _ n U L O N T (by simp)) ⟨f,m,.ref b,H,I,rfl,q⟩
def l7:oE X (et .Add) eS:=by
 intro H O x y u s Q v n o q;cases u with
 |int i=>
  cases s with
  |int j=>cases n.aa6;cases o.aa6;exact⟨_,ZN,i,j,rfl,rfl,q _ H (Same.refl _) .int⟩
  |_=>exact aAk q
 |lst a=>
  cases s with
  |lst b=>
   simp only[eS]at q;split at q
   .rename_i r;obtain⟨l,e,rfl,f,c⟩:=n.aa5;obtain⟨h,k,rfl,g,d⟩:=o.aa5;exact⟨_,XD,l,h,e,k,rfl,rfl,f,g,by rw[c.length,d.length];exact r,λp m=>q _ _ (k7 m _) (.lst (P9.of j7) (v p m) ((c.append d).same (k7 m _)))⟩
   .exact q.elim
  |_=>exact aAk q
 |tup a=>
  cases s with
  |tup b=>
   cases a with
   |nil=>obtain⟨l,e,rfl,f,c⟩:=n.tupI;obtain⟨h,k,rfl,g,d⟩:=o.tupI;cases c;exact⟨_,SL,l,h,k,rfl,rfl,f,g,q _ H (Same.refl _) (.tup g d)⟩
   |cons x a=>
    cases b with
    |nil=>
     obtain⟨l,e,rfl,f,c⟩:=n.tupI;obtain⟨h,k,rfl,g,d⟩:=o.tupI;cases d;have t:e≠[]:=λz=>by subst z;have:=c.length;simp at this
     simp only[eS]at q;split at q
     .rename_i r;exact⟨_,GR,l,h,e,[],rfl,rfl,f,g,t,by rw[c.length];exact r,λ_=>q _ H (Same.refl _) (.tup f c),λz=>absurd rfl z⟩
     .exact q.elim
    |cons y b=>
     simp only[eS]at q;split at q
     .rename_i r;obtain⟨l,e,rfl,f,c⟩:=n.tupI;obtain⟨h,k,rfl,g,d⟩:=o.tupI;have t:e≠[]:=λz=>by subst z;have:=c.length;simp at this
      have w:k≠[]:=λz=>by subst z;have:=d.length;simp at this
      exact⟨_,GR,l,h,e,k,rfl,rfl,f,g,t,by rw[c.length,d.length];exact r,λz=>absurd z w,λ_ p m=>q _ _ (k7 m _) (.tup (Z6.of j7) ((c.append d).same (k7 m _)))⟩
     .exact q.elim
  |_=>cases a<;>exact aAk q
 |_=>exact aAk q
def V1 (x y:D):R D:=match x,y with
 |.lst a,.int i=>match pU a i with|some d=>.ok d|none=>.bad
 |.tup a,.int i=>match pU a i with|some d=>.ok d|none=>.bad
 |_,_=>.bad
def BQ {K:ka}{H:Hp}{O:bb->Prop}{vs:List V}{ds:List D}{i:Int}{d:D}(r:Reps K H O vs ds)(h:pU ds i=some d):∃v,pU vs i=some v/\Rep K H O v d:=by
 unfold pU at h⊢;rw[r.length];cases e:ES ds.length i with
 |none=>rw[e]at h;cases h
 |some j=>rw[e]at h;exact r.get h
def f9 (N:PB X a f)(T:PD X b g)(t:UJ b:=by exactλ_ _=>rfl):PD X (.Subscript a b U) (λρ=>(f ρ).bind λx=>(g ρ).bind λy=>V1 x y):=by
 refine tR λY s σ H Q I H9 O0 O ρ E q=>?_;refine Subscript_ (MQ N T.pb I (oG E q) λv u z x y c A B C h=>?_);obtain⟨J,dy,fr,L,r2,q⟩:=h;cases dy with
 |int i=>
  cases r2.aa6;cases J with
  |lst k=>
   simp only[V1]at q;cases e:pU k i with
   |none=>rw[e]at q;exact q.elim
   |some d=>rw[e]at q;obtain⟨p,l,rfl,m,n⟩:=L.aa5;obtain⟨w,o,r⟩:=BQ n e;exact UO a b Y z σ c _ _ v u Q A B C ⟨p,l,i,w,rfl,rfl,m,o,q w c (Same.refl _) r⟩ (t _ _)
  |tup k=>
   simp only[V1]at q;cases e:pU k i with
   |none=>rw[e]at q;exact q.elim
   |some d=>rw[e]at q;obtain⟨p,l,rfl,m,n⟩:=L.tupI;obtain⟨w,o,r⟩:=BQ n e;exact ZT a b Y z σ c _ _ v u Q A B C ⟨p,l,i,w,rfl,rfl,m,o,q w c (Same.refl _) r⟩ (t _ _)
  |_=>exact aAk q
 |_=>cases J<;>exact aAk q
def cutD (xs:List D)(lo a:Option Int):List D:=(xs.drop<|HT.sIx xs.length 0 lo).take (HT.sIx xs.length xs.length a-HT.sIx xs.length 0 lo)
def vL {K:ka}{H:Hp}{O:bb->Prop}{vs:List V}{ds:List D}{lo a:Option Int}(r:Reps K H O vs ds):Reps K H O (zZ vs lo a) (cutD ds lo a):=by unfold zZ cutD;rw[r.length];exact(r.drop _).take _
def zw (X:Cx)(e:Option df)(f:Ev->R (Option Int)):Prop:=PO X e λσ H Q=>∃b c O ρ,EnvOk X.K b c H O σ ρ/\match f ρ with
 |.ok o=>∀a,Same H a->Q o a
 |.ex e=>∀a,Same H a->XW X e a
 |.bad=>False
def toI:D->R (Option Int)
 |.int i=>.ok (some i)
 |_=>.bad
def P6:zw X none (λ_=>.ok none):=by rintro Y s σ H Q I ⟨a,b,O,ρ,E,q⟩;exact wU Y s σ H Q I (q H<|Same.refl _)
def F8 (h:PD X e f):zw X (some e) (λρ=>(f ρ).bind toI):=by rintro Y s σ H Q I ⟨a,b,O,ρ,E,q⟩;exact VD h Y s σ H Q I ⟨a,b,O,ρ,E,by
 dsimp only at q;cases e:f ρ with
 |ok d=>
  rw[e]at q;cases d with
  |int i=>exactλv c g k=>by cases k;exact⟨i,rfl,q c g⟩
  |_=>exact aAk q
 |ex x=>rw[e]at q;exact q
 |bad=>rw[e]at q;exact q⟩
def EX (x:D)(lo b:Option Int):R D:=match x with
 |.lst a=>.ok (.lst (cutD a lo b))
 |.tup a=>if HT.sIx a.length 0 lo=0/\HT.sIx a.length a.length b=a.length then .bad else .ok (.tup (cutD a lo b))
 |_=>.bad
def iF {lo B:Option df}{C:Pos}{m n:Ev->R (Option Int)}(J:PB X a f)(L:zw X lo m)(N:zw X B n):
  PD X (.Subscript a (.Slice lo B none C) T) (λρ=>(f ρ).bind λx=>(m ρ).bind λl=>(n ρ).bind λh=>EX x l h):=by
 refine tR λY s σ H Q I o t O ρ E q=>?_;have u:∀x d l h e,B8 X.K e O x d->(∀p,e p=none->¬O p)->RC X e O (EX d l h) Q->a1c X.K x l h e Q\/a0d X.K x l h e Q:=λx d l h e r U q=>by
  cases d with
  |lst xs=>obtain⟨p,v,rfl,w,k⟩:=r.aa5;exact .inl ⟨p,v,rfl,w,λp b=>q _ _ (k7 b _) (.lst (P9.of j7) (U p b) ((vL k).same (k7 b _)))⟩
  |tup xs=>
   obtain⟨p,v,rfl,w,k⟩:=r.tupI;simp only[EX]at q;split at q
   .exact q.elim
   .rename_i hn;exact .inr ⟨p,v,rfl,w,by rw[k.length];exact hn,λp b=>q _ _ (k7 b _) (.tup (Z6.of j7) ((vL k).same (k7 b _)))⟩
  |_=>exact aAk q
 refine NO (WN.or jz) J L N Y s σ H Q I ⟨o,t,O,ρ,E,?_⟩;dsimp only at q;cases y:f ρ with
 |ok d=>
  rw[y]at q;intro x H1 s1 r1;refine⟨o,t,O,ρ,E.grow s1,?_⟩;rw[R.aa0]at q;cases z:m ρ with
  |ok l=>
   rw[z]at q;intro H2 s2;refine⟨o,t,O,ρ,(E.grow s1).grow s2,?_⟩;cases A:n ρ with
   |ok h=>rw[A]at q;intro g c;have q':RC X H O (EX d l h) Q:=q;exact u x d l h g ((r1.same s2).same c) (λp b=>(((E.grow s1).grow s2).grow c).fresh b) (q'.grow<|s1.trans<|s2.trans c)
   |ex x=>rw[A]at q;exactλg c=>q g (s1.trans<|s2.trans c)
   |bad=>rw[A]at q;exact q
  |ex x=>rw[z]at q;exactλg c=>q g (s1.trans c)
  |bad=>rw[z]at q;exact q
 |ex x=>rw[y]at q;exact q
 |bad=>rw[y]at q;exact q
def KJ {K:ka}{H:Hp}{O:bb->Prop}{vs:List V}{d:D}(r:Paired (B8 K H O) vs [d]):∃v,vs=[v]/\B8 K H O v d:=by
 cases r with
 |cons a b=>cases b;exact⟨_,rfl,a⟩
def pr2 {K:ka}{H:Hp}{O:bb->Prop}{vs:List V}{d d':D}(r:Paired (B8 K H O) vs [d,d']):∃v a,vs=[v,a]/\B8 K H O v d/\B8 K H O a d':=by
 cases r with
 |cons b c=>obtain⟨a,e,f⟩:=KJ c;subst e;exact⟨_,_,rfl,b,f⟩
def RK:List D->R D
 |[.lst a]=>.ok (.int a.length)
 |[.tup a]=>.ok (.int a.length)
 |_=>.bad
def Q9:fM X (.builtin "len") RK:=by
 intro H O f d Q g r q;match d,q with
 |[.lst e],q=>obtain⟨v,rfl,z⟩:=KJ r;obtain⟨p,a,rfl,b,c⟩:=z.aa5;exact⟨_,jV,p,a,rfl,.inl b,q _ H (Same.refl _) (by rw[c.length];exact .int)⟩
 |[.tup e],q=>obtain⟨v,rfl,z⟩:=KJ r;obtain⟨p,a,rfl,b,c⟩:=z.tupI;exact⟨_,jV,p,a,rfl,.inr b,q _ H (Same.refl _) (by rw[c.length];exact .int)⟩
def a0w:List D->R D
 |[.int i]=>.ok (.int (if i<0 then-i else i))
 |_=>.bad
def OU:fM X (.builtin "abs") a0w:=by
 intro H O b a Q c r q;match a,q with
 |[.int i],q=>obtain⟨v,rfl,z⟩:=KJ r;cases z.aa6;exact⟨_,SJ,i,rfl,q _ H (Same.refl _) .int⟩
def vZ:List D->R D
 |[.lst a]=>.ok (.tup a)
 |[.tup a]=>.ok (.tup a)
 |_=>.bad
def qG:fM X (.type "tuple") vZ:=by
 intro H O g e Q h r q;match e,q with
 |[.lst f],q=>obtain⟨v,rfl,z⟩:=KJ r;obtain⟨p,b,rfl,a,c⟩:=z.aa5;exact⟨_,gS,p,b,rfl,.inl ⟨a,λl d=>q _ _ (k7 d _) (.tup (Z6.of j7) (c.same<|k7 d _))⟩⟩
 |[.tup f],q=>obtain⟨v,rfl,z⟩:=KJ r;obtain⟨p,b,rfl,a,c⟩:=z.tupI;exact⟨_,gS,p,b,rfl,.inr ⟨a,q _ _ (Same.refl _) (.tup a c)⟩⟩
def YU:List D->R D
 |[.lst a]=>.ok (.lst a)
 |[.tup a]=>.ok (.lst a)
 |_=>.bad
def jN:fM X (.type "list") YU:=by
 intro H O h f Q e r q;match f,q with
 |[.lst g],q=>obtain⟨v,rfl,z⟩:=KJ r;obtain⟨p,b,rfl,c,d⟩:=z.aa5;exact⟨_,kR,p,b,rfl,.inl c,λl a=>q _ _ (k7 a _) (.lst (P9.of j7) (e l a) (d.same<|k7 a _))⟩
 |[.tup g],q=>obtain⟨v,rfl,z⟩:=KJ r;obtain⟨p,b,rfl,c,d⟩:=z.tupI;exact⟨_,kR,p,b,rfl,.inr c,λl a=>q _ _ (k7 a _) (.lst (P9.of j7) (e l a) (d.same<|k7 a _))⟩
def tyD:D->String
 |.non=> "NoneType"|.bl _=> "bool"|.int _=> "int"|.str _=> "str"|.tup _=> "tuple"|.lst _=> "list"|.dct=> "dict"
def PX (T:String)(d:D):Bool:=tyD d==T||(T== "int"&&tyD d== "bool")
def QC (T:String):Prop:=∀(K:ka) (d:D),PySem.W.kitOne K (.type (tyD d)) (.type T)=some (PX T d)
def MU:QC "bool":=λK d=>by cases d<;>with_unfolding_all rfl
def VG {O:bb->Prop}(I:Inv X Y σ H s)(m:QC T)(r:B8 X.K H O v d)(c:RelV v u)(q:Q (.bl (PX T d)) H):
  av (bc X.prog X.w) X.A (call (.builtin "isinstance") [u,.type T]) (EP X Y σ Q) X.xe s:=by
 have e:=m X.K d;have b:∀l,EP X Y σ Q (.bool (PX T d)) {s with toks:=l}:=λl=>⟨.bl _,H,I.tok _,rfl,q⟩;cases d with
 |non=>cases r.ac1;cases c;exact PySem.W.kia_one PySem.W.kitx_none I.kIn aGy e (λz=>nomatch z) b
 |bl=>cases r.blI;cases c;exact PySem.W.kia_one PySem.W.kitx_bool I.kIn aGy e (λz=>nomatch z) b
 |int=>cases r.aa6;obtain⟨t,rfl⟩:=c;exact PySem.W.kia_one PySem.W.kitx_int I.kIn aGy e (λz=>nomatch z) b
 |str=>cases r.ac4;obtain⟨t,rfl⟩:=c;exact PySem.W.kia_one PySem.W.kitx_str I.kIn aGy e (λz=>nomatch z) b
 |tup y=>obtain⟨a,B,rfl,h,_⟩:=r.tupI;cases c;obtain⟨f,_,p,_⟩:=I.tuple h;obtain⟨o,g,k,_⟩:=p;exact PySem.W.kia_one PySem.W.kitx_tuple I.kIn ⟨o,g,k⟩ e (λz=>nomatch z) b
 |lst y=>obtain⟨a,B,rfl,h,_⟩:=r.aa5;cases c;obtain⟨f,_,p,_⟩:=I.list h;obtain⟨o,n,g,k,_⟩:=p;exact PySem.W.kia_one PySem.W.kitx_list I.kIn ⟨o,g,k⟩ e (λz=>nomatch z) b
 |dct=>obtain⟨a,o,rfl,h,x⟩:=r.af9;cases c;exact PySem.W.kia_one PySem.W.kitx_dict I.kIn ⟨o,(I.hok _ _ h).1,x.1⟩ e (λz=>nomatch z) b
def ZG (y:QC T)(z:PB X a f)(A:cy x=some (.type T):=by decide+kernel)(B:X.mg "isinstance"=none:=by assumption)(g:X.mg x=none:=by assumption)(C:Gl X "isinstance":=by rfl)(k:Gl X x:=by rfl)(J:(x==kc)=false:=by decide)(L:x≠ "__name__":=by decide)(o:a5 [a,.Name x pt] X.env=(false,dC a X.env)::a5 [.Name x pt] X.env:=by rfl)(N:a5 [Expr.Name x pt] X.env=[(false,dC (.Name x pt) X.env)]:=by rfl)(M9:(dq b (a5 [Expr.Name x pt] X.env)).any (·.1)=false:=by rfl):
  PD X (.Call (.Name "isinstance" p) [a,.Name x pt] [] b) (λρ=>(f ρ).bind λd=>.ok (.bl (PX T d))):=by
 refine tR λY s σ H Q I U O0 O ρ E q=>?_;refine aAO (M6 (u:=.builtin "isinstance") I C B (by decide+kernel) ?_);have hb:PE X (.Name x pt) (tC<|.ty T):=UB k g A rfl L J;have h:=K0 z (K0 hb bB (by rw[N];rfl)) o b Y s σ H (λt c=>∃v d,t=[v,.ty T]/\B8 X.K c O v d/\Q (.bl (PX T d)) c) I ⟨U,O0,O,ρ,E,by refine RP.mono (RP.seq q) λv c l=>?_;obtain⟨d,_,s1,m,h1⟩:=l;exact⟨v,d,rfl,m,h1 _ c (Same.refl _) .bl⟩⟩
 refine aBx (F6 h λus s1 l=>?_) o M9;obtain⟨t,c,I1,m,v,d,e,r,h⟩:=l;subst e;obtain⟨u,w,rfl,ru,n⟩:=vals2 m;cases n;exact VG I1 y r ru h
end
section
variable{K:ka}
def Kp.lst (k:Kp H O H' c){a:bb}{xs:List V}(n:¬O a)(h:P9 K H a xs)(e:∀o,K.lookup a=some o->¬c a):¬c a/\P9 K H' a xs:=by
 rcases h with(h|⟨o,h⟩)|h
 .exact⟨(k _ _ h n).2,.inl (.inl (k _ _ h n).1)⟩
 .exact⟨(k _ _ h n).2,.inl (.inr ⟨o,(k _ _ h n).1⟩)⟩
 .obtain⟨o,b,m,d,f⟩:=h;exact⟨e o d,.inr ⟨o,b,m,d,f⟩⟩
def Kp.tup (k:Kp H O H' c)(b:∀a,O a->∃o,H a=some o/\Mt o){a:bb}{xs:List V}(h:Z6 K H a xs):Z6 K H' a xs:=by
 rcases h with(h|⟨o,h⟩)|h
 .exact .inl (.inl (k _ _ h λz=>by obtain⟨o,q,m⟩:=b a z;rw[h]at q;cases q;exact m).1)
 .exact .inl (.inr ⟨o,(k _ _ h λz=>by obtain⟨o,q,m⟩:=b a z;rw[h]at q;cases q;exact m).1⟩)
 .exact .inr h
end
def eJ (K:ka)(O:bb->Prop):Prop:=∀a o,K.lookup a=some o->¬O a
def Kp.rep {K:ka}{H H':Hp}{O b:bb->Prop}(k:Kp H O H' b)(c:∀a,O a->∃o,H a=some o/\Mt o)(e:eJ K b){v:V}{d:D}(r:Rep K H O v d):Rep K H' b v d:=
 r.mono (λ_ _ h=>k.tup c h) (λa _ n h=>k.lst n h λo q=>e a o q) λa _ n h=>⟨(k a _ h n).2,(k a _ h n).1⟩
def Kp.ac0 {K:ka}{H H':Hp}{O b:bb->Prop}(k:Kp H O H' b)(c:∀a,O a->∃o,H a=some o/\Mt o)(e:eJ K b){v:List V}{d:List D}(r:Reps K H O v d):Reps K H' b v d:=
 r.mono (λ_ _ h=>k.tup c h) (λa _ n h=>k.lst n h λo q=>e a o q) λa _ n h=>⟨(k a _ h n).2,(k a _ h n).1⟩
inductive Out where
 |nx (ρ:Ev)|rt (d:D)|bk (ρ:Ev)|ct (ρ:Ev)
def RS (X:Cx)(f:Hp)(g:bb->Prop)(H:Hp)(O:bb->Prop)(r:R Out)(D:Ends):Prop:=match r with
 |.ok (.nx ρ)=>∀c a b,EnvOk X.K f g a b c ρ->eJ X.K b->Kp H O a b->D.nx c a
 |.ok (.bk ρ)=>∀c a b,EnvOk X.K f g a b c ρ->eJ X.K b->Kp H O a b->D.bk c a
 |.ok (.ct ρ)=>∀c a b,EnvOk X.K f g a b c ρ->eJ X.K b->Kp H O a b->D.ct c a
 |.ok (.rt d)=>∀v a,Same f a->Rep X.K a g v d->D.rt v a
 |.ex e=>∀a,Same f a->XW X e a
 |.bad=>False
def tS (X:Cx)(a:Hp)(b:bb->Prop)(F:Ev->R Out):TS:=λD σ H=>∃O ρ,EnvOk X.K a b H O σ ρ/\eJ X.K O/\RS X a b H O (F ρ) D
def qQ (X:Cx)(st:dm)(F:Ev->R Out):Prop:=∀a b,PS X st (tS X a b F)
def dH (X:Cx)(st:List dm)(F:Ev->R Out):Prop:=∀a b,xQ X st (tS X a b F)
def qj {X:Cx}{st:dm}{t t':TS}(h:PS X st t)(i:∀D σ H,t' D σ H->t D σ H):PS X st t':=λY s σ H D I q=>h Y s σ H D I (i D σ H q)
def VO {X:Cx}{st:List dm}{t t':TS}(h:xQ X st t)(i:∀D σ H,t' D σ H->t D σ H):xQ X st t':=λY s σ H D I q=>h Y s σ H D I (i D σ H q)
def CD {X:Cx}{st:dm}{t:TS}{F:Ev->R Out}{a:Hp}{b:bb->Prop}(h:PS X st t)(i:∀D σ H O ρ,EnvOk X.K a b H O σ ρ->eJ X.K O->RS X a b H O (F ρ) D->t D σ H):PS X st (tS X a b F):=qj h λD σ H ⟨O,ρ,E,f,q⟩=>i D σ H O ρ E f q
def zy {X:Cx}{st:List dm}{t:TS}{F:Ev->R Out}{a:Hp}{b:bb->Prop}(h:xQ X st t)(i:∀D σ H O ρ,EnvOk X.K a b H O σ ρ->eJ X.K O->RS X a b H O (F ρ) D->t D σ H):xQ X st (tS X a b F):=VO h λD σ H ⟨O,ρ,E,f,q⟩=>i D σ H O ρ E f q
def RS.grow {X:Cx}{g:Hp}{l:bb->Prop}{H m:Hp}{O n:bb->Prop}{r:R Out}{D:Ends}(h:RS X g l H O r D)(k:Kp H O m n):RS X g l m n r D:=by
 cases r with
 |ok o=>
  cases o with
  |nx ρ=>exactλa b c E f q=>h a b c E f (k.trans q)
  |bk ρ=>exactλa b c E f q=>h a b c E f (k.trans q)
  |ct ρ=>exactλa b c E f q=>h a b c E f (k.trans q)
  |rt d=>exact h
 |ex e=>exact h
 |bad=>exact h
def C9 (r:R Out)(F:Ev->R Out):R Out:=match r with
 |.ok (.nx ρ)=>F ρ
 |r=>r
section
variable{st:dm} {rest:List dm}
def RS.seq {a:Hp}{b:bb->Prop}{H:Hp}{O:bb->Prop}{r:R Out}{D:Ends}(h:RS X a b H O (C9 r G) D):RS X a b H O r {D with nx:=tS X a b G D}:=by
 cases r with
 |ok o=>
  cases o with
  |nx ρ=>exactλg l c E f k=>⟨c,ρ,E,f,(show RS X a b H O (G ρ) D from h).grow k⟩
  |bk ρ=>exact h
  |ct ρ=>exact h
  |rt d=>exact h
 |ex e=>exact h
 |bad=>exact h
def o5:dH X [] (λρ=>.ok (.nx ρ)):=λa b=>zy VP λD σ H O ρ E f q=>q σ H O E f (Kp.refl _ _)
def b9 (c:qQ X st F)(d:dH X rest G):dH X (st::rest) (λρ=>C9 (F ρ) G):=λa b=>zy (SG (c a b)<|d a b) λD σ H O ρ E f q=>⟨O,ρ,E,f,RS.seq q⟩
def d4 (a:qQ X st F):dH X [st] F:=λb c=>GW (a b c)
def j1 {e:df}{f:Ev->R D}(c:PD X e f):qQ X (.Return (some e) g) (λρ=>(f ρ).bind λd=>.ok (.rt d)):=λh k=>CD (NH c) λD σ H O ρ E l q=>⟨h,k,O,ρ,E,by
 cases a:f ρ with
 |ok d=>rw[a]at q;exactλv b s r=>q v b (E.same.trans s) (r.sub E.sub)
 |ex x=>rw[a]at q;exactλb s=>q b (E.same.trans s)
 |bad=>rw[a]at q;exact q⟩
def j2 (i:Nat){x:Str}{e:df}{f:Ev->R D}{a:Pos}(h:PD X e f)(k:X.N.Nodup)(l:X.N[i]?=some x:=by rfl)(m:Loc X.env.scope x:=by first|exact aCK rfl|exact aBU rfl)
  (n:eQ e (some (.Name x a)) b.line X.env=pure false:=by rfl) (o:X.fn x=true\/X.env.scope.names.lookup x=some .local:=by first|exact .inl rfl|exact .inr rfl|assumption):
  qQ X (.Assign [.Name x a] e b) (λρ=>(f ρ).bind λd=>.ok (.nx (ρ.set i (.v d)))):=λp t=>CD (MN k l m h n o) λD σ H O ρ E u q=>⟨p,t,O,ρ,E,by
 cases c:f ρ with
 |ok d=>rw[c]at q;exactλv g s r=>q _ g O ((E.grow s).set i r) u (Kp.of s)
 |ex x=>rw[c]at q;exactλg s=>q g (E.same.trans s)
 |bad=>rw[c]at q;exact q⟩
def y6 {c:df}{a b:List dm}{d:Ev->R Bool}(l:LV X c d)(m:dH X a F)(n:dH X b G):qQ X (.If c a b o) (λρ=>(d ρ).bind λt=>if t=true then F ρ else G ρ):=λe f=>CD (xy l (m e f)<|n e f) λD σ H O ρ E h q=>⟨e,f,O,ρ,E,by
 cases g:d ρ with
 |ok t=>
  rw[g]at q;intro k s;cases t with
  |true=>rw[i6 rfl];exact⟨O,ρ,E.grow s,h,RS.grow q (Kp.of s)⟩
  |false=>rw[ja aAY];exact⟨O,ρ,E.grow s,h,RS.grow q (Kp.of s)⟩
 |ex x=>rw[g]at q;exactλk s=>q k (E.same.trans s)
 |bad=>rw[g]at q;exact q⟩
def qw (K:ka)(J:It)(H:Hp)(O:bb->Prop)(ds:List D):Prop:=∀b c,Kp H O b c->eJ K c->(∀a,O a->∃o,H a=some o/\Mt o)->(∀a,c a->∃o,b a=some o/\Mt o)->∀i:Nat,
 (∀d,ds[i]?=some d->J.go i b/\∀x e,J.yld i b x e->Same b e/\Rep K e c x d)/\(ds[i]?=none->J.stop i b)
def tI (X:Cx)(f:Ev->R (List D)):TI:=λσ H R=>∃b c O ρ,EnvOk X.K b c H O σ ρ/\eJ X.K O/\match f ρ with
 |.ok d=>∀J a,Same H a->qw X.K J a O d->R J a
 |.ex e=>∀a,Same H a->XW X e a
 |.bad=>False
def YN (X:Cx)(a iter:df)(f:Ev->R (List D)):Prop:=PI X a iter (tI X f)
def NM (h:PI X a iter t)(i:∀σ H R,t' σ H R->t σ H R):PI X a iter t':=λY s σ H R I q=>h Y s σ H R I (i σ H R q)
def Q1:D->R (List D)
 |.lst a=>.ok a
 |_=>.bad
def IA:D->R (List D)
 |.tup a=>.ok a
 |_=>.bad
def u5 (h:PD X iter f):YN X C iter (λρ=>(f ρ).bind Q1):=NM (VQ h) λσ H R ⟨m,p,O,ρ,E,I,q⟩=>⟨m,p,O,ρ,E,by
 dsimp only at q;cases e:f ρ with
 |ok d=>
  rw[e]at q;cases d with
  |lst J=>
   intro v t s r;cases r with
   |lst h n r=>
    rename_i a b;refine⟨a,rfl,⟨b,h⟩,q (Itl X.K a) t s ?_⟩;intro L N k g u w i;obtain⟨Q,c⟩:=k.lst n h λo q=>g a o q;have y:=k.ac0 u g r;refine⟨λd e=>?_,λe=>⟨b,c,by rw[r.length];exact aBQ.mp e⟩⟩;obtain⟨v,l,z⟩:=y.get e;exact⟨⟨b,v,c,l⟩,by rintro x T ⟨A,B⟩;subst A;have:=B b c;rw[l]at this;cases this;exact⟨Same.refl _,z⟩⟩
  |_=>exact aAk q
 |ex x=>rw[e]at q;exact q
 |bad=>rw[e]at q;exact q⟩
def oK (h:PD X iter f):YN X A iter (λρ=>(f ρ).bind IA):=NM (lw h) λσ H R ⟨m,n,O,ρ,E,B,q⟩=>⟨m,n,O,ρ,E,by
 dsimp only at q;cases e:f ρ with
 |ok d=>
  rw[e]at q;cases d with
  |tup C=>
   intro v o s r;cases r with
   |tup h r=>
    rename_i a b;refine⟨a,rfl,⟨b,h⟩,q (Itt X.K a) o s ?_⟩;intro I J k p g t i;have c:=k.tup g h;have u:=k.ac0 g p r;refine⟨λd e=>?_,λe=>⟨b,c,by rw[r.length];exact aBQ.mp e⟩⟩;obtain⟨v,l,w⟩:=u.get e;exact⟨⟨b,v,c,l⟩,by rintro x L ⟨y,z⟩;subst y;have:=z b c;rw[l]at this;cases this;exact⟨Same.refl _,w⟩⟩
  |_=>exact aAk q
 |ex x=>rw[e]at q;exact q
 |bad=>rw[e]at q;exact q⟩
def gw (lo c:Int)(n:Nat):It:=⟨λi _=>i<n,λi H x a=>a=H/\x=.int (lo+i*c),λi _=>n<=i⟩
def BD {P:be}{w:cq}{K:ka}{J:df}(it:bb)(lo c:Int)(n:Nat):Turn P w K J (gw lo c n) [it] it (λi h=>IsRangeIter h it (lo+(i:Nat)*c) ((n:Int)-(i:Nat)) c)where
 mem:=by simp
 obj:=λi h st b a=>by
  have e:b=it:=by simpa using a
  subst e;exact⟨_,st,λv z=>by have L:Data.fields _=Data.cell v:=z;cases L⟩
 keep:=λi h f st k=>k it (by simp) _ st
 item:=by intro X l m p q i Y s σ H E I g st r;subst l m p;obtain⟨u,x,N,y,A,B⟩:=g it (by simp);have W:=Walks.range (prog:=X.prog) (w:=X.w) (I.ok.hd q) it lo c n;refine W.item i s _ _ r st λv f C O d kk=>?_;obtain⟨t,rfl⟩:=O;have Q:Inv X Y σ H {s with heap:=f,toks:=C}:=I.turned (λb o a e=>kk b o (by simpa using a) e) u x y A B;exact⟨_,rfl,MX (s:={s with heap:=f,toks:=C}) (n:= "range_iterator") d rfl rfl (by decide) ⟨.int (lo+i*c),H,Q,⟨t,rfl⟩,⟨rfl,rfl⟩,d,λb a=>(g b a).1⟩⟩
 done:=by intro X l m p q i Y s σ H E I g st r;subst l m p;obtain⟨u,x,N,y,A,B⟩:=g it (by simp);exact wpAny_pyNext_range_end (I.ok.hd q) st (by have:n<=i:=r;lia) λf T=>⟨rfl,I.turned (t':=s.toks) (λb o a e=>T b o a e) u x y A B⟩
 self:=λ_ _ _ _ _ st h=>wpAny_pyIter_rangeiter st h
def yH (lo c:Int)(n:Nat):List D:=(aAQ n).map λ(k:Nat)=>D.int (lo+(k:Int)*c)
def mG (K:ka)(H:Hp)(O:bb->Prop)(lo c:Int)(n:Nat):qw K (gw lo c n) H O (yH lo c n):=by
 intro h l k m o b i;unfold yH;rw[aAF];by_cases a:i<n
 .rw[List.getElem?_range a];refine⟨λd e=>?_,λe=>(by cases e)⟩;cases e;exact⟨a,by rintro x p ⟨f,g⟩;subst f g;exact⟨Same.refl _,.int⟩⟩
 .rw[aBQ.mpr (by simpa using a)];exact⟨λd e=>(by cases e),λ_=>aEt a⟩
def iR (a b c:Int):Nat:=if a<b then((b-a-1)/c+1).toNat else 0
def JO (d:0<c):aCx a b c=(iR a b c:Int):=by
 unfold aCx iR;rw[i6 (by lia)];split
 .have:0<=(b-a-1)/c:=Int.ediv_nonneg (by lia) (by lia)
  lia
 .rfl
def KA (l:0<c)(m:c<2^30)(n:-(2^60)<=a)(k:a<2^60)(o:-(2^60)<=b)(p:b<2^60):aGl a b c=true:=by
 unfold aGl;have e:aCx a b c=if a<b then(b-a-1)/c+1 else 0:=by unfold aCx;rw[i6 (by lia)]
 rw[e];have d:a<b->(b-a-1)/c<=b-a-1:=λh=>Int.ediv_le_self _ (by lia);have f:a<b->0<=(b-a-1)/c:=λh=>Int.ediv_nonneg (by lia) (by lia);have g:a<b->(b-a-1)/c*c<=b-a-1:=λh=>Int.ediv_mul_le _ (by lia);simp only[Builtin.Range.rangeFitsLong,aAP,Bool.or_eq_true,decide_eq_true_eq,beq_iff_eq,show c>0 by lia,if_true];split
 .rename_i h;have d:=d h;have f:=f h;have g:=g h;generalize(b-a-1)/c=q at*
  lia
 .lia
def qD (a b c:Int):Prop:=0<c/\c<2^30/\-(2^60)<=a/\a<2^60/\-(2^60)<=b/\b<2^60
instance(a b c:Int):Decidable (qD a b c):=inferInstanceAs (Decidable<|_/\_)
def gK:List D->R (List D)
 |[.int b]=>if qD 0 b 1 then .ok (yH 0 1 (iR 0 b 1))else .bad
 |[.int a,.int b]=>if qD a b 1 then .ok (yH a 1 (iR a b 1))else .bad
 |[.int a,.int b,.int c]=>if qD a b c then .ok (yH a c (iR a b c))else .bad
 |_=>.bad
def lI {R:It->Hp->Prop}{E:F5}(I:Inv X Y σ H s)(h:qD a b c)(q:R (gw a c (iR a b c)) H):av (bc X.prog X.w) X.A (pyIter (.ref s.heap.objs.size)) (PIE X Y σ z R) E {s with heap:=s.heap.push {cls:=.type "range",data:=.fields #[.int a t,.int b u,.int c v]},toks:=tk}:=by
 obtain⟨f,g,k,l,m,n⟩:=h;refine wpAny_pyIter_range (IsRange.new ..) (KA f g k l m n) ?_;have d:Inv X Y σ H {s with heap:=s.heap.push {cls:=.type "range",data:=.fields #[.int a t,.int b u,.int c v]},toks:=tk}:=I.kept λb o e=>aAc _ e;refine⟨(s.heap.push {cls:=.type "range",data:=.fields #[.int a t,.int b u,.int c v]}).objs.size,[(s.heap.push {cls:=.type "range",data:=.fields #[.int a t,.int b u,.int c v]}).objs.size],_,_,H,rfl,
  d.kept (t':=tk) λb o e=>aAc _ e,BD _ a c (iR a b c),?_,λp r=>?_,q⟩
 .have x:a+((0:Nat):Int)*c=a:=by simp
  have y:((iR a b c:Nat):Int)-((0:Nat):Int)=aCx a b c:=by rw[JO f];simp
  show IsRangeIter _ _ (a+((0:Nat):Int)*c) (((iR a b c:Nat):Int)-((0:Nat):Int)) c;rw[x,y];exact aAq _ rfl
 .have e:p=(s.heap.push {cls:=.type "range",data:=.fields #[.int a t,.int b u,.int c v]}).objs.size:=by simpa using r
  subst e;exact d.ae7 (aAj _) (d.hok.fresh<|aAj _)
def NN {R:It->Hp->Prop}{O:bb->Prop}(I:Inv X Y σ H s)(r:Paired (B8 X.K H O) vs ds)(e:n8 vs g)(h:gK ds=.ok k)(q:∀J,qw X.K J H O k->R J H):av (bc X.prog X.w) X.A (call (.type "range") g) (λv l=>av (bc X.prog X.w) X.A (pyIter v) (PIE X Y σ B R) X.xe l) X.xe s:=by
 match ds,h with
 |[.int b],h=>
  obtain⟨v,rfl,z⟩:=KJ r;cases z.aa6;obtain⟨u,rfl,t,rfl⟩:=vals1 e;simp only[gK]at h;split at h
  .rename_i d;cases h;exact call_range_1 (lI I d<|q _<|mG _ _ _ _ _ _)
  .cases h
 |[.int a,.int b],h=>
  obtain⟨v,m,rfl,z,f⟩:=pr2 r;cases z.aa6;cases f.aa6;obtain⟨u,n,rfl,⟨t,rfl⟩,⟨o,rfl⟩⟩:=vals2 e;simp only[gK]at h;split at h
  .rename_i d;cases h;exact call_range_2 (lI I d<|q _<|mG _ _ _ _ _ _)
  .cases h
 |[.int a,.int b,.int c],h=>
  cases r with
  |cons p r=>
   obtain⟨v,m,rfl,z,f⟩:=pr2 r;cases p.aa6;cases z.aa6;cases f.aa6;cases e with
   |cons x e=>
    obtain⟨u,n,rfl,⟨t,rfl⟩,⟨o,rfl⟩⟩:=vals2 e;obtain⟨C,rfl⟩:=x;simp only[gK]at h;split at h
    .rename_i d;cases h;have y:=d;obtain⟨E,L,_⟩:=y;exact call_range_3 (by lia) (lI (tk:=s.toks) I d<|q _<|mG _ _ _ _ _ _) (.inl (PyProof.noPylong_small (by lia)))
    .cases h
def S1 {u e:df}{es:List df}{p:Pos}{f:Ev->R (List D)}(v:cj X (e::es) f)(w:Gl X "range":=by rfl)(y:X.mg "range"=none:=by assumption)
  (z:a5 (e::es) X.env=(false,dC e X.env)::a5 es X.env:=by rfl) (M9:(dq k (a5 es X.env)).any (·.1)=false:=by rfl):
  YN X u (.Call (.Name "range" p) (e::es) [] k) (λρ=>(f ρ).bind gK):=by
 rintro Y s σ H Q I ⟨A,B,O,ρ,E,fk,q⟩;dsimp only at q;refine Call_ (M6 I w y boot_range<|aBn (F6 (v k Y s σ H (λm g=>∃h l,Same H g/\Paired (B8 X.K g O) m h/\gK h=.ok l/\∀J,qw X.K J g O l->Q J g) I ⟨A,B,O,ρ,E,?_⟩) λus n C=>?_) z M9)
 .cases o:f ρ with
  |ok h=>
   rw[o]at q;intro m g n t;rw[R.aa0]at q;cases d:gK h with
   |ok l=>rw[d]at q;exact⟨h,l,n,t,d,λJ L=>q J g n L⟩
   |ex x=>
    rw[d]at q;match h,d with
    |[.int b],d=>simp only[gK]at d;split at d<;>cases d
    |[.int a,.int b],d=>simp only[gK]at d;split at d<;>cases d
    |[.int a,.int b,.int c],d=>simp only[gK]at d;split at d<;>cases d
   |bad=>rw[d]at q;exact q.elim
  |ex x=>rw[o]at q;exact q
  |bad=>rw[o]at q;exact q
 .obtain⟨m,g,N,t,h,l,sm,r,T,U⟩:=C;exact NN N r t T U
def tG (X:Cx)(G:D->Ev->R Ev):TG:=λv σ H Q=>∃b c O ρ d e,EnvOk X.K b c H O σ ρ/\Rep X.K H O v d/\G d ρ=.ok e/\∀f a,Same H a->EnvOk X.K b c a O f e->Q f a
def OX (X:Cx)(a:df)(G:D->Ev->R Ev):Prop:=PG X a (tG X G)
def bx (h:PG X a t)(i:∀v σ H Q,t' v σ H Q->t v σ H Q):PG X a t':=λY s σ H v u Q I r q=>h Y s σ H v u Q I r (i v σ H Q q)
def k5 (i:Nat)(a:X.N.Nodup)(b:X.N[i]?=some x:=by rfl)(c:Loc X.env.scope x:=by first|exact aCK rfl|exact aBU rfl)(f:X.fn x=true\/X.env.scope.names.lookup x=some .local:=by first|exact .inl rfl|exact .inr rfl|assumption):
  OX X (.Name x g) (λd ρ=>.ok (ρ.set i (.v d))):=bx (UV a b c f)<|by
 rintro v σ H Q ⟨h,k,O,ρ,d,l,E,r,e,q⟩;cases e;exact q _ H (Same.refl _) (E.set i r)
def tGs (X:Cx)(G:List D->Ev->R Ev):oj:=λg σ H Q=>∃b c O ρ d e,EnvOk X.K b c H O σ ρ/\Reps X.K H O g d/\G d ρ=.ok e/\∀f a,Same H a->EnvOk X.K b c a O f e->Q f a
def WJ (X:Cx)(a:List df)(G:List D->Ev->R Ev):Prop:=tx X a (tGs X G)
def IR {a:List df}{t t':oj}(h:tx X a t)(i:∀v σ H Q,t' v σ H Q->t v σ H Q):tx X a t':=λY s σ H v u Q I r q=>h Y s σ H v u Q I r (i v σ H Q q)
def fJ:List D->Ev->R Ev
 |[],ρ=>.ok ρ
 |_,_=>.bad
def E8 (G:D->Ev->R Ev)(a:List D->Ev->R Ev):List D->Ev->R Ev
 |d::b,ρ=>(G d ρ).bind λc=>a b c
 |_,_=>.bad
def U9:WJ X [] fJ:=IR VF<|by
 rintro a σ H Q ⟨b,c,O,ρ,d,f,E,r,e,q⟩;cases r with
 |nil=>cases e;exact⟨rfl,q σ H (Same.refl _) E⟩
 |cons _ _=>cases e
def t4 {e:df}{es:List df}{G:D->Ev->R Ev}{c:List D->Ev->R Ev}(m:OX X e G)(n:WJ X es c)
  (o:(ee (e::es) X.env).map (·.2)=hV e X.env::(ee es X.env).map (·.2):=by rfl):WJ X (e::es) (E8 G c):=IR (PR m n o)<|by
 rintro f σ H Q ⟨g,h,O,ρ,k,p,E,r,e,q⟩;cases r with
 |nil=>cases e
 |@cons v d f k r s=>
  simp only[E8]at e;cases b:G d ρ with
  |ok a=>rw[b]at e;exact⟨v,f,rfl,g,h,O,ρ,d,a,E,r,b,λt B l u=>⟨g,h,O,a,k,p,u,s.same l,e,λw y z A=>q w y (l.trans z) A⟩⟩
  |ex x=>rw[b]at e;cases e
  |bad=>rw[b]at e;cases e
def bO (n:Nat)(b:List D->Ev->R Ev):D->Ev->R Ev
 |.tup a,ρ=>if a.length=n then b a ρ else .bad
 |.lst a,ρ=>if a.length=n then b a ρ else .bad
 |_,_=>.bad
end
section
theorem uK (e:t≠it):∀(n i:Nat) (s:a9) (Q:List au->a9->Prop),s.heap.IsListIter it t i->s.heap.IsList t items->i+n<=items.size->
  (∀h',h'.IsListIter it t (i+n)->Heap.SameBut it s.heap h'->Q ((items.toList.drop i).take n) {s with heap:=h'})->av (bc prog w) A (draw (.ref it) n) Q E s
 |0,i,s,Q,a,_,_,d=>by show av _ _ (pure []) Q E s;exact aAb (by simpa using d s.heap a (aGz ..))
 |n+1,i,s,Q,a,f,l,d=>by
  have g:i<items.size:=by omega
  show av _ _ (ff (.ref it)>>=_) Q E s;refine aAa (wpAny_pyNext_list_item a f (x:=items[i]) (by simp[g]) λh b k=>?_);refine aAa (aAN (uK e n (i+1) _ _ b (f.extBut k.extBut e) (by omega) λm c o=>aAb ?_));have p:items.toList.drop i=items[i]::items.toList.drop (i+1):=by simp[aDH,g]
  have:=d m (by rw[show i+(n+1)=i+1+n by omega];exact c) (k.trans o);rw[p,List.take_succ_cons]at this;exact this
def mT {Q:List au->a9->Prop}(p:A.handled=none)(f:s.heap.IsList t items)(q:∀h',Heap.ExtBut s.heap.objs.size s.heap h'->Q items.toList {s with heap:=h'}):av (bc prog w) A (unpackItems (.ref t) items.size none) Q E s:=by
 have l:t≠s.heap.objs.size:=by obtain⟨o,g,_⟩:=f;exact aAm (aAh g)
 unfold unpackItems;refine aAa ?_
 .unfold notIterableAtAll;refine aAa (aBB f.typeIs slot_list_iter.lookup ?_);refine aAb ?_;simp only[aAs,if_false];refine aAa (aAN<|aDz f ?_);have a:(s.heap.push {cls:=.type "list_iterator",data:=.fields #[.ref t,.int 0 0]}).IsList t items:=by obtain⟨o,g,r⟩:=f;exact⟨o,aAc _ g,r⟩
  refine aAa (aAN (uK l items.size 0 _ _ ⟨_,aAq _ rfl,rfl,rfl⟩ a (by omega) λc d m=>?_));have u:List.take items.size (List.drop 0 items.toList)=items.toList:=by rw[aFg];exact aDj (by simp)
  rw[u];rw[ja (by simp)];have h:c.IsList t items:=a.extBut m.extBut l;refine aAa (aAN (wpAny_pyNext_list_end p d h (by simp) λv k=>?_));simp only[Option.isSome_none,aAs,if_false];refine aAb (q v λb o n e=>k b o n (m.extBut b o n<|aAc _ e))
def jM {c}{Q:Unit->a9->Prop}(d:A.handled=none)(e:s.heap.IsList t items)(f:(ee a env).length=items.size)(b:(ee a env).findIdx? (·.1)=none)(h:∀h',Heap.ExtBut s.heap.objs.size s.heap h'->av (bc prog w) A (assignInOrder ((ee a env).map (·.2)) items.toList) Q E {s with heap:=h'}):
  av (bc prog w) A (hV (.Tuple a c g) env (.ref t)) Q E s:=by
 rw[assign_Tuple];refine aAa (aEz ?_);unfold unpack;rw[f,b];exact aAa (aAN<|mT d e h)
end
section
def aM (A:X.calm=true)(h:WJ X es T)(B:(ee es X.env).length=n:=by rfl)(C:(ee es X.env).findIdx? (·.1)=none:=by rfl):OX X (.Tuple es k U) (bO n T):=by
 rintro Y s σ H v u Q I r ⟨J,L,O,ρ,d,N,E,rd,e,q⟩;cases rd with
 |@tup a g l m c=>
  cases r;simp only[bO]at e;split at e
  .rename_i p;obtain⟨t,f,w,hz⟩:=I.tuple m;refine assign_Tuple_tuple (I.ok.hd A) w (by simp[B,<-p,<-c.length,f.length]) C λx y=>?_;have z:Inv X Y σ H {s with heap:=x}:=I.kept (t':=s.toks) λb o e=>y b o (aAm<|aAh e) e;exact h Y _ σ H g _ Q z (by simpa using f) ⟨J,L,O,ρ,l,N,E,c,e,q⟩
  .cases e
 |@lst a g l m _ c=>
  cases r;simp only[bO]at e;split at e
  .rename_i p;obtain⟨t,f,w,hz⟩:=I.list m;refine jM (I.ok.hd A) w.isList (by simp[B,<-p,<-c.length,f.length]) C λx y=>?_;have z:Inv X Y σ H {s with heap:=x}:=I.kept (t':=s.toks) λb o e=>y b o (aAm<|aAh e) e;exact h Y _ σ H g _ Q z (by simpa using f) ⟨J,L,O,ρ,l,N,E,c,e,q⟩
  .cases e
 |_=>cases e
def DF (f:Ev->R D)(G:D->Ev->R Ev):Ev->R Out:=λρ=>(f ρ).bind λd=>match G d ρ with
 |.ok a=>.ok (.nx a)
 |_=>.bad
def oO (m:PD X e f)(n:OX X a G)(o:gn [a] e c.line X.env=pure false:=by rfl)(p:gr [a] e X.env=pure none:=by rfl)(t:(ee [a] X.env).map (·.2)=[hV a X.env]:=by rfl):qQ X (.Assign [a] e c) (DF f G):=λh k=>CD (FG m n o p t) λD σ H O ρ E u q=>⟨h,k,O,ρ,E,by
 unfold DF at q;cases g:f ρ with
 |ok d=>
  rw[g,R.aa0]at q;intro v l s r;cases b:G d ρ with
  |ok w=>rw[b]at q;exact⟨h,k,O,ρ,d,w,E.grow s,r,b,λy z A B=>q y z O B u (Kp.of<|s.trans A)⟩
  |ex x=>rw[b]at q;exact aAk q
  |bad=>rw[b]at q;exact aAk q
 |ex x=>rw[g]at q;exactλl s=>q l (E.same.trans s)
 |bad=>rw[g]at q;exact q⟩
def QO (i j:Nat){c e HH}(n:X.calm=true)(o:X.N.Nodup)(p:LY X [a,b] f)(t:X.N[i]?=some x:=by rfl)(u:X.N[j]?=some y:=by rfl)(w:i≠j:=by decide)(z:X.env.scope.names.lookup x=some .local:=by rfl)(A:X.env.scope.names.lookup y=some .local:=by rfl)(B:gr [.Tuple [.Name x l,.Name y m] c pt] (.Tuple [a,b] e HH) X.env=pure (some [x,y]):=by rfl)(C:gn [.Tuple [.Name x l,.Name y m] c pt] (.Tuple [a,b] e HH) g.line X.env=pure false:=by rfl):
  qQ X (.Assign [.Tuple [.Name x l,.Name y m] c pt] (.Tuple [a,b] e HH) g) (λρ=>(f ρ).bind λds=>match ds with
   |[d,d']=>.ok (.nx ((ρ.set i (.v d)).set j (.v d')))
   |_=>.bad):=λI J=>CD (ZS n o t u w z A p B C) λD σ H O ρ E L q=>⟨I,J,O,ρ,E,by
 cases h:f ρ with
 |ok ds=>
  rw[h,R.aa0]at q;intro U k s r;cases r with
  |nil=>exact aAk q
  |cons Q r=>
   cases r with
   |nil=>exact aAk q
   |cons T r=>
    cases r with
    |nil=>exact⟨_,_,rfl,q _ k O (((E.grow s).set i Q).set j T) L (Kp.of s)⟩
    |cons _ _=>exact aAk q
 |ex x=>rw[h]at q;exactλk s=>q k (E.same.trans s)
 |bad=>rw[h]at q;exact q⟩
def R3 (G:D->Ev->R Ev)(F:Ev->R Out):List D->Ev->R Out
 |[],ρ=>.ok (.nx ρ)
 |d::c,ρ=>match G d ρ with
  |.ok b=>match F b with
   |.ok (.nx a)=>R3 G F c a
   |.ok (.ct a)=>R3 G F c a
   |.ok (.bk a)=>.ok (.nx a)
   |r=>r
  |_=>.bad
def F1 (hp:PassesOwn (bc X.prog X.w) X.A X.env X.xe)(hc:X.calm=true)(hi:YN X tg iter f)(hg:OX X tg G)(hb:dH X body F)(hs:∀x,fh iter X.env x=pure x:=by intro _;rfl):qQ X (.For tg iter body [] pos) (λρ=>(f ρ).bind λds=>R3 G F ds ρ):=λh k=>CD (iq hp hc hi hg (hb h k) hs) λD σ H O ρ E fk q=>⟨h,k,O,ρ,E,fk,by
 cases Q:f ρ with
 |ex x=>rw[Q]at q;exactλg s=>q g (E.same.trans s)
 |bad=>rw[Q]at q;exact q
 |ok ds=>
  rw[Q,R.aa0]at q;intro J H1 T hJ;refine⟨λi m U g=>m=ds.length-i/\i<=ds.length/\∃c v,EnvOk X.K h k g c U v/\eJ X.K c/\Kp H1 O g c/\RS X h k g c (R3 G F (ds.drop i) v) D,⟨ds.length,by simp,aBk _,O,ρ,E.grow T,fk,Kp.refl _ _,?_⟩,?_⟩
  .rw[aFg];exact q.grow (Kp.of T)
  .rintro i m U g ⟨rfl,hi,c,v,Y,l,k',a⟩;have z:=hJ g c k' l (E.grow T).trk Y.trk i;by_cases ao:i<ds.length
   .obtain⟨go,yl⟩:=z.1 ds[i] (aAd ao);refine .inr ⟨go,λvm u=>∃L b,EnvOk X.K h k u L vm b/\eJ X.K L/\Kp H1 O u L/\RS X h k u L (R3 G F (ds.drop<|i+1) b) D,λvm u p=>⟨ds.length-(i+1),by omega,rfl,ao,p⟩,λx u y=>?_⟩;obtain⟨s2,r2⟩:=yl x u y;rw[aDH ao,R3]at a;cases N:G ds[i] v with
    |ex x=>rw[N]at a;exact(show False from a).elim
    |bad=>rw[N]at a;exact(show False from a).elim
    |ok n=>
     rw[N]at a;dsimp only at a;refine⟨h,k,c,v,ds[i],n,Y.grow s2,r2,N,λqp H3 s3 E3=>⟨c,n,E3,l,?_⟩⟩;have kk:Kp g c H3 c:=Kp.of (s2.trans s3);cases e3:F n with
     |ex x=>rw[e3]at a;exact a
     |bad=>rw[e3]at a;exact a
     |ok o=>
      rw[e3]at a;cases o with
      |nx b=>exactλr H4 B C I t=>⟨B,b,C,I,k'.trans (kk.trans t),RS.grow a (kk.trans t)⟩
      |ct b=>exactλr H4 B C I t=>⟨B,b,C,I,k'.trans (kk.trans t),RS.grow a (kk.trans t)⟩
      |bk b=>exactλr H4 B C I t=>a r H4 B C I (kk.trans t)
      |rt d=>exact a
   .have e:i=ds.length:=by omega
    subst e;rw[List.drop_length,R3]at a;exact .inl ⟨z.2 (by simp),a U g c Y l (Kp.refl _ _)⟩⟩
def V3 (c:Ev->R Bool)(F:Ev->R Out):Nat->Ev->R Out
 |0,_=>.bad
 |n+1,ρ=>(c ρ).bind λb=>if b=true then(match F ρ with
  |.ok (.nx a)=>V3 c F n a
  |.ok (.ct a)=>V3 c F n a
  |.ok (.bk a)=>.ok (.nx a)
  |r=>r)else .ok (.nx ρ)
def gG (n:Ev->Nat)(hp:PassesOwn (bc X.prog X.w) X.A X.env X.xe)(hc:LV X c B)(hb:dH X body F):qQ X (.While c body [] pos) (λρ=>V3 B F (n ρ) ρ):=λk l=>CD (MH hp hc<|hb k l) λD σ H O ρ E fk q=>by
 refine⟨λm L C=>∃e g,EnvOk X.K k l C e L g/\eJ X.K e/\RS X k l C e (V3 B F m g) D,⟨n ρ,O,ρ,E,fk,q⟩,?_⟩;rintro m L C ⟨e,g,I,s,a⟩;cases m with
 |zero=>exact(show False from a).elim
 |succ m=>
  rw[V3]at a;refine⟨k,l,e,g,I,?_⟩;cases N:B g with
  |ex x=>rw[N]at a;exactλJ r=>a J (I.same.trans r)
  |bad=>rw[N]at a;exact a
  |ok b=>
   rw[N,R.aa0]at a;intro J r;cases b with
   |false=>rw[ja aAY]at a⊢;exact a L J e (I.grow r) s (Kp.of r)
   |true=>
    rw[i6 rfl]at a⊢;refine⟨λqp Q=>∃T t,EnvOk X.K k l Q T qp t/\eJ X.K T/\RS X k l Q T (V3 B F m t) D,λqp Q p=>⟨m,aDK m,p⟩,e,g,I.grow r,s,?_⟩;have kk:Kp C e J e:=Kp.of r;cases U:F g with
    |ex x=>rw[U]at a;exact a
    |bad=>rw[U]at a;exact a
    |ok o=>
     rw[U]at a;cases o with
     |nx f=>exactλh Y u v y z=>⟨u,f,v,y,RS.grow a (kk.trans z)⟩
     |ct f=>exactλh Y u v y z=>⟨u,f,v,y,RS.grow a (kk.trans z)⟩
     |bk f=>exactλh Y u v y z=>a h Y u v y (kk.trans z)
     |rt d=>exact a
end
def tw (K:ka)(n:Nat)(m:List D->R D):Sp:=λe H Q _=>∃O b d,Reps K H O e b/\b.length=n/\(∀a,O a->∃o,H a=some o/\Mt o)/\Tb H/\eJ K O/\m b=.ok d/\∀v c,Same H c->Rep K c O v d->Q v c
def j6 (N:List Str)(ds:List D):Ev:=ds.map Sl.v++aCO (N.length-ds.length) Sl.no
def N6:R Out->R D
 |.ok (.rt d)=>.ok d
 |.ok (.nx _)=>.ok .non
 |.ex e=>.ex e
 |_=>.bad
def uR {K:ka}{H:Hp}{O:bb->Prop}{N:List Str}{vs:List V}{ds:List D}(r:Reps K H O vs ds)(t:∀a,O a->∃o,H a=some o/\Mt o)(tb:Tb H):EnvOk K H O H O (start N vs) (j6 N ds)where
 len:=by simp[L2.start,j6,r.length]
 same:=Same.refl H
 sub:=λ_ h=>h
 trk:=t
 trk0:=λa h=>let⟨o,q,_⟩:=t a h;⟨o,q⟩
 tab:=tb
 slot:=λi f h=>by
  unfold j6 at h;unfold L2.start;by_cases b:i<ds.length
  .rw[aAU (by simpa using b),aAF]at h;cases e:ds[i]? with
   |none=>rw[e]at h;cases h
   |some c=>rw[e]at h;have d:Sl.v c=f:=aAl h;subst d;obtain⟨v,g,k⟩:=r.get e;exact⟨v,by rw[aAU (by rw[aAf,r.length];exact b),aAF,g];rfl,k⟩
  .rw[aAB (by simpa using b),aBz]at h;split at h
   .cases h;trivial
   .cases h
 inj:=λi j x y a h _ o=>by
  unfold j6 at h;by_cases b:i<ds.length
  .rw[aAU (by simpa using b),aAF]at h;cases e:ds[i]? with
   |none=>rw[e]at h;cases h
   |some c=>rw[e]at h;have d:Sl.v c=x:=aAl h;subst d;exact o.elim
  .rw[aAB (by simpa using b),aBz]at h;split at h
   .cases h;exact o.elim
   .cases h
section
variable{K:ka}
abbrev WV (P:be)(w:cq)(K:ka)(mg:fL)(base:cv)(N:List Str)(qual:Str)(sc:i4)(f:bb)(T:au)(A:cp)(a:List Env)(s:a9)(H:Hp)(E:XK):Cx:=(CQ wN P w K mg base N qual sc f T A a s H E).nox
def fnD {x qual:Str}{st:dm}{f:bb}{fd:d9}{N ps:List Str}{k:Nat}{m:List D->R D}{F:Ev->R Out}(l:Fun K x qual st f fd)(S:FnScope N ps (c7 st))
  (n:∀(T:au) (A:cp) (a:List Env) (s:a9) (H:Hp) (E:XK),Room k (A.deeper (envOfC qual (c7 st) s.heap.objs.size f T))->dH (WV P w K mg base N qual (c7 st) f T A a s H E) (u9 st) F)
  (p:∀ds d,ds.length=ps.length->m ds=.ok d->N6 (F (j6 N ds))=.ok d):FnOk P w K mg base wN (k+1) f fd ps (tw K ps.length m):=by
 refine l.ok S (by rintro t H Q E ⟨O,ds,d,r,c,_⟩;rw[r.length];exact c) (λT A a s H t Q E u v=>?_);obtain⟨O,ds,d,r,c,y,z,B,e,q⟩:=v;refine⟨_,n T A a s H E u H O,O,_,uR r y z,B,?_⟩;have h:=p ds d c e;cases g:F (j6 N ds)with
 |ok o=>
  rw[g]at h;cases o with
  |rt C=>have b:R.ok C=R.ok d:=h;injection b with b;subst b;exact q
  |nx ρ=>have b:R.ok D.non=R.ok d:=h;injection b with b;subst b;exactλL I U J _ _=>q .non I J.same .non
  |bk ρ=>cases h
  |ct ρ=>cases h
 |ex x=>rw[g]at h;cases h
 |bad=>rw[g]at h;cases h
end
section
def wA (I:Inv X Y σ H s)(O:bb->Prop)(t:∀a,O a->∃o,H a=some o/\Mt o):eJ X.K O:=λa o b z=>by obtain⟨u,h,_⟩:=t a z;have:=(I.bs a o<|I.ok.mod.kin a o b).2;rw[h]at this;cases this
def WB (F:FnOk X.prog X.w X.K X.mg X.base wN k g o ps (tw X.K n m))(r:Room k X.A)(t:X.mg x=some (.ref g))(u:PySem.W.keepIn X.K (.ref g)=true)(y:Binds X.K o ps [])(B:LY X (e::es) f)(C:∀ρ ds,f ρ=.ok ds->ds.length=n)(J:Gl X x:=by rfl)(L:(x==kc)=false:=by decide)(N:a5 (e::es) X.env=(false,dC e X.env)::a5 es X.env:=by rfl)(M9:(dq c (a5 es X.env)).any (·.1)=false:=by rfl):
  PD X (.Call (.Name x p) (e::es) [] c) (λρ=>(f ρ).bind m):=by
 refine tR λY s σ H Q I T U O ρ E q=>?_;refine VU F r J t u y .nil wq B L N M9 Y s σ H Q I ⟨T,U,O,ρ,E,?_⟩;dsimp only at q;cases a:f ρ with
 |ex z=>rw[a]at q;exact q
 |bad=>rw[a]at q;exact q
 |ok ds=>
  rw[a,R.aa0]at q;intro vs H1 h r1;rw[aCH];have l:=E.grow h;cases b:m ds with
  |ex z=>rw[b]at q;exact(q H<|Same.refl _).elim
  |bad=>rw[b]at q;exact q.elim
  |ok d=>rw[b]at q;refine⟨O,ds,d,r1,C ρ ds a,l.trk,l.tab,?_,b,λv H' s2 r2=>q v H' (h.trans s2) r2⟩;exact wA I O E.trk
end
def MA (env:Env):List (Str×eu)->List (Str×bb)->List (Str×bb)
 |[],B=>B
 |(n,k)::r,B=>MA env r (if k=.free then(n,(env.cells.lookup n).getD 0)::B else B)
def gZ (h:∀y∈d.names,y.2=.free->∃c,env.cells.lookup y.1=some c):closureFor d env=pure (MA env d.names []):=by
 have t:∀(b:List (Str×eu)) (B:List (Str×bb)),(∀y∈b,y.2=.free->∃c,env.cells.lookup y.1=some c)->
   (forIn b B λ(x:Str×eu) (r:List (Str×bb))=>(match x with
    |(f,g)=>if(g==NameKind.free)=true then(do let a<-cellOf env f;pure (aCo ((f,a)::r)))else pure (aCo r):Sem (ForInStep<|List<|Str×bb)))=pure (MA env b B):=by
  intro b;induction b with
  |nil=>intro B _;rfl
  |cons y r p=>
   intro B l;obtain⟨n,k⟩:=y;rw[aCW];by_cases m:k=.free
   .subst m;obtain⟨c,q⟩:=l (n,.free) aAW rfl;have e:cellOf env n=pure c:=by unfold cellOf;rw[q]
    simp only[beq_self_eq_true,if_true,e,pure_bind];rw[p _ λz o=>l z (aAg _ o)];simp[MA,q]
   .have u:(k==NameKind.free)=false:=by simpa using m
    simp only[u,aAs,if_false,pure_bind];rw[p _ λz o=>l z (aAg _ o)];simp[MA,m]
 have e:=t d.names [] h;show((forIn d.names ([]:List (Str×bb)) λ(x:Str×eu) (r:List (Str×bb))=>(match x with
    |(f,g)=>if(g==NameKind.free)=true then(do let a<-cellOf env f;pure (aCo ((f,a)::r)))else pure (aCo r):Sem (ForInStep<|List<|Str×bb)))>>=λs=>pure s)=_
 rw[e];rfl
theorem BE:∀(names:List (Str×eu)) (B:List (Str×bb)) {x:Str} {c:bb},(∀y∈names,y.2=.free->∃c,env.cells.lookup y.1=some c)->(∀x c,B.lookup x=some c->env.cells.lookup x=some c)->
  (MA env names B).lookup x=some c->env.cells.lookup x=some c
 |[],B,x,c,_,b,h=>b x c h
 |(n,k)::r,B,x,c,f,b,h=>by
  refine BE r _ (λy o=>f y (aAg _ o)) (λd g a=>?_) h;by_cases e:k=.free
  .rw[i6 e]at a;obtain⟨c0,l⟩:=f (n,k) aAW e;by_cases m:d=n
   .subst m;rw[aBN]at a;rw[l]at a;rw[l];exact a
   .rw[aBi,beq_eq_false_iff_ne.mpr m]at a;exact b d g a
  .rw[ja e]at a;exact b d g a
theorem wC:∀(names:List (Str×eu)) (B:List (Str×bb)) {x:Str},((x,NameKind.free)∈names\/∃c,B.lookup x=some c)->∃c,(MA env names B).lookup x=some c
 |[],B,x,h=>by
  rcases h with h|h
  .cases h
  .exact h
 |(n,k)::r,B,x,h=>by
  refine wC r _ ?_;rcases h with h|⟨c,h⟩
  .rcases aAe.mp h with e|h
   .cases e;right;rw[i6 rfl,aBN];exact⟨_,rfl⟩
   .exact .inl h
  .right;by_cases a:k=.free
   .rw[i6 a,aBi];cases(x==n)with
    |true=>exact⟨_,rfl⟩
    |false=>exact⟨c,h⟩
   .rw[ja a];exact⟨c,h⟩
theorem jP {env:Env}:∀{names:List (Str×eu)} {x:Str},
  ((names.map λ(n,k)=>if(k==NameKind.free&&env.scope.kind==.function&&env.kindOf n==some .cell)then(n,aCc)else(n,k)).lookup x=some .cell\/
   (names.map λ(n,k)=>if(k==NameKind.free&&env.scope.kind==.function&&env.kindOf n==some .cell)then(n,aCc)else(n,k)).lookup x=some .free)->(x,NameKind.free)∈names\/names.lookup x=some .cell
 |[],_,h=>by rcases h with h|h<;>cases h
 |(n,k)::r,x,h=>by
  have c:=@jP env r x;rw[aAu]at h;dsimp only at h;by_cases b:x=n
  .subst b;by_cases a:(k==NameKind.free&&env.scope.kind==.function&&env.kindOf x==some .cell)=true
   .have d:k=.free:=by rw[aAP,aAP]at a;simpa using a.1.1
    subst d;exact .inl aAW
   .rw[ja a,aBN]at h;rcases h with h|h
    .right;rw[aBN];exact h
    .have:k=.free:=aAl h;subst this;exact .inl aAW
  .have e:(r.map λ(n,k)=>if(k==NameKind.free&&env.scope.kind==.function&&env.kindOf n==some .cell)then(n,aCc)else(n,k)).lookup x=some .cell\/
     (r.map λ(n,k)=>if(k==NameKind.free&&env.scope.kind==.function&&env.kindOf n==some .cell)then(n,aCc)else(n,k)).lookup x=some .free:=by
    by_cases a:(k==NameKind.free&&env.scope.kind==.function&&env.kindOf n==some .cell)=true
    .rw[i6 a,aBi,beq_eq_false_iff_ne.mpr b]at h;exact h
    .rw[ja a,aBi,beq_eq_false_iff_ne.mpr b]at h;exact h
   rcases c e with h|h
   .exact .inl (aAg _ h)
   .right;rw[aBi,beq_eq_false_iff_ne.mpr b];exact h
theorem rL:∀(names:List (Str×eu)) (h:cv) (B:List (Str×bb)) {x:Str} {c:bb},(ek h.objs.size names B).lookup x=some c->B.lookup x=some c\/((pushCells h names).IsCell c none/\h.objs.size<=c)
 |[],h,B,x,c,e=>.inl e
 |(n,k)::r,h,B,x,c,e=>by
  unfold ek at e;unfold pushCells;split at e
  .rename_i b;rw[i6 b];rcases rL r (h.push {cls:=.type "cell",data:=.cell none}) ((n,h.objs.size)::B) (x:=x) (c:=c) (by rw[aBJ];exact e)with a|⟨a,d⟩
   .rw[aBi]at a;cases f:(x==n)with
    |true=>rw[f]at a;have g:h.objs.size=c:=aAl a;subst g;exact .inr ⟨⟨_,aEG _ _ _ _ (aAq _ rfl),rfl⟩,aAj _⟩
    |false=>rw[f]at a;exact .inl a
   .exact .inr ⟨a,by rw[aBJ]at d;exact aCF d⟩
  .rename_i b;rw[ja b];exact rL r h B e
theorem lQ:∀(names:List (Str×eu)) (n:Nat) (B:List (Str×bb)) {x:Str} {c:bb},(ek n names B).lookup x=some c->B.lookup x=some c\/n<=c
 |[],n,B,x,c,e=>.inl e
 |(m,k)::r,n,B,x,c,e=>by
  unfold ek at e;split at e
  .rcases lQ r (n+1) _ e with a|a
   .rw[aBi]at a;cases b:(x==m)with
    |true=>rw[b]at a;exact .inr (aEo (aAl a))
    |false=>rw[b]at a;exact .inl a
   .exact .inr (aCF a)
  .exact lQ r n B e
theorem qH:∀(names:List (Str×eu)) (n:Nat) (B:List (Str×bb)) {x:Str} {c:bb},(x,aCc)∈names->(ek n names B).lookup x=some c->n<=c
 |[],n,B,x,c,a,e=>nomatch a
 |(m,k)::r,n,B,x,c,a,e=>by
  unfold ek at e;rcases aAe.mp a with a|a
  .cases a;rw[i6 (show(aCc==aCc)=true from rfl)]at e;rcases lQ r (n+1) _ e with b|b
   .rw[aBN]at b;exact aEo (aAl b)
   .exact aCF b
  .split at e
   .exact aCF (qH r (n+1) _ a e)
   .exact qH r n B a e
theorem pI:∀(names:List (Str×eu)) (n:Nat) (B:List (Str×bb)) {x:Str},(x,aCc)∉names->(ek n names B).lookup x=B.lookup x
 |[],n,B,x,_=>rfl
 |(m,k)::r,n,B,x,a=>by
  unfold ek;split
  .rename_i b;rw[pI r (n+1) _ λz=>a (aAg _ z),aBi];cases c:(x==m)with
   |true=>
    have d:x=m:=by simpa using c
    have e:k=.cell:=by simpa using b
    exact absurd (by rw[d,e];exact aAW) a
   |false=>rfl
  .exact pI r n B λz=>a (aAg _ z)
theorem mO:∀(names:List (Str×eu)) (n:Nat) (B:List (Str×bb)),(∀x c,B.lookup x=some c->c<n)->(∀x y c,B.lookup x=some c->B.lookup y=some c->x=y)->
  ∀x y c,(ek n names B).lookup x=some c->(ek n names B).lookup y=some c->x=y
 |[],n,B,_,h=>h
 |(m,k)::r,n,B,g,h=>by
  unfold ek;split
  .refine mO r (n+1) _ (λx c e=>?_) λx y c b a=>?_
   .rw[aBi]at e;cases d:(x==m)with
    |true=>rw[d]at e;rw[<-aAl e];exact aDK _
    |false=>rw[d]at e;exact aBK (g x c e)
   .rw[aBi]at b a;cases d:(x==m)with
    |true=>
     rw[d]at b;cases f:(y==m)with
     |true=>rw[show x=m by simpa using d,show y=m by simpa using f]
     |false=>rw[f]at a;rw[<-aAl b]at a;exact absurd (g y _ a) (aBo _)
    |false=>
     rw[d]at b;cases f:(y==m)with
     |true=>rw[f]at a;rw[<-aAl a]at b;exact absurd (g x _ b) (aBo _)
     |false=>rw[f]at a;exact h x y c b a
  .exact mO r n B g h
abbrev fI (X:Cx)(a:i4)(C:bb):List (Str×bb):=ek (C+1) a.names (MA X.env a.names [])
def LB {E:F5}{Q:Env->a9->Prop}(f:Q (newEnv a s.heap.objs.size g (ek (s.heap.objs.size+1) a.names h) q none .none (some env) builtinsNs) {s with heap:=pushCells (s.heap.push {cls:=.type "dict",data:=.dict #[]}) a.names}):
  av M A (newFunctionEnv a g h [] q none .none (some env)) Q E s:=by
 simp only[newFunctionEnv,Option.isSome_some,if_true];refine aAa (wpAny_alloc ?_);refine aAa (wpAny_layCells _ (λe b c=>by cases d:b==aCc<;>simp[d]) _ _ _ _ ?_);rw[show({s with heap:=s.heap.push {cls:=.type "dict",data:=.dict #[]}}:a9).heap.objs.size=s.heap.objs.size+1 from aBJ ..];exact aAa (aAb<|aAb f)
def JU {R:Result->a9->Prop}(I:Nat->a9->Prop)(turn:∀n s,I n s->av (bc prog w) A (ff it) (λr l=>match r with
   |none=>R (.ok .next) l
   |some v=>av (bc prog w) A (letOwnedTupleGo a it v) (λ_ f=>av (bc prog w) A (hV a env v) (λ_ t=>
    av (bc prog w) A (forIn g true λc r=>if r=true then do let ok<-isTrue c env (dC c env);pure (aCo ok)else pure (aCo r)) (λok o=>
     if ok=true then av (bc prog w) A (dC k env) (λx u=>av (bc prog w) A (call (.builtin "list.append") [B,x]) (λ_ y=>∃m,m<n/\I m y) (λ_ _=>False) u) (λ_ _=>False) o
     else∃m,m<n/\I m o) (λ_ _=>False) t) (λ_ _=>False) f) (λ_ _=>False) l) (λ_ _=>False) s) (n:Nat) (h:I n s):fu (bc prog w) A (.compLoop (.ListComp k [⟨a,iter,g,0⟩] e p) 0 it B env) R s:=by
 refine codeAny_loop rfl I (λn s C=>?_) n h;show av _ A ((compTurn (.ListComp k [⟨a,iter,g,0⟩] e p) 0 it B env).onRaise (λx=>do noteFrame x env;theTreesLotGoes x)) _ _ s;refine wpAny_noted ?_;rw[compTurn_list];refine aAa (aEz<|aAa<|aCE (turn n s C) (λr l d=>?_) λ_ _ b=>b.elim);cases r with
 |none=>exact aAb d
 |some v=>
  refine aAa (aCE d (λ_ f q=>?_) λ_ _ b=>b.elim);refine aAa (aCE q (λ_ t E=>aAa (aCE E (λok o z=>?_) λ_ _ b=>b.elim)) λ_ _ b=>b.elim);cases ok with
  |false=>exact aAb ⟨rfl,z⟩
  |true=>exact aAa (aAa<|aCE z (λx u H=>aAa (aCE H (λ_ y J=>aAb (aAb ⟨rfl,J⟩)) λ_ _ b=>b.elim)) λ_ _ b=>b.elim)
def KF (X:Cx)(Y:Q6)(s9:a9)(H9:Hp)(b:List Str)(a:i4)(c:List (Str×bb))(C:bb)(d:List bb):Cx where
 prog:=X.prog
 w:=X.w
 K:=X.K
 mg:=X.mg
 base:=X.base
 A:=X.A
 N:=b
 s9:=s9
 H9:=H9
 env:=compEnvC a c C X.env
 outer:=X.stack
 stack:=X.stack
 ex:=d
 fn:=λx=>a.names.lookup x==some .cell
 calm:=X.calm
 pn:=X.pn++Y
 xe:=λ_ _=>False
structure CompSc (X:Cx)(scope:Scope)(own fr:List Str)(js:List Nat):Prop where
 kind:scope.kind=.function
 apart:∀y∈scope.names,y.2=.free->(y.1,aCc)∉scope.names
 names:∀y∈scope.names,y.2=.local->scope.names.lookup y.1=some .local
 free:∀y∈scope.names,y.2=.free->X.env.kindOf y.1=some .cell\/X.env.kindOf y.1=some .free
 len:js.length=fr.length
 at_:∀(i j:Nat) (x:Str),js[i]?=some j->fr[i]?=some x->X.N[j]?=some x/\(x,NameKind.free)∈scope.names
 nd:js.Nodup
 dis:∀y∈scope.names,y.2=.free->scope.names.lookup y.1=some .free
def seen:Sl->Sl
 |.v d=>.v d
 |_=>.no
def i7 (own:List Str)(a:List Nat)(ρ:Ev):Ev:=aCO own.length Sl.no++a.map λj=>seen (ρ.getD j Sl.no)
def aL (own:List Str)(a:List Nat)(σ:St):St:=aCO own.length none++a.map λj=>σ.getD j none
def Inv.ab4 (I:L2.Inv X Y σ H s)(S:CompSc X a own e f):∀y∈a.names,y.2=.free->∃c,X.env.cells.lookup y.1=some c:=
 λy b d=>I.ok.has y.1 (S.free y b d)
def dJ (h:(i7 own f ρ)[i]?=some sl):sl=.no\/∃d j,sl=.v d/\own.length<=i/\f[i-own.length]?=some j/\ρ[j]?=some (.v d):=by
 unfold i7 at h;by_cases b:i<own.length
 .rw[aAU (by simpa using b),aBz,i6 b]at h;cases h;exact .inl rfl
 .have g:own.length<=i:=aEt b;rw[aAB (by simpa using g),aCp,aAF]at h;cases e:f[i-own.length]? with
  |none=>rw[e]at h;cases h
  |some j=>
   rw[e]at h;have a:seen (ρ.getD j Sl.no)=sl:=aAl h;rw[aAi]at a;cases c:ρ[j]? with
   |none=>rw[c]at a;subst a;exact .inl rfl
   |some z=>
    rw[c]at a;cases z with
    |v d=>subst a;exact .inr ⟨d,j,rfl,g,rfl,c⟩
    |_=>subst a;exact .inl rfl
def IW {K:ka}{c H:Hp}{f O:bb->Prop}{σ:St}{ρ:Ev}{own:List Str}{g:List Nat}(E:EnvOk K c f H O σ ρ):EnvOk K c f H O (aL own g σ) (i7 own g ρ):=by
 refine⟨by simp[aL,i7],E.same,E.sub,E.trk,E.trk0,E.tab,λi n h=>?_,λi j x y a b p o=>?_⟩
 .rcases dJ h with rfl|⟨d,j,rfl,k,e,b⟩
  .trivial
  .obtain⟨v,l,m⟩:=E.val j d b;refine⟨v,?_,m⟩;unfold aL;rw[aAB (by simpa using k),aCp,aAF,e];show some (σ.getD j none)=some (some v);rw[aAi,l];rfl
 .rcases dJ b with rfl|⟨d,j,rfl,_⟩
  .exact o.elim
  .exact o.elim
def KW (I:L2.Inv X Y σ H s)(S:CompSc X a own fr js)(we:∀b∈fp,nT X Y H b)(ao:∀b∈fp,b<s.heap.objs.size)(e8:h₁=pushCells (s.heap.push {cls:=.type "dict",data:=.dict #[]}) a.names):
  L2.Inv (KF X Y s H (own++fr) a (fI X a s.heap.objs.size) s.heap.objs.size fp) [] (aL own js σ) H {s with heap:=h₁,toks:=tk}:=by
 have w:=Inv.ab4 I S;have g:∀b o,s.heap.get? b=some o->h₁.get? b=some o:=λb o e=>by rw[e8];exact aEG _ _ _ _ (aAc _ e)
 have za:h₁.Ns s.heap.objs.size (λ_=>none):=by rw[e8];exact(Heap.Ns.new s.heap<|.type "dict").keeps (aEG _ _)
 have cc:∀x c,(fI X a s.heap.objs.size).lookup x=some c->(MA X.env a.names []).lookup x=some c\/(h₁.IsCell c none/\s.heap.objs.size+1<=c):=λx c h=>by have:=rL a.names (s.heap.push {cls:=.type "dict",data:=.dict #[]}) (MA X.env a.names []) (x:=x) (c:=c) (by rw[aBJ];exact h);rw[aBJ,<-e8]at this;exact this
 have J:∀x c,(MA X.env a.names []).lookup x=some c->X.env.cells.lookup x=some c:=λx c h=>BE a.names [] w (λ_ _ z=>(by cases z)) h;have l:∀b o,X.base.get? b=some o->b∉fp:=λb o e B=>by
  rcases(we b B).2.2.2.1 with z|z
  .exact I.ok.noex b o e z
  .exact absurd (aAv (aAh e)<|aAr I.ok.bsz z) (aBo _)
 have nfs:∀b∈fp,b∉BB X.stack:=λb B z=>by
  rcases aAe.mp (I.ab5 b z)with e|z
  .exact(we b B).2.1 e
  .exact(we b B).2.2.1 z
 have A:∀x c,X.env.cells.lookup x=some c->c<s.heap.objs.size+1:=λx c h=>by obtain⟨v,o,Q,_⟩:=I.cell x c h;exact aBK (aAh Q)
 have has:∀x,((relabel a X.env).names.lookup x=some .cell\/(relabel a X.env).names.lookup x=some .free)->∃c,(fI X a s.heap.objs.size).lookup x=some c:=λx N=>by
  have:((fI X a s.heap.objs.size).lookup x).isSome=true:=PySem.W.cellsFrom_some _ _ _ (by
   rcases jP N with h|h
   .obtain⟨c,hc⟩:=wC (env:=X.env) a.names [] (x:=x) (.inl h);exact .inr (by rw[hc];rfl)
   .exact .inl h)
  exact aFp.mp this
 refine⟨⟨I.ok.mod,S.kind,I.ok.glob,I.ok.blt,aAj _,mO a.names _ _ (λx c h=>A x c (J x c h)) (λx y c h1 C=>I.ok.inj x y c (J x c h1) (J y c C)),has,λx c hf h=>aCF (qH a.names _ _ (PySem.mem_of_lookup<|eq_of_beq hf) h),I.ok.hd,I.ok.frames,.inl rfl,
  λb B=>⟨aAm (ao b B),λx c h=>(cc x c h).elim (λh=>(we b B).2.2.2.2.1 x c (J x c h)) λ⟨_,C⟩ z=>absurd (aAv (ao b B)<|aCF C) (by rw[z];exact aBo _)⟩,I.bs,aAr I.ok.bsz I.sz,λb o e=>l b o e,nfs,I.stack,I.ad5⟩,rfl,I.bare,Un.kept g,⟨_,za,λi x v e1 E L=>?_⟩,λx c h=>?_,I.hok.fresh (aAj _),λx c h=>(cc x c h).elim (λh=>I.freeC x c (J x c h)) λ⟨_,C⟩=>I.hok.fresh (aCF C),λp hp=>?_,I.hok.kept g,?_⟩
 .
  have hlen:(own++fr).length=(aL own js σ).length:=by simp[aL,S.len]
  unfold aL at E;by_cases hi:i<own.length
  .rw[aAU (by simpa using hi),aBz,i6 hi]at E;cases E
  .have gc:own.length<=i:=aEt hi;rw[aAB (by simpa using gc),aCp,aAF]at E;have T:(own++fr)[i]?=some x:=e1;rw[aAB gc]at T;cases e:js[i-own.length]? with
   |none=>rw[e]at E;cases E
   |some j=>
    rw[e]at E;have q:σ.getD j none=some v:=aAl E;obtain⟨hN,jr⟩:=S.at_ (i-own.length) j x e T;have hσ:σ[j]?=some (some v):=by
     rw[aAi]at q;cases e4:σ[j]? with
     |none=>rw[e4]at q;cases q
     |some z=>rw[e4]at q;exact jk some q
    have O:=S.free (x,.free) jr rfl;have U:BZ X.env.scope x:=.inr O;obtain⟨m,hn,hl⟩:=I.loc;obtain⟨u,r,lk⟩:=hl j x v hN hσ U;refine⟨u,r,?_⟩;rcases lk with⟨km,_⟩|⟨_,c,hc,iu⟩
    .rcases O with O|O<;>(rw[km]at O;cases O)
    .right;obtain⟨c',yb⟩:=wC (env:=X.env) a.names [] (x:=x) (.inl jr);have:=J x c' yb;rw[hc]at this;cases this;refine⟨?_,c,(pI a.names _ _<|S.apart (x,.free) jr rfl).trans yb,?_⟩
     .rcases L with L|L|L
      .
       have hq:(relabel a X.env).names.lookup x=some .local:=L;exfalso;have:∀f:List (Str×eu),(f.map λ(n,k)=>if(k==NameKind.free&&X.env.scope.kind==.function&&X.env.kindOf n==some .cell)then(n,aCc)else(n,k)).lookup x=some .local->f.lookup x=some .local:=by
        intro f;induction f with
        |nil=>intro h;cases h
        |cons y r ih=>
         obtain⟨n,k⟩:=y;intro h;rw[aAu]at h;dsimp only at h;by_cases N:x=n
         .subst N;by_cases t:(k==NameKind.free&&X.env.scope.kind==.function&&X.env.kindOf x==some .cell)=true
          .rw[i6 t,aBN]at h;cases h
          .rw[ja t,aBN]at h;rw[aBN];exact h
         .rw[aBi,beq_eq_false_iff_ne.mpr N];by_cases t:(k==NameKind.free&&X.env.scope.kind==.function&&X.env.kindOf n==some .cell)=true
          .rw[i6 t,aBi,beq_eq_false_iff_ne.mpr N]at h;exact ih h
          .rw[ja t,aBi,beq_eq_false_iff_ne.mpr N]at h;exact ih h
       have C:=this a.names hq;rw[S.dis (x,.free) jr rfl]at C;cases C
      .exact .inl L
      .exact .inr L
     .obtain⟨o,Q,hd⟩:=iu;exact⟨o,g c o Q,hd⟩
 .rcases cc x c h with h|⟨h,_⟩
  .obtain⟨v,o,Q,hd⟩:=I.cell x c (J x c h);exact⟨v,o,g c o Q,hd⟩
  .exact⟨_,h⟩
 .have hp':p∈X.pn++Y:=by simpa[KF]using hp
  obtain⟨e,n,ne,nf,d⟩:=I.pin p hp';refine⟨g _ _ e,n,aAm (aAh e),λz=>?_,d⟩;rcases aAe.mp (I.ab5 p.1 z)with e'|z'
  .exact ne e'
  .exact nf z'
 .simp[aL,KF,S.len]
def w5 (G:D->Ev->R Ev)(ft:Ev->R Bool)(fe:Ev->R D)(ρ:Ev):List D->R (List D)
 |[]=>.ok []
 |d::c=>match G d ρ with
  |.ok a=>(ft a).bind λb=>if b=true then(fe a).bind λr=>(w5 G ft fe ρ c).bind λe=>.ok (r::e)else w5 G ft fe ρ c
  |_=>.bad
def oB (ρ1 ρ:Ev):Prop:=ρ1.length=ρ.length/\∀(i:Nat) (a:Sl),ρ[i]?=some a->a≠.no->ρ1[i]?=some a
def EnvOk.weak {K:ka}{b H:Hp}{c O:bb->Prop}{σ:St}{ρ1 ρ:Ev}(E:EnvOk K b c H O σ ρ1)(h:oB ρ1 ρ):EnvOk K b c H O σ ρ where
 len:=E.len.trans h.1
 same:=E.same
 sub:=E.sub
 trk:=E.trk
 trk0:=E.trk0
 tab:=E.tab
 slot:=λi d e=>by
  by_cases n:d=.no
  .subst n;trivial
  .exact E.slot i d (h.2 i _ e n)
 inj:=λi j x y a k l f g=>E.inj i j x y a (h.2 i _ k (by rintro rfl;exact f)) (h.2 j _ l (by rintro rfl;exact g)) f g
def W5 (H:Hp)(a:bb):Hp:=λb=>if b=a then none else H b
def FU (H:Hp)(a:bb):W5 H a a=none:=i6 rfl
def Z1 (h:b≠a):W5 H a b=H b:=ja h
def JF (h:H a=some o):upd (W5 H a) a o=H:=by
 funext b
 unfold upd W5;by_cases c:b=a
 .subst c;rw[i6 rfl,h]
 .rw[ja c,ja c]
def EnvOk.ae4 {K:ka}{c H:Hp}{d O:bb->Prop}{σ:St}{ρ:Ev}{a:bb}{vs:List V}(E:EnvOk K c d H O σ ρ)(h:H a=none)(e:K.lookup a=none):EnvOk K c d (upd H a (.lst vs)) (λb=>O b\/b=a) σ ρ:=E.ab8 h e trivial
def Rep.hidden {K:ka}{H:Hp}{O:bb->Prop}{a:bb}{vs:List V}{v:V}{d:D}(h:H a=some (.lst vs))(r:Rep K H (λb=>O b\/b=a) v d):Rep K (W5 H a) O v d:=by
 refine r.mono (λb e q=>?_) (λb e n q=>⟨λz=>n (.inl z),?_⟩) λb φ n q=>⟨λz=>n (.inl z),by rw[Z1 λz=>n (.inr z)];exact q⟩
 .rcases q with(q|⟨o,q⟩)|q
  .exact .inl (.inl (by rw[Z1 (by rintro rfl;rw[h]at q;cases q)];exact q))
  .exact .inl (.inr ⟨o,by rw[Z1 (by rintro rfl;rw[h]at q;cases q)];exact q⟩)
  .exact .inr q
 .have c:b≠a:=λz=>n (.inr z);rcases q with(q|⟨o,q⟩)|q
  .exact .inl (.inl (by rw[Z1 c];exact q))
  .exact .inl (.inr ⟨o,by rw[Z1 c];exact q⟩)
  .exact .inr q
def Z2 (h:H a=none)(s:Same (upd H a (.lst vs)) H'):Same H (W5 H' a):=λb o q=>by
 have c:b≠a:=by rintro rfl;rw[h]at q;cases q
 rw[Z1 c];exact s b o (by rw[m8 c];exact q)
section
def YA (X:Cx)(a:List df)(ft:Ev->R Bool):Prop:=
 ∀(Y:Q6) (s:a9) (σ:St) (H:Hp) (Q:Bool->Hp->Prop),Inv X Y σ H s->tDT X ft σ H Q->
  av (bc X.prog X.w) X.A (forIn a true λc r=>if r=true then do let ok<-isTrue c X.env (dC c X.env);pure (aCo ok)else pure (aCo r)) (TP X Y σ Q) X.xe s
def yG:YA X [] (λ_=>.ok true):=by rintro Y s σ H Q I ⟨a,b,O,ρ,E,q⟩;exact wpAny_tests_nil ⟨H,I,q H (Same.refl _)⟩
def TN (h:LV X c ft):YA X [c] ft:=λY s σ H Q I q=>wpAny_tests_one (h Y s σ H Q I q)
def BK {tg elt iter:df}{ifs:List df}{scope:i4}{own fr:List Str}{js:List Nat}{G:D->Ev->R Ev}{ft:Ev->R Bool}{fe:Ev->R D}{Y:Q6}{σ:St}{H:Hp}{s:a9}{H9:Hp}{O0 O:bb->Prop}{ρ:Ev}
  {it:bb} {N:List bb} {tn:Nat->cv->Prop} {J:It} {ds rs:List D} {RR:au->bb->Result->a9->Prop} {EE:F5} (hc:X.calm=true) (S:CompSc X scope own fr js)
  (hX:∀l:Cx,(∃s9 Ha C,l=KF X Y s9 Ha (own++fr) scope (fI X scope C) C N)->OX l tg G/\YA l ifs ft/\PD l elt fe)
  (hG:∀d ρ1,G d (i7 own js ρ)=.ok ρ1->oB ρ1 (i7 own js ρ))
  (I:Inv X Y σ H s) (T:Turn X.prog X.w X.K tg J N it tn) (st:tn 0 s.heap) (we:∀b∈N,nT X Y H b) (E:EnvOk X.K H9 O0 H O σ ρ) (hJ:qw X.K J H O ds) (hrs:w5 G ft fe (i7 own js ρ) ds=.ok rs) (hlen:ds.length<=sizeLine)
  (fin:∀B C s' H' m,s'.heap.Ns C m->C≠B->s.heap.objs.size<=C->s.heap.objs.size<=B->Same H H'->Rep X.K H' O (.ref B) (.lst rs)->(∃H1 vs,Same H H1/\H1 B=none/\H'=upd H1 B (.lst vs)/\Reps X.K H1 O vs rs)->H' C=none->(∀h',Heap.SameBut C s'.heap h'->Inv X Y σ H' {s' with heap:=h'})->RR (.ref B) C (.ok .next) s'):
  av (bc X.prog X.w) X.A (newList []) (λB sa=>av (bc X.prog X.w) X.A (newFunctionEnv scope X.env.globals (MA X.env scope.names []) [] X.env.qual none .none (some X.env)) (λcenv se=>fu (bc X.prog X.w) X.A (.compStart (.ListComp elt [⟨tg,iter,ifs,0⟩] scope pos) 0 (.ref it) B {cenv with scope:=relabel scope X.env}) (RR B cenv.locals) se) EE sa) EE s:=by
 have hO:=wA I O E.trk;refine aAX ?_;have hfr:H s.heap.objs.size=none:=I.hok.fresh (aAj _);have hkl:X.K.lookup s.heap.objs.size=none:=by
  cases e:X.K.lookup s.heap.objs.size with
  |none=>rfl
  |some o=>exact absurd (aAh<|I.kIn _ o e) (aBo _)
 have I1:Inv X Y σ (upd H s.heap.objs.size<|.lst []) {s with heap:=s.heap.push {cls:=.type "list",dict:=none,data:=.seq ([]:List au).toArray}}:=
  I.laid (t':=s.toks) (λb u e=>aAc _ e) (aAj _) ⟨aBk _,[],0,.nil,aAq _ rfl⟩
 generalize cb:s.heap.objs.size=B at*
 generalize zb:({s with heap:=s.heap.push {cls:=.type "list",dict:=none,data:=.seq ([]:List au).toArray}}:a9)=U at I1⊢;have sz1:U.heap.objs.size=B+1:=by rw[<-zb,<-cb];exact aBJ _ _
 have keep1:∀b o,s.heap.get? b=some o->U.heap.get? b=some o:=λb o e=>by rw[<-zb];exact aAc _ e
 have wg:∀b∈N,b<B:=λb g=>by obtain⟨o,e,_⟩:=T.obj 0 _ st b g;rw[<-cb];exact aAh e
 have hfp1:∀b∈N,nT X Y (upd H B<|.lst []) b:=λb g=>by obtain⟨f0,f⟩:=we b g;exact⟨by rw[m8 (aAm<|wg b g)];exact f0,f⟩
 refine LB ?_;obtain⟨y,e8⟩:∃y,pushCells (U.heap.push {cls:=.type "dict",data:=.dict #[]}) scope.names=y:=⟨_,rfl⟩;rw[e8];have keep2:∀b o,U.heap.get? b=some o->y.get? b=some o:=λb o e=>by rw[<-e8];exact aEG _ _ _ _ (aAc _ e)
 have IB:=KW (tk:=U.toks) I1 S hfp1 (λb g=>by rw[sz1];exact aBK (wg b g)) e8.symm;generalize hC:U.heap.objs.size=C at*
 obtain⟨hG',hT',hE'⟩:=hX _ ⟨U,upd H B (.lst []),C,rfl⟩;generalize oo:KF X Y U (upd H B<|.lst []) (own++fr) scope (fI X scope C) C N=l at IB hG' hT' hE';have eP:l.prog=X.prog:=by rw[<-oo];rfl
 have eW:l.w=X.w:=by rw[<-oo];rfl
 have eK:l.K=X.K:=by rw[<-oo];rfl
 have eA:l.A=X.A:=by rw[<-oo];rfl
 have eC:l.calm=true:=by rw[<-oo];exact hc
 have eX:l.xe=λ_ _=>False:=by rw[<-oo];rfl
 have eE:l.env=compEnvC scope (fI X scope C) C X.env:=by rw[<-oo];rfl
 have eX0:l.ex=N:=by rw[<-oo];rfl
 have ePn:l.pn=X.pn++Y:=by rw[<-oo];rfl
 have eFs:l.fs=BB X.stack:=by rw[<-oo];rfl
 have eS0:l.s9=U:=by rw[<-oo];rfl
 have eH0:l.H9=upd H B (.lst []):=by rw[<-oo];rfl
 have eL:l.env.locals=C:=by rw[eE];rfl
 have eCe:l.env.cells=fI X scope C:=by rw[eE];rfl
 have I2of:=IB;have cell_ne:∀b∈N,∀x c,l.env.cells.lookup x=some c->c≠b:=λb g x c h=>(I2of.ok.exf b (by rw[eX0];exact g)).2 x c h;have accC:B≠C:=by rw[sz1];exact aAm (aDK _)
 have fpC:∀b∈N,b≠C:=λb g=>by have h1:=wg b g;rw[sz1];exact aAm (aBK h1)
 have fpB:∀{H':Hp},(∀b∈N,H' b=none)->∀b∈N,nT l [] H' b:=λ{H'} hn b g=>by
  obtain⟨f0,f1,f2,f3,f4,f5⟩:=we b g;refine⟨hn b g,by rw[eL];exact fpC b g,?_,.inl (by rw[eX0];exact g),λx c h=>cell_ne b g x c h,λp hp=>f5 p (by rw[ePn,aCH]at hp;exact hp)⟩;rw[eFs];intro z;rcases aAe.mp (I.ab5 b z)with e|z
  .exact f1 e
  .exact f2 z
 have oM:tn 0 y:=T.keep 0 s.heap y st λb g o e=>keep2 b o (keep1 b o e)
 let Iv:Nat->a9->Prop:=λn s'=>∃i ah L vs rd,n=ds.length-i/\i<=ds.length/\Inv l [] ah (upd L B<|.lst vs) s'/\L B=none/\tn i s'.heap/\(∀b∈N,L b=none)/\EnvOk X.K H9 O0 L O ah (i7 own js ρ)/\Same H L/\
  Reps X.K L O vs rd/\(∃rest,w5 G ft fe (i7 own js ρ) (ds.drop i)=.ok rest/\rs=rd++rest)/\vs.length<=i
 have loop:fu (bc X.prog X.w) X.A (.compLoop (.ListComp elt [⟨tg,iter,ifs,0⟩] scope pos) 0 (.ref it) (.ref B) (compEnvC scope (fI X scope C) C X.env)) (RR (.ref B) C) {U with heap:=y}:=by
  refine JU Iv ?_ ds.length ⟨0,_,H,[],[],by simp,aBk _,IB,hfr,oM,λb g=>(we b g).1,IW E,Same.refl H,.nil,⟨rs,by rw[aFg];exact hrs,rfl⟩,aBk _⟩;rintro n s2 ⟨i,vm,L,vs,rd,rfl,hi,I2,ye,ma,fx2,E2,zc,r2,⟨rest,k,wm⟩,hvl⟩;have fr2:∀b∈N,(upd L B<|.lst vs) b=none:=λb g=>by rw[m8 (aAm<|wg b g)];exact fx2 b g
  have sU:=k7 ye (.lst vs);have hit:=hJ (upd L B<|.lst vs) (λb=>O b\/b=B) (λb o q n=>⟨sU b o (zc b o q),λz=>z.elim n λz=>by subst z;rw[hfr]at q;cases q⟩) (λa o q z=>z.elim (hO a o q) λz=>by subst z;rw[hkl]at q;cases q) E.trk
   (λa z=>(E2.ae4 (vs:=vs) ye hkl).trk a z) i
  by_cases ao:i<ds.length
  .obtain⟨go,yl⟩:=hit.1 ds[i] (aAd ao);rw[aDH ao,w5]at k;have pf:=T.item l eP eW eK eC i [] s2 vm _ (λ_ _=>False) I2 (fpB fr2) ma go;rw[eA]at pf;refine F6 pf λr s3 z9=>?_;obtain⟨u,hr,h3⟩:=z9;subst hr;refine F6 h3 λ_ s4 z9=>?_;obtain⟨x,H4,I4,ru,y4,st4,fr4⟩:=z9;obtain⟨yf,rep4⟩:=yl x H4 y4;cases e1:G ds[i] (i7 own js ρ)with
   |ex z=>rw[e1]at k;cases k
   |bad=>rw[e1]at k;cases k
   |ok ρ1=>
    rw[e1]at k;dsimp only at k;have EB:EnvOk X.K H9 O0 H4 (λb=>O b\/b=B) vm (i7 own js ρ):=(E2.ae4 ye hkl).grow yf;have I4':=I4.pinned (fpB fr4) (T.obj _ _ st4);have again:∀{s7:a9} {qf:St} {t:Hp} {vs7:List V} {rd7:List D} {rest7:List D},Inv l ([]++oZ N s4.heap) qf t s7->t B=some (.lst vs7)->EnvOk X.K H9 O0 (W5 t B) O qf (i7 own js ρ)->Same H (W5 t B)->Reps X.K (W5 t B) O vs7 rd7->
      w5 G ft fe (i7 own js ρ) (ds.drop<|i+1)=.ok rest7->rs=rd7++rest7->vs7.length<=i+1->∃m,m<ds.length-i/\Iv m s7:=λ{s7 qf t vs7 rd7 rest7} I7 h7 E7 sm7 r7 hr7 hrs7 hv7=>by
     refine⟨ds.length-(i+1),by omega,i+1,qf,W5 t B,vs7,rd7,rfl,ao,?_,FU _ _,T.keep _ _ _ st4 λb g o e=>(I7.pin (b,o)<|aAC _<|aAC _<|cS g e).1,λb g=>?_,E7,sm7,r7,⟨rest7,hr7,hrs7⟩,hv7⟩
     .rw[JF h7];exact I7.ab3
     .rw[Z1 (aAm<|wg b g)];obtain⟨o,e,d⟩:=T.obj _ _ st4 b g;exact(I7.pin (b,o)<|aAC _<|aAC _<|cS g e).2.1
    have hasg:=hG' _ s4 vm H4 x u (λQ H5=>Same H4 H5/\EnvOk X.K H9 O0 H5 (λb=>O b\/b=B) Q ρ1) I4' ru ⟨H9,O0,_,_,ds[i],ρ1,by rw[eK];exact EB,by rw[eK];exact rep4,e1,λQ H5 s5 E5=>⟨s5,by rw[eK]at E5;exact E5⟩⟩;rw[eP,eW,eA,eE,eX]at hasg;refine F6 hasg λ_ s5 z9=>?_;obtain⟨Q,H5,I5,sm5,E5⟩:=z9;have hacc5:H5 B=some (.lst vs):=sm5 B _ (yf B _ j7);cases e2:ft ρ1 with
    |ex z=>rw[e2]at k;cases k
    |bad=>rw[e2]at k;cases k
    |ok b=>
     rw[e2,R.aa0]at k;have htst:=hT' _ s5 Q H5 (λc H6=>c=b/\Same H5 H6) I5 ⟨H9,O0,_,ρ1,by rw[eK];exact E5,by rw[e2];exactλH6 s6=>⟨rfl,s6⟩⟩;rw[eP,eW,eA,eE,eX]at htst;refine F6 htst λok s6 z9=>?_;obtain⟨H6,I6,g,sm6⟩:=z9;subst g;have sm46:Same (upd L B<|.lst vs) H6:=yf.trans (sm5.trans sm6);have hacc6:H6 B=some (.lst vs):=sm6 B _ hacc5;have smx6:Same L (W5 H6 B):=Z2 ye sm46;have W1:oB ρ1 (i7 own js ρ):=hG _ _ e1;have Eb:∀{t:Hp},Same H5 t->EnvOk X.K H9 O0 (W5 t B) O Q (i7 own js ρ):=λ{t} s7=>by
      have E7:=(E5.grow s7).weak W1;have h7:t B=some (.lst vs):=s7 B _ hacc5;refine⟨E7.len,E2.same.trans (Z2 ye<|yf.trans<|sm5.trans s7),E2.sub,λa z=>?_,E2.trk0,E2.tab.same (Z2 ye<|yf.trans<|sm5.trans s7),λj sl e=>?_,E7.inj⟩
      .obtain⟨o,q,mt⟩:=E2.trk a z;exact⟨o,Z2 ye (yf.trans<|sm5.trans s7) a o q,mt⟩
      .rcases dJ e with rfl|⟨d,_,rfl,_⟩
       .trivial
       .obtain⟨v,h1,h2⟩:=E7.val j d e;exact⟨v,h1,Rep.hidden h7 h2⟩
     cases ok with
     |false=>rw[ja aAY]at k⊢;exact again I6 hacc6 (Eb sm6) (zc.trans smx6) (r2.same smx6) k wm (Nat.le_succ_of_le hvl)
     |true=>
      rw[i6 rfl]at k⊢;cases e3:fe ρ1 with
      |ex z=>rw[e3]at k;cases k
      |bad=>rw[e3]at k;cases k
      |ok dv=>
       rw[e3,R.aa0]at k;cases e4:w5 G ft fe (i7 own js ρ) (ds.drop<|i+1)with
       |ex z=>rw[e4]at k;cases k
       |bad=>rw[e4]at k;cases k
       |ok rest'=>
        rw[e4,R.aa0]at k;have qr:dv::rest'=rest:=R.ok.inj k;have helt:=hE' _ s6 Q H6 (λv t=>Same H6 t/\Rep X.K t (λb=>O b\/b=B) v dv) I6 ⟨H9,O0,_,ρ1,by rw[eK];exact E5.grow sm6,by rw[e3,RC];exactλv t s7 r7=>⟨s7,by rw[eK]at r7;exact r7⟩⟩;rw[eP,eW,eA,eE,eX]at helt;refine F6 helt λuv s7 z9=>?_;obtain⟨v,t,I7,ruv,sm7,r7⟩:=z9;have hacc7:t B=some (.lst vs):=sm7 B _ hacc6;have happ:=vM (X:=l) _ s7 Q t (.ref B) [v] (.ref B) [uv] (λ_ H8=>H8=upd t B (.lst (vs++[v]))) I7 rfl (.cons ruv .nil) ⟨B,vs,v,rfl,rfl,hacc7,by omega,rfl⟩;rw[eP,eW,eA,eX]at happ;refine F6 happ λ_ s8 z9=>?_;obtain⟨_,H8,I8,_,h8⟩:=z9;subst h8;have hh:W5 (upd t B<|.lst (vs++[v])) B=W5 t B:=by
         funext b
         unfold W5 upd;by_cases g:b=B
         .rw[i6 g,i6 g]
         .rw[ja g,ja g,ja g]
        have smx7:Same L (W5 t B):=Z2 ye (sm46.trans sm7);refine again (vs7:=vs++[v]) (rd7:=rd++[dv]) (rest7:=rest') I8 j7 (by rw[hh];exact Eb (sm6.trans sm7)) (by rw[hh];exact zc.trans smx7) ?_ e4 (by rw[wm,<-qr,aFr];rfl) (by rw[aAx];exact Nat.succ_le_succ hvl);rw[hh];exact(r2.same smx7).snoc (Rep.hidden hacc7 r7)
  .have gc:i=ds.length:=by omega
   subst gc;have hstop:=hit.2 (by simp);have pf:=T.done l eP eW eK eC ds.length [] s2 vm _ (λ_ _=>False) I2 (fpB fr2) ma hstop;rw[eA]at pf;refine F6 pf λr s3 z9=>?_;obtain⟨hr,I3⟩:=z9;subst hr;rw[List.drop_length,w5]at k;have qr:([]:List D)=rest:=R.ok.inj k;rw[<-qr,aCH]at wm;obtain⟨m,hm,_⟩:=id I3.loc;rw[eL]at hm;have hfin:Same H (upd L B<|.lst vs):=zc.trans sU;refine fin B C s3 (upd L B<|.lst vs) m hm (aCi accC) (by omega) (aAj _) hfin ?_ ⟨L,vs,zc,ye,rfl,by rw[wm];exact r2⟩ (by rw[<-eL];exact I3.free) (λh' ig=>?_)
   .rw[wm];exact .lst (P9.of j7) (E2.fresh ye) (r2.same sU)
   .have hU:Un (BB X.stack) N (upd H B<|.lst []) (upd L B<|.lst vs) U.heap s3.heap:=by have:=I3.base;rw[eFs,eX0,eH0,eS0]at this;exact this
    have hCn:∀b o,U.heap.get? b=some o->b≠C:=λb o e=>by have:=aAh e;rw[hC]at this;exact aAm this
    have hU':Un (BB X.stack) N (upd H B<|.lst []) (upd L B<|.lst vs) U.heap h':=⟨λb o e n g hx=>(ig.2 b (hCn b o e)).trans (hU.keep b o e n g hx),λb o e n g hx=>by
      obtain⟨sl,q⟩:=hU.slot b o e n g hx;exact⟨sl,(ig.2 b (hCn b o e)).trans q⟩,hU.free,λb o e hx=>by
      obtain⟨o',q⟩:=hU.there b o e hx;exact⟨o',(ig.2 b (hCn b o e)).trans q⟩,hU.tups,hU.frzs,hU.tbls⟩
    have hCf:upd L B (.lst vs) C=none:=by rw[<-eL];exact I3.free
    have zd:gQ X.prog X.w (upd L B<|.lst vs) h':=λb u e=>by
     have g:b≠C:=by rintro rfl;rw[hCf]at e;cases e
     have:=I3.hok b u e;rw[eP,eW]at this;refine this.ab7 (λc v hc q=>(ig.2 c ?_).trans q) (λ_ q=>q) λ_ _ _ q=>q;rcases hc with z|z
     .rw[z];exact g
     .rintro rfl;rw[hCf]at z;cases z
    have hos:s3.os=U.os:=by have:=I3.os;rw[eS0]at this;exact this
    exact I1.ag0 (s':={s3 with heap:=h'}) (ch:=N) hos hU' zd I3.bare λb g=>by obtain⟨f0,f1,f2,f3,f4,f5⟩:=we b g;exact⟨f3,f1,f4,f5⟩
 exact codeAny_compStart_list loop (T.self _ 0 _ _ _ oM loop)
def N7 (own L:List Str)(c:List Nat)(hc:X.calm=true)(S:CompSc X a own L c)(hi:YN X N iter U)(hX:∀(Y:Q6) (k:List bb) (g:Cx),(∃s9 Ha C,g=KF X Y s9 Ha (own++L) a (fI X a C) C k)->OX g N G/\YA g l ft/\PD g n fe)(hG:∀ρ d ρ1,G d (i7 own c ρ)=.ok ρ1->oB ρ1 (i7 own c ρ))(hs:∀x,fh iter X.env x=pure x:=by intro _;rfl):
  PD X (.ListComp n [⟨N,iter,l,0⟩] a pos) (λρ=>(U ρ).bind λds=>if ds.length<=sizeLine then(w5 G ft fe (i7 own c ρ) ds).bind λb=>.ok (.lst b)else .bad):=by
 refine tR λY s σ H Q I H9 O0 O ρ E q=>?_;dsimp only at q;rw[eval_ListComp];refine wpAny_comprehension_free (use:=none) rfl hs (gZ<|Inv.ab4 I S) S.kind S.names ?_;refine F6 (hi Y s σ H (λJ o=>∃ds b,Same H o/\qw X.K J o O ds/\ds.length<=sizeLine/\w5 G ft fe (i7 own c ρ) ds=.ok b/\∀v f,Same H f->Rep X.K f O v (.lst b)->Q v f) I ⟨H9,O0,O,ρ,E,wA I O E.trk,?_⟩) λv s1 h1=>F6 h1 λitv s2 h2=>?_
 .cases p:U ρ with
  |ex x=>rw[p]at q;exact q
  |bad=>rw[p]at q;exact q
  |ok ds=>
   rw[p,R.aa0]at q;intro J o s1 t;split at q
   .rename_i u;cases h:w5 G ft fe (i7 own c ρ) ds with
    |ex x=>rw[h]at q;exact(q H<|Same.refl _).elim
    |bad=>rw[h]at q;exact q.elim
    |ok b=>rw[h]at q;exact⟨ds,b,s1,t,u,h,q⟩
   .exact q.elim
 .obtain⟨it,k,tn,J,H2,e,I2,T,ma,f2,ds,b,sm,t,u,y,q⟩:=h2;subst e;refine BK (RR:=λB C=>compPost (bc X.prog X.w) X.A X.xe none (EP X Y σ Q) B C) hc S (hX Y k) (hG ρ) I2 T ma f2 (E.grow sm) t y u ?_;intro B C s' f m hn _ _ _ z r _ _ hI;exact⟨m,hn,λh' ig=>⟨.ref B,f,hI h' ig,rfl,q _ f (sm.trans z) r⟩⟩
end
def _root_.L2.ObjOk.live (x:ObjOk P w H h a o):h.get? a≠none:=by
 intro z;have b:∀{u:Obj},h.get? a=some u->False:=λq=>by rw[z]at q;cases q
 cases o with
 |lst c=>obtain⟨_,_,_,_,e⟩:=x;exact b e
 |tup c=>obtain⟨_,_,_,o,e,_⟩:=x;exact b e
 |dK U=>obtain⟨_,_,_,_,o,_,_,e,_⟩:=x;exact b e
 |dT U=>obtain⟨_,_,_,_,o,_,_,e,_⟩:=x;exact b e
 |set S n=>obtain⟨o,_,_,_,e,_⟩:=x;exact b e
 |ins C d fs=>obtain⟨_,_,_,e,_⟩:=x;exact b e
 |own y=>obtain⟨_,e⟩:=x;exact b e
 |xd fs=>obtain⟨_,⟨_,_,_,e,_⟩,_⟩:=x;exact b e
 |rng lo g=>obtain⟨_,_,_,e⟩:=x;exact b e
 |frz k u=>obtain⟨e,_⟩:=x;exact b e
 |tbl l=>obtain⟨_,e,_⟩:=x;exact b e
 |met f y=>exact b (show h.get? a=some _ from x)
 |ext φ=>obtain⟨_,⟨_,e⟩,_⟩:=x;exact b e
section
end
section
variable{P:be} {w:cq} {K:ka} {mg:fL} {base:cv}
end
section
variable{X:Cx} {E:XK} {st:dm} {rest:List dm} {F:Ev->R Out} {G Ga Gb:Ev->Option au} {pos:Pos}
end
section
variable{K:ka} {h:cv} {C:bb} {bmB:List au} {newId:String}
end
section
variable{X:Cx} {E:XK} {pos bf np:Pos} {x:Str} {C:bb} {bmB:List au} {B newId initId:String}
end
end
end DL
namespace TS
open PySem PyProof.Rows HT
def vI (f:Bool)(x y:au):keyLt' (tupK f) x y=(do
 let xs<-aCJ x;let a<-aCJ y
 for ((p,q),i)in(xs.toList.zip a.toList).zipIdx do
  if !(<-eqBool p q)then return<-oneLt' (f&&i==0) p q
 return decide (xs.size<a.size)):=rfl
def OO:au->Sem (Option au):=sortPriv%PySem.Builtin.firstOfTuple?
def SY:Array au->Sem (Option au):=sortPriv%PySem.Builtin.oneTypeOnly
def JN (v:au):OO v=(do
 if(<-typeOf v) !=.type "tuple"then return none
 return (<-aCJ v)[0]?):=rfl
def SC (vs:Array au):SY vs=(do
 let a<-vs.mapM typeOf
 match a[0]? with
 |some t=>return if a.all (· ==t)then some t else none
 |none=>return none):=rfl
def EG (a:Array au):keyKind' a=(do
 let firsts<-a.mapM OO
 if firsts.all (·.isSome)then
  rule "list.sort.keys-are-tuples"
  return tupK ((<-SY (firsts.filterMap id)).any (· !=.type "tuple"))
 if(firsts[0]?.bind id).isSome then return general'
 return if(<-SY a).isSome then oneType' else general'):=rfl
section
def ND {Q:AD}(f:Bool)(h:Q (decide (a<b)) s):av (bc prog w) A (oneLt' f (.int a t) (.int b u)) Q E s:=by
 cases f with
 |true=>exact oneLt_int h
 |false=>rw[oneLt'_eq];simp only[aAs,if_false];exact aAa (AR A s a t b u prog w _ _<|aBO h)
def lt_ints (f:Bool){Q:AD}(hl:IsTup s.heap l items)(hb:IsTup s.heap b v)(hi:IntsAre items.toList ns)(hj:IntsAre v.toList O)(h:Q (HT.lexLt ns O) s):av (bc prog w) A (keyLt' (tupK f) (.ref l) (.ref b)) Q E s:=by
 obtain⟨o,ho,hc,n,hd⟩:=hl;obtain⟨o2,kn,jt,n2,T⟩:=hb;have z1:items.size=ns.length:=by rw[<-hi.length];simp
 have z2:v.size=O.length:=by rw[<-hj.length];simp
 rw[vI];refine aAa (aEn ho hd<|aAa<|aEn kn T ?_);refine aAa (aCv _ (λrest b p=>b.1=none/\p=s/\∃(k:Nat) (J L:List au) (B C:List Int),rest=(J.zip L).zipIdx k/\IntsAre J B/\IntsAre L C/\B.length+v.size=C.length+items.size/\Q (HT.lexLt B C) s)
  (λb p=>p=s/\(∀c,b.1=some c->Q c s)/\(b.1=none->Q (decide (items.size<v.size)) s)) ?turn ?fin _ _ ⟨rfl,rfl,0,items.toList,v.toList,ns,O,rfl,hi,hj,by lia,h⟩|>λz=>aCE z ?post λ_ _ e=>e)
 case post=>
  rintro⟨b1,b2⟩ p ⟨rfl,q1,q2⟩;cases b1 with
  |none=>exact aAb (q2 rfl)
  |some c=>exact aAb (q1 c rfl)
 case fin=>
  rintro⟨b1,b2⟩ p ⟨jf,rfl,k,J,L,B,C,m,U,N,d,g⟩;refine⟨rfl,λc e=>(by rw[jf]at e;cases e),λ_=>?_⟩;cases U with
  |nil=>
   cases N with
   |nil=>rw[aP]at g;simp only[aBm]at d;rw[decide_eq_false (by lia)];exact g
   |cons c u hw=>rw[Q0]at g;simp only[aBm,aAt]at d;rw[decide_eq_true (by lia)];exact g
  |cons a t hv=>
   cases N with
   |nil=>rw[D4]at g;simp only[aBm,aAt]at d;rw[decide_eq_false (by lia)];exact g
   |cons c u hw=>rw[aBY,aEu]at m;cases m
 case turn=>
  rintro⟨⟨y,x⟩,i⟩ rest b p ⟨jf,rfl,k,J,L,B,C,m,U,N,d,g⟩;cases U with
  |nil=>rw[List.zip_nil_left,aEH]at m;cases m
  |cons a t H=>
   cases N with
   |nil=>rw[List.zip_nil_right,aEH]at m;cases m
   |cons c u I=>
    rw[aBY,aEu]at m;injection m with r ag;injection r with r Y;injection r with hy hx;subst hy hx Y;rw[I9]at g;simp only[aAt]at d;obtain⟨e,he,vt⟩:=AX A p a t c u;refine aAa (he prog w _ _ ?_);cases e with
    |true=>rw[i6 (vt.mp rfl)]at g;exact aAb ⟨rfl,rfl,_,_,_,_,_,ag,H,I,by lia,g⟩
    |false=>rw[ja (λq=>absurd (vt.mpr q) aAY)]at g;exact aAa (ND _ (aAb ⟨rfl,λc e=>(by cases e;exact g),λe=>(by cases e)⟩))
end
section
theorem GS {α β:Type}{M:Model}{f:α->Sem β}(g:α->β):∀(xs:List α) {Q:List β->a9->Prop},(∀x∈xs,∀{Q:β->a9->Prop},Q (g x) s->av M A (f x) Q E s)->Q (xs.map g) s->av M A (xs.mapM f) Q E s
 |[],Q,_,q=>by rw[List.mapM_nil];exact aAb q
 |x::xs,Q,h,q=>by rw[List.mapM_cons];exact aAa (h x (.head _) (aAa (GS g xs (λy a=>h y (.tail _ a)) (aAb q))))
def GM {α β:Type}{M:Model}{f:α->Sem β}(g:α->β)(xs:List α){Q:Array β->a9->Prop}(h:∀x∈xs,∀{Q:β->a9->Prop},Q (g x) s->av M A (f x) Q E s)(q:Q (xs.map g).toArray s):av M A (xs.toArray.mapM f) Q E s:=by rw[List.mapM_toArray];show av M A (List.toArray<$>xs.mapM f) Q E s;rw[map_eq_pure_bind];exact aAa (GS g xs h<|aAb q)
def kind_tuples {vs:List au}{f:Bool}{T:String}{Q:SortKind->a9->Prop}(b:au->au)(h:∀x∈vs,∃a items,x=.ref a/\IsTup s.heap a items/\items[0]?=some (b x)/\s.TypeIs (b x) T)(g:vs≠[])(k:f=(aCr T !=aCr "tuple"))
  (q:Q (tupK f) s):av (bc prog w) A (keyKind' vs.toArray) Q E s:=by
 rw[EG];refine aAa (GM (λx=>some (b x)) vs (λx c {Q} d=>?_) ?_)
 .obtain⟨a,items,rfl,⟨o,e,l,n,m⟩,p,_⟩:=h x c;rw[JN];refine aAa (aDR (T:= "tuple") ⟨o,e,l⟩ ?_);rw[ja (by simp)];refine aAa (aEn e m ?_);rw[p];exact aAb d
 .have r:((vs.map λx=>some (b x)).toArray.all λx=>x.isSome)=true:=by simp
  have t:(vs.map λx=>some (b x)).toArray.filterMap id=(vs.map b).toArray:=by
   rw[List.filterMap_toArray,aDl];congr 1;induction vs with
   |nil=>rfl
   |cons v vs C=>simp
  simp only[r,if_true,t];refine aAa (aDx ?_);refine aAa ?_;rw[SC];refine aAa (GM (λ_=>aCr T) (vs.map b) (λx c {Q} d=>?_) ?_)
  .obtain⟨y,u,rfl⟩:=aAp.mp c;obtain⟨_,_,_,_,_,z⟩:=h y u;exact aDR z d
  .cases vs with
   |nil=>exact absurd rfl g
   |cons v vs=>
    simp only[aAu,aBw];have B:((aCr T::aCy ((λ_=>aCr T)∘b) vs).toArray.all λx=>x==aCr T)=true:=by simp
    simp only[aCN,aCZ,B,if_true];refine aAb (aAb ?_);rw[k]at q;exact q
end
theorem lex_irrefl:∀a:List Int,HT.lexLt a a=false
 |[]=>rfl
 |x::b=>by rw[I9,i6 rfl];exact lex_irrefl b
theorem lex_total:∀a b:List Int,HT.lexLt a b=false->HT.lexLt b a=false->a=b
 |[],[],_,_=>rfl
 |[],_::_,h,_=>by rw[Q0]at h;cases h
 |_::_,[],_,h=>by rw[Q0]at h;cases h
 |x::f,y::g,c,d=>by
  rw[I9]at c d;by_cases e:x=y
  .subst e;rw[i6 rfl]at c d;rw[lex_total f g c d]
  .rw[ja e]at c;rw[ja (aCi e)]at d;have:=of_decide_eq_false c;have:=of_decide_eq_false d;omega
theorem lex_trans:∀a b c:List Int,HT.lexLt a b=true->HT.lexLt b c=true->HT.lexLt a c=true
 |[],[],_,h,_=>by rw[aP]at h;cases h
 |[],_::_,[],_,h=>by rw[D4]at h;cases h
 |[],_::_,_::_,_,_=>rfl
 |_::_,[],_,h,_=>by rw[D4]at h;cases h
 |_::_,_::_,[],_,h=>by rw[D4]at h;cases h
 |x::k,y::l,z::m,f,d=>by
  rw[I9]at f d⊢;by_cases e:x=y
  .subst e;rw[i6 rfl]at f;by_cases g:x=z
   .subst g;rw[i6 rfl]at d⊢;exact lex_trans k l m f d
   .rw[ja g]at d⊢;exact d
  .rw[ja e]at f;have n:=of_decide_eq_true f;by_cases g:y=z
   .subst g;rw[ja e];exact f
   .rw[ja g]at d;have o:=of_decide_eq_true d;rw[ja (by omega)];exact decide_eq_true (by omega)
theorem oI:∀a b c:List Int,HT.lexLt a c=true->HT.lexLt a b=true\/HT.lexLt b c=true
 |[],[],_,h=>.inr h
 |[],_::_,_,_=>.inl rfl
 |_::_,_,[],h=>by rw[D4]at h;cases h
 |_::_,[],_::_,_=>.inr rfl
 |x::f,y::g,z::k,h=>by
  rw[I9]at h;rw[I9,I9];by_cases e:x=y
  .subst e;rw[i6 rfl];by_cases d:x=z
   .subst d;rw[i6 rfl]at h⊢;exact oI f g k h
   .rw[ja d]at h⊢;exact .inr h
  .rw[ja e];by_cases l:x<y
   .exact .inl (decide_eq_true l)
   .refine .inr ?_;by_cases d:x=z
    .subst d;rw[ja (aCi e)];exact decide_eq_true (by omega)
    .rw[ja d]at h;have:=of_decide_eq_true h;rw[ja (by omega)];exact decide_eq_true (by omega)
open Classical in
def kV (vs:List au) (key:au->List Int):KeyKind where
 α:=List Int
 blt:=HT.lexLt
 irrefl:=lex_irrefl
 trans:=lex_trans
 negTrans:=oI
 total:=lex_total
 keyOf:=λv=>if v∈vs then some (key v)else none
 dflt:=[]
open Classical in
def YR (h:v∈vs):(kV vs key).keyOf v=some (key v):=i6 h
open Classical in
def ZE (e:(kV vs key).keyOf v=some l):v∈vs/\key v=l:=by
 have a:(if v∈vs then some (key v)else none)=some l:=e;split at a
 .rename_i h;cases a;exact⟨h,rfl⟩
 .cases a
def pF (vs:List au):(pairsOf vs).toList=vs.map λv=>(v,v):=by
 unfold pairsOf;rw[List.zip_toArray];show vs.zip vs=_;induction vs with
 |nil=>rfl
 |cons v vs a=>rw[aBY,aAu,a]
section
def LM {a:bb}{vs:List au}{n:Nat}{f:Bool}{key:au->List Int}{P:Fin->a9->Prop}(H:s.heap.get? a=some (seqObj "list" vs.toArray n))
  (I:∀c,uw a s c->∀x∈vs,∀y∈vs,∀(prog:be) (w:cq) (E:F5) {Q:AD},Q (HT.lexLt (key x) (key y)) c->av (bc prog w) A (keyLt' (tupK f) x y) Q E c)
  (J:2<=vs.length->∀c,uw a s c->∀{Q:SortKind->a9->Prop},Q (tupK f) c->av (bc prog w) A (keyKind' vs.toArray) Q E c) (g:vs.length<64)
  (h:∀m:List au,m.Perm vs->m.Pairwise (λx y=>HT.lexLt (key y) (key x)=false)->P (.done (.ret .none)) {s with heap:=sortedHeap s.heap a vs m.toArray}):
  av (bc prog w) A (Builtin.«list.sort» ⟨[.ref a],[]⟩) P E s:=by
 refine AB (κ:=kV vs key) (f:=f) H (λp e=>?_) (λc o prog w E x y k l Q L N q=>?_) (λO c o {Q} q=>J O c o q) g λb d T=>?_
 .rw[pF]at e;obtain⟨v,r,rfl⟩:=aAp.mp e;exact⟨key v,YR r⟩
 .obtain⟨U,t⟩:=ZE L;obtain⟨Y,u⟩:=ZE N;subst t u;exact I c o x U y Y prog w E q
 .have M9:(arrOf b).toList.Perm (vs.map λv=>(v,v)):=by rw[<-pF];exact aES.mp d
  have same:∀p∈(arrOf b).toList,p.1=p.2/\p.2∈vs:=λp e=>by obtain⟨v,r,rfl⟩:=aAp.mp (M9.mem_iff.mp e);exact⟨rfl,r⟩
  have ea:(arrOf b).map (·.2)=((arrOf b).toList.map (·.2)).toArray:=by apply Array.ext';simp
  rw[ea];refine h _ ?_ ?_
  .have:=M9.map (·.2);rw[aBw,show((λx:au×au=>x.2)∘λv=>(v,v))=id from rfl,List.map_id]at this;exact this
  .rw[aCm];intro i j hi hj jo;have gc:i<(arrOf b).size:=by simpa using hi
   have B:j<(arrOf b).size:=by simpa using hj
   have z:(arrOf b).size=(pairsOf vs).size:=d.size_eq;have q:=T i j (aDt jo) (by rw[<-z];exact B);have kk:∀k (C:k<(arrOf b).size),KK (kV vs key) (arrOf b) k=key (arrOf b)[k].2:=λk C=>by unfold KK;rw[getElem?_pos _ k C];obtain⟨t,u⟩:=same (arrOf b)[k] (by simp);show((kV vs key).keyOf (arrOf b)[k].1).getD _=_;rw[t,YR u];rfl
   rw[kk i gc,kk j B]at q;rw[aEv,aEv,aFZ,aFZ];exact q
def sorted_keys {x:au}{vs:List au}{f:Bool}{key:au->List Int}{Q:F5}{C:a9->Prop}(v:∀{r:List au->a9->Prop},(∀s',C s'->r vs s')->av (bc prog w) A.in1 (collect x) r E s)
  (z:∀s',C s'->∀a,(∀b o,s'.heap.get? b=some o->a.heap.get? b=some o)->∀x∈vs,∀y∈vs,∀(prog:be) (w:cq) (t:cp) (E:F5) (O:t.units<=A.units+5) {Q:AD},Q (HT.lexLt (key x) (key y)) a->av (bc prog w) t (keyLt' (tupK f) x y) Q E a)
  (B:2<=vs.length->∀s',C s'->∀a,(∀b o,s'.heap.get? b=some o->a.heap.get? b=some o)->∀(A:cp) {Q:SortKind->a9->Prop},Q (tupK f) a->av (bc prog w) A (keyKind' vs.toArray) Q E a) (k:vs.length<64)
  (h:∀(s':a9) (d:List au) (h':cv) (l:bb),C s'->d.Perm vs->d.Pairwise (λx y=>HT.lexLt (key y) (key x)=false)->(∀b o,s'.heap.get? b=some o->h'.get? b=some o)->s'.heap.objs.size<=l->(∃n,h'.get? l=some (seqObj "list" d.toArray n))->Q (.ref l) {s' with heap:=h'}):
  av (bc prog w) A (call (.builtin "sorted") [x]) Q E s:=by
 refine Calls.call_function_entry kind_sorted plain_sorted entry_sorted (args_sorted1 _) ?_;unfold Builtin.«sorted»;refine aAa (m:=checkCount "sorted" 1 1 _) (aAb ?_);refine aAa (v λs' p=>?_);refine aAa (wpAny_newList ?_);have c:(s'.heap.push<|seqObj "list" vs.toArray 0).get? s'.heap.objs.size=some (seqObj "list" vs.toArray 0):=aAq _ rfl;have u:∀a,uw s'.heap.objs.size {s' with heap:=s'.heap.push (seqObj "list" vs.toArray 0)} a->∀b o,s'.heap.get? b=some o->a.heap.get? b=some o:=λa g b o e=>g b o (aAm<|aAh e) (aAc _ e);refine aAa (aAN (aBp slot_list_sort ⟨_,c,rfl⟩ entry_list_sort (LM (key:=key) (f:=f) c (λa g x H y I prog w E {Q} q=>z s' p a (u a g) x H y I prog w _ E (by simp) q) (λJ a g {Q} q=>B J s' p a (u a g) _ q) k λd L N=>⟨_,rfl,?_⟩)<|args_list_sort _));refine aAb ⟨_,rfl,h s' d _ _ p L N (λb o e=>?_) (aAj _) (sortedHeap_at c)⟩;rw[sortedHeap_old (aAm<|aAh e) (by rw[aBJ];exact aBK (aAh e))];exact aAc _ e
end
end TS
namespace DL
open PySem PySem.Spec L2
open PyProof.Rows hiding St
variable [Tabs]
omit [Tabs]in
def AS {ns:List Int}(h:PySem.W.WData.layableAll [PySem.W.WData.list (ns.map PySem.W.WData.int)]=true):∀x∈ns,aBe x<=1048576:=λx a=>by
 have b:=(PySem.W.layW_cons h).1;have c:=PySem.W.layableW_item b (.int x) (aAp.mpr ⟨x,a,rfl⟩);have d:=PySem.W.lay0_int c;have e:PyData.layable0 (.int x)=true:=by simpa[PyData.layableAll0]using d
 exact PyData.bits_of_layable e
def u8 (P:be)(w:cq)(K:ka)(mg:fL)(base:cv)(k:Nat)(x:Str)(n:Nat)(m:List D->R D):Prop:=
 ∃g a b,FnOk P w K mg base wN k g a b (tw K n m)/\Binds K a b []/\PySem.W.keepIn K (.ref g)=true/\mg x=some (.ref g)
def JM (f:Ev->R (List D))(n:Nat):Prop:=∀ρ a,f ρ=.ok a->a.length=n
def cB:JM T8 0:=λρ a h=>by cases h;rfl
def C3 (h:JM g n):JM (t5 f g) (n+1):=λρ k e=>by
 unfold t5 at e;cases b:f ρ with
 |ok d=>
  rw[b,R.aa0]at e;cases a:g ρ with
  |ok c=>rw[a]at e;cases e;rw[aAt,h ρ c a]
  |ex x=>rw[a]at e;cases e
  |bad=>rw[a]at e;cases e
 |ex x=>rw[b]at e;cases e
 |bad=>rw[b]at e;cases e
section
def wI (c:u8 X.prog X.w X.K X.mg X.base k x n m)(d:Room k X.A)(h:LY X (e::es) f)(l:JM f n)(o:Gl X x:=by rfl)(q:(x==kc)=false:=by decide)(r:a5 (e::es) X.env=(false,dC e X.env)::a5 es X.env:=by rfl)(M9:(dq a (a5 es X.env)).any (·.1)=false:=by rfl):
  PD X (.Call (.Name x p) (e::es) [] a) (λρ=>(f ρ).bind m):=by
 obtain⟨g,t,u,F,b,s,em⟩:=c;exact WB F d em s b h l o q r M9
end
def gy {P:be}{w:cq}{K:ka}{mg:fL}{base:cv}{x qual:Str}{st:dm}{f:bb}{fd:d9}{N ps:List Str}{k:Nat}{m:List D->R D}{F:Ev->R Out}(c:Fun K x qual st f fd)(S:FnScope N ps (c7 st))(b:Binds K fd ps [])(e:mg x=some (.ref f))
  (g:∀(T:au) (A:cp) (a:List Env) (s:a9) (H:Hp) (E:XK),Room k (A.deeper (envOfC qual (c7 st) s.heap.objs.size f T))->dH (WV P w K mg base N qual (c7 st) f T A a s H E) (u9 st) F)
  (h:∀ds d,ds.length=ps.length->m ds=.ok d->N6 (F (j6 N ds))=.ok d):u8 P w K mg base (k+1) x ps.length m:=
 ⟨f,fd,ps,fnD c S g h,b,c.kp,e⟩
def t6:∀d ρ1,(R.ok ((i7 [x] a ρ).set 0 (Sl.v d)):R Ev)=.ok ρ1->oB ρ1 (i7 [x] a ρ):=λd ρ1 h=>by
 cases h;refine⟨by simp,λi c h b=>?_⟩;cases i with
 |zero=>exact absurd (by simpa[i7]using h.symm) b
 |succ i=>rw[aCw (by lia)];exact h
def EJ (sc:i4)(N:List Str)(a:i4)(c:List Str)(b:List Nat):Bool:=
 decide (a.kind=.function)&&a.names.all (λy=>decide (y.2=.free->(y.1,aCc)∉a.names))&&a.names.all (λy=>decide (y.2=.local->a.names.lookup y.1=some .local))&&
 a.names.all (λy=>decide (y.2=.free->sc.names.lookup y.1=some .cell\/sc.names.lookup y.1=some .free))&&decide (b.length=c.length)&&(b.zip c).all (λp=>decide (N[p.1]?=some p.2/\(p.2,NameKind.free)∈a.names))&&decide b.Nodup&&
 a.names.all (λy=>decide (y.2=.free->a.names.lookup y.1=some .free))
def G5 (b:X.env.scope=sc:=by rfl)(c:X.N=N:=by rfl)(h:EJ sc N a d e=true:=by decide+kernel):CompSc X a own d e:=by simp only[EJ,aAP,aBu,decide_eq_true_eq]at h;obtain⟨⟨⟨⟨⟨⟨⟨f,g⟩,k⟩,l⟩,m⟩,n⟩,o⟩,p⟩:=h;subst b c;refine⟨f,g,k,l,m,λi j x q r=>?_,o,p⟩;refine n (j,x) (aAo (i:=i) ?_);rw[aBH];exact⟨q,r⟩
def VZ (h:EJ X.env.scope X.N a b c=true:=by first|kernel_rfl|with_unfolding_all rfl):CompSc X a own b c:=G5 rfl rfl h
def qA (σ:List (Nat×D))(h:∀p∈σ,p.1<xs.length):oB (σ.foldl (λr p=>r.set p.1 (Sl.v p.2)) (i7 xs a ρ)) (i7 xs a ρ):=by
 have f:∀(σ:List (Nat×D)) (r:Ev),(∀p∈σ,p.1<xs.length)->r.length=(i7 xs a ρ).length->(∀i,xs.length<=i->r[i]?=(i7 xs a ρ)[i]?)->
   (σ.foldl (λr p=>r.set p.1 (Sl.v p.2)) r).length=(i7 xs a ρ).length/\∀i,xs.length<=i->(σ.foldl (λr p=>r.set p.1 (Sl.v p.2)) r)[i]?=(i7 xs a ρ)[i]?:=by
  intro σ;induction σ with
  |nil=>intro r _ b c;exact⟨b,c⟩
  |cons p σ l=>intro r g b c;refine l _ (λq m=>g q (aAg _ m)) (by rw[aFQ];exact b) λi k=>?_;have:=g p aAW;rw[aCw (by lia)];exact c i k
 obtain⟨b,c⟩:=f σ _ h rfl λ_ _=>rfl;refine⟨b,λi n e o=>?_⟩;by_cases k:i<xs.length
 .have:n=.no:=by
   rcases dJ e with z|⟨d,j,_,s,_⟩
   .exact z
   .lia
  exact absurd this o
 .rw[c i (by lia)];exact e
def SR:∀d ρ1,bO 2 (E8 (λd ρ=>.ok (ρ.set 0 (.v d))) (E8 (λd ρ=>.ok (ρ.set 1 (.v d))) fJ)) d (i7 [x,y] c ρ)=.ok ρ1->oB ρ1 (i7 [x,y] c ρ):=λd ρ1 h=>by
 have e:∀f:List D,f.length=2->E8 (λd ρ=>.ok (ρ.set 0<|.v d)) (E8 (λd ρ=>.ok (ρ.set 1<|.v d)) fJ) f (i7 [x,y] c ρ)=.ok ρ1->oB ρ1 (i7 [x,y] c ρ)
  |[a,b],_,h=>by cases h;exact qA (xs:=[x,y]) [(0,a),(1,b)] (by simp)
 unfold bO at h;split at h
 .split at h
  .exact e _ ‹_› h
  .cases h
 .split at h
  .exact e _ ‹_› h
  .cases h
 .cases h
def GA:∀d ρ1,bO 3 (E8 (λd ρ=>.ok (ρ.set 0 (.v d))) (E8 (λd ρ=>.ok (ρ.set 1 (.v d))) (E8 (λd ρ=>.ok (ρ.set 2 (.v d))) fJ))) d (i7 [x,y,z] e ρ)=.ok ρ1->oB ρ1 (i7 [x,y,z] e ρ):=λd ρ1 h=>by
 have f:∀g:List D,g.length=3->E8 (λd ρ=>.ok (ρ.set 0<|.v d)) (E8 (λd ρ=>.ok (ρ.set 1<|.v d))<|E8 (λd ρ=>.ok (ρ.set 2<|.v d)) fJ) g (i7 [x,y,z] e ρ)=.ok ρ1->oB ρ1 (i7 [x,y,z] e ρ)
  |[a,b,c],_,h=>by cases h;exact qA (xs:=[x,y,z]) [(0,a),(1,b),(2,c)] (by simp)
 unfold bO at h;split at h
 .split at h
  .exact f _ ‹_› h
  .cases h
 .split at h
  .exact f _ ‹_› h
  .cases h
 .cases h
end DL
namespace DL.Att2
open PySem PySem.W PySem.Calls PyProof.Rows
def attach_bits {l:OpenLaw}{n:Nat}{q:be}{b:List Str}{v:(Str->Option au)->cv->Prop}{y:cq->cv->Prop}{d:DefRec}
  (C:l.most=some n) (p:d.params.defaults=[])
  (call:∀(w:cq) (s c:a9) (mg t:fL) (fa:bb) (o:Obj) (u cd g:au) (a:bb) (vs:List au) (ns:List Int),
   Ground q b [] v w s mg t c.heap->y w c.heap->
   c.heap.get? fa=some o->o.data=.func (docDef d.name d.params d.body d.scope u cd g)->c.heap.CodeRec cd d.name->mg d.name=some (.ref fa)->
   c.heap.get? a=some {cls:=.type "list",data:=.seq vs.toArray}->IntsAre vs ns->ns.length<=n->(∀x∈ns,aBe x<=1048576)->c.gens=#[]->
   fu (bc l.prog w) callerA (.call (.ref fa) ⟨[.ref a],[]⟩) (λr s'=>r=.ok (.ret (.bool true))/\OldK c.heap s'.heap/\s'.os=c.os/\AllBare s'.gens) c):
  WalkO q b v y l.row.toRowW d [] (λf vs=>PySem.call f vs):=by
 intro w s c mg t G Y fa o u cd g E kV H I J z L N A B as O e Q T U;obtain rfl:E=.none:=Dflts.none z p;obtain rfl:kV=.none:=Dflts.noKw z;obtain⟨a,vs,ns,rfl,rfl,k,h,m⟩:=Att.script_of C O T;have hb:=DL.AS (ns:=ns) (by first|exact e|exact e.1|(simpa using e));refine enter_call (aDQ (call w s c mg t fa o u cd g a vs ns G Y H (fd_plain I) J L k h m hb N) λr s' hq=>?_);obtain⟨rfl,h2,h3,h4⟩:=hq;exact⟨.inl ⟨.bool true,.bool true,[],rfl,λ_=>rfl,.bool true,Att.post_true l _,λ_=>⟨aGu,λ_ hm=>(nomatch hm)⟩⟩,h2,h3,h4⟩
end DL.Att2
namespace DL
open PySem PySem.Spec L2
open PyProof.Rows hiding St
variable [Tabs]
end DL
namespace DL
open PySem L2
abbrev bits (a:Int):Nat:=aBe a
def i8 (h:n6 a b):P8 (.int a) (.int b)=.ok (.int (a*b)):=i6 h
def Y6 (h:uA b):L0 (.int a) (.int b)=.ok (.int (a.fdiv b)):=i6 h
def pK (h:b≠0):O9 (.int a) (.int b)=.ok (.int (a.fmod b)):=i6 h
def yN (h:0<=b/\b<=1000000/\a.natAbs<2^64):JC (.int a) (.int b)=.ok (.int (a^b.toNat)):=i6 h
def n6.of (c:bits a<=m)(d:bits b<=n)(e:m<=60000000:=by decide)(f:n<=60000000:=by decide):n6 a b:=⟨aAr c e,aAr d f⟩
def bits_add (c:bits a<=n)(d:bits b<=n):bits (a+b)<=n+1:=by have:=PyProof.Rows.bits_add c d;rw[Nat.max_self]at this;exact this
def bits_sub (c:bits a<=n)(d:bits b<=n):bits (a-b)<=n+1:=by have:=PyProof.Rows.bits_sub c d;rw[Nat.max_self]at this;exact this
def bits_mul (c:bits a<=m)(d:bits b<=n):bits (a*b)<=m+n:=PyProof.Rows.bits_mul c d
def bits_neg (b:bits a<=m):bits (-a)<=m:=PyProof.Rows.bits_neg b
def HJ (h:a.natAbs<2^n):bits a<=n:=PyProof.Rows.intBits_le h
def GN (h:bits a<=n):a.natAbs<2^n:=PyProof.Rows.lt_pow_of_bits h (aAj n)
@[simp]def D7 (d:D)(ρ:Ev):V7 0 (Sl.v d::ρ)=.ok d:=rfl
@[simp]def Q7 (i:Nat)(x:Sl)(ρ:Ev):V7 (i+1) (x::ρ)=V7 i ρ:=rfl
@[simp]def G9 (d:D)(ρ:Ev):tM 0 (Sl.v d::ρ)=.ok d:=rfl
@[simp]def FW (d:List D)(ρ:Ev):tM 0 (Sl.o d::ρ)=.ok (.lst d):=rfl
@[simp]def D2 (i:Nat)(x:Sl)(ρ:Ev):tM (i+1) (x::ρ)=tM i ρ:=rfl
@[simp]def F3 (d:D)(ρ:Ev):YZ d ρ=.ok d:=rfl
@[simp]def B7 (ρ:Ev)(F:Ev->R Out):C9 (.ok (.nx ρ)) F=F ρ:=rfl
@[simp]def zq (d:D)(F:Ev->R Out):C9 (.ok (.rt d)) F=.ok (.rt d):=rfl
@[simp]def a1u (d:D):N6 (.ok (.rt d))=.ok d:=rfl
@[simp]def a1t (ρ:Ev):N6 (.ok (.nx ρ))=.ok .non:=rfl
@[simp]def p8 (f:Ev->R D)(g:Ev->R (List D))(ρ:Ev):t5 f g ρ=(f ρ).bind λd=>(g ρ).bind λds=>.ok (d::ds):=rfl
@[simp]def v8 (ρ:Ev):T8 ρ=.ok []:=rfl
@[simp]def a4s (a b:D):eM [a,b]=.ok (.tup [a,b]):=rfl
@[simp]def a4i (a b c:D):eM [a,b,c]=.ok (.tup [a,b,c]):=rfl
@[simp]def a4y (a b c d:D):eM [a,b,c,d]=.ok (.tup [a,b,c,d]):=rfl
@[simp]def a4b:lU []=.ok (.lst []):=rfl
@[simp]def a4j (a b c:D):lU [a,b,c]=.ok (.lst [a,b,c]):=rfl
@[simp]def a4v (x y z:D):V1 (.tup [x,y,z]) (.int 0)=.ok x:=rfl
@[simp]def a4h (x y z:D):V1 (.tup [x,y,z]) (.int 1)=.ok y:=rfl
@[simp]def a4g (x y z:D):V1 (.tup [x,y,z]) (.int 2)=.ok z:=rfl
@[simp]def a4w (x y z t:D):V1 (.tup [x,y,z,t]) (.int 0)=.ok x:=rfl
@[simp]def a4z (x y z t:D):V1 (.tup [x,y,z,t]) (.int 1)=.ok y:=rfl
@[simp]def a4n (x y z t:D):V1 (.tup [x,y,z,t]) (.int 2)=.ok z:=rfl
@[simp]def a4x (x y z t:D):V1 (.tup [x,y,z,t]) (.int 3)=.ok t:=rfl
@[simp]def a4c (x y:D):V1 (.tup [x,y]) (.int 0)=.ok x:=rfl
@[simp]def a5b (x y:D):V1 (.tup [x,y]) (.int 1)=.ok y:=rfl
def N0 (h:pU xs i=some d):V1 (.lst xs) (.int i)=.ok d:=by simp only[V1,h]
def QA {xs:List D}{i:Int}{d:D}(h:pU xs i=some d):V1 (.tup xs) (.int i)=.ok d:=by simp only[V1,h]
@[simp]def a1p (a b:Int):eS (.int a) (.int b)=.ok (.int (a+b)):=rfl
@[simp]def wW (a b:Int):SA (.int a) (.int b)=.ok (.int (a-b)):=rfl
@[simp]def a3t (a b:Int):ltR (.int a) (.int b)=.ok (.bl (decide (a<b))):=rfl
@[simp]def EL (a b:Int):leR (.int a) (.int b)=.ok (.bl (decide (a<=b))):=rfl
@[simp]def xY (a b:Int):ZV (.int a) (.int b)=.ok (.bl (decide (b<a))):=rfl
@[simp]def a3a (a:Int):rq (.int a)=.ok (.int (-a)):=rfl
@[simp]def IU (b:Bool):jT (.bl b)=.ok b:=rfl
@[simp]def a3w (b:Int):toI (.int b)=.ok (some b):=rfl
@[simp]def iO (xs:List D):RK [.lst xs]=.ok (.int xs.length):=rfl
@[simp]def NG (a:Int):a0w [.int a]=.ok (.int (if a<0 then-a else a)):=rfl
@[simp]def xK (f g:Ev->R Bool)(ρ:Ev):iz f g ρ=(f ρ).bind λb=>if b=true then g ρ else .ok false:=rfl
@[simp]def a2z (f g:Ev->R Bool)(ρ:Ev):orB f g ρ=(f ρ).bind λb=>if b=true then .ok true else g ρ:=rfl
@[simp]def a3q (a b:Int):GO (.int a) (.int b)=.ok (.bl (a==b)):=by simp only[GO,D8,x5];rfl
@[simp]def OB (a b:Int):IC (.int a) (.int b)=.ok (.bl (!(a==b))):=by simp only[IC,D8,x5];rfl
@[simp]def mj (a b c d e f:Int):GO (.tup [.int a,.int b,.int c]) (.tup [.int d,.int e,.int f])=.ok (.bl (a==d&&(b==e&&c==f))):=by simp[GO,D8,C6,x5,W0]
@[simp]def mJ (a b c d e f:Int):IC (.tup [.int a,.int b,.int c]) (.tup [.int d,.int e,.int f])=.ok (.bl (!(a==d&&(b==e&&c==f)))):=by simp[IC,D8,C6,x5,W0]
theorem K5 (r:D->D):∀{ds:List D},(∀d∈ds,∃ρ1,G d ρ=.ok ρ1/\fe ρ1=.ok (r d))->w5 G (λ_=>.ok true) fe ρ ds=.ok (ds.map r)
 |[],_=>rfl
 |d::ds,h=>by obtain⟨ρ1,a,b⟩:=h d aAW;rw[w5,a];simp only[R.aa0,if_true,b,K5 r λd c=>h d (aAg _ c),aAu]
def Z7 {α:Type}{xs:List α}{k:Int}(h0:0<=k):pU xs k=xs[k.toNat]?:=by
 unfold pU ES;rw[i6 h0];by_cases h:k<xs.length
 .rw[i6 h];rfl
 .rw[ja h,aBQ.mpr (by omega)];rfl
def G7 (n:Nat)(xs:List D):Prop:=∀x∈xs,∃i,x=.int i/\bits i<=n
def WM {n:Nat}{ns:List Int}(h:∀x∈ns,bits x<=n):G7 n (ns.map D.int):=λx a=>by obtain⟨i,b,rfl⟩:=aAp.mp a;exact⟨i,rfl,h i b⟩
def uY (g:Int->Int)(xs:List D)(k:Int):D:=match xs[k.toNat]? with
 |some d=>d
 |none=>.int (g k)
def LF (h:G7 n xs)(g:Int->Int)(k:Int):∃i,uY g xs k=.int i/\(bits i<=n\/i=g k):=by
 unfold uY;cases e:xs[k.toNat]? with
 |none=>exact⟨_,rfl,.inr rfl⟩
 |some d=>obtain⟨i,rfl,a⟩:=h d (aAo e);exact⟨i,rfl,.inl a⟩
def B0 (b:-((2:Int)^n)<a)(c:a<(2:Int)^n):bits a<=n:=HJ (by
 have e:((2^n:Nat):Int)=(2:Int)^n:=by simp
 omega)
def bits_fmod {a b:Int}{n:Nat}(h0:b≠0)(c:bits b<=n):bits (a.fmod b)<=n:=PyProof.Rows.bits_fmod_by h0 c
def bits_fdiv (c:bits a<=n):bits (a.fdiv b)<=n:=PyProof.Rows.bits_fdiv c
def y3 (h:bits a<=m)(b:m<=n:=by decide):bits a<=n:=aAr h b
@[simp]def a5k:gK [.int 3]=.ok [.int 0,.int 1,.int 2]:=rfl
@[simp]def tU (xs:List D):Q1 (.lst xs)=.ok xs:=rfl
@[simp]def uI (xs:List D):IA (.tup xs)=.ok xs:=rfl
@[simp]def aw (G:D->Ev->R Ev)(ft:Ev->R Bool)(fe:Ev->R D)(ρ:Ev):w5 G ft fe ρ []=.ok []:=rfl
@[simp]def qk (i:Nat)(ft:Ev->R Bool)(fe:Ev->R D)(ρ:Ev)(d:D)(ds:List D):w5 (λd ρ=>.ok (ρ.set i (Sl.v d))) ft fe ρ (d::ds)=(ft (ρ.set i (Sl.v d))).bind λb=>if b=true then(fe (ρ.set i (Sl.v d))).bind λr=>(w5 (λd ρ=>.ok (ρ.set i (Sl.v d))) ft fe ρ ds).bind λa=>.ok (r::a)else w5 (λd ρ=>.ok (ρ.set i (Sl.v d))) ft fe ρ ds:=rfl
@[simp]def a1z (d:D):seen (.v d)=.v d:=rfl
def SF (x:D)(r:List D):V1 (.tup (x::r)) (.int 0)=.ok x:=QA (by rw[Z7 (by decide)];rfl)
def RZ (x y:D)(r:List D):V1 (.tup (x::y::r)) (.int 1)=.ok y:=QA (by rw[Z7 (by decide)];rfl)
def ME (x y z:D)(r:List D):V1 (.tup (x::y::z::r)) (.int 2)=.ok z:=QA (by rw[Z7 (by decide)];rfl)
theorem iS (Iv:Nat->Ev->Prop)(d:∀n ρ,Iv (n+1) ρ->c ρ=.ok false\/(c ρ=.ok true/\∃ρ2,F ρ=.ok (.nx ρ2)/\Iv n ρ2))(a:∀ρ,¬Iv 0 ρ):∀n ρ,Iv n ρ->∃m b,V3 c F n ρ=.ok (.nx b)/\Iv m b/\c b=.ok false
 |0,ρ,h=>absurd h (a ρ)
 |n+1,ρ,h=>by
  rcases d n ρ h with e|⟨e,ρ2,f,g⟩
  .exact⟨n+1,ρ,by rw[V3,e];rfl,h,e⟩
  .obtain⟨m,b,k,l,o⟩:=iS Iv d a n ρ2 g;exact⟨m,b,by rw[V3,e];simp only[R.aa0,if_true,f];exact k,l,o⟩
def KO {Iv:Nat->Ev->Prop}(f:∀n ρ,Iv (n+1) ρ->c ρ=.ok false\/(c ρ=.ok true/\∃ρ2,F ρ=.ok (.nx ρ2)/\Iv n ρ2))(h0:Iv n ρ)(g:∀n a,Iv n a->c a=.ok false->N6 (k a)=.ok d)(b:∀ρ,¬Iv 0 ρ:=by(intro ρ;rintro⟨x,y,_,z,_⟩;omega)):
  N6 (C9 (V3 c F n ρ) k)=.ok d:=by
 obtain⟨m,a,e,h,l⟩:=iS Iv f b n ρ h0;rw[e];exact g m a h l
end DL
namespace DL
open PySem PySem.Spec L2
open PyProof.Rows hiding St
section
variable [Tabs]
section
variable{K:ka}
def EnvOk.ad8 (E:EnvOk K d e H O σ ρ)(i:Nat)(h:H a=none)(c:K.lookup a=none)(r:Reps K H O vs xs):
  EnvOk K d e (upd H a (.lst vs)) (λb=>O b\/b=a) (σ.set i (some (.ref a))) (ρ.set i (.o xs)):=
 E.ae1 i h c trivial λf=>⟨a,vs,rfl,.inr rfl,f,j7,r.ab8 h c⟩
def EnvOk.disown (E:EnvOk K d f H O σ ρ)(e:ρ[i]?=some (.o xs)):∃c,EnvOk K d f H c σ (ρ.set i (.v (.lst xs)))/\(∀b,c b->O b):=by obtain⟨a,l,g,m,n,h,k⟩:=E.own i xs e;exact⟨λb=>O b/\b≠a,E.ae5 e trivial g (λz=>z) ⟨.ref a,rfl,.lst (P9.of h) (λz=>z.2 rfl) (k.sub λ_ z=>z.1)⟩,λb z=>z.1⟩
def EnvOk.write (E:EnvOk K k l H O σ ρ)(e:ρ[i]?=some (.o xs))(b:σ[i]?=some (some (V.ref a)))(r:Reps K H O c d):
  EnvOk K k l (upd H a (.lst c)) O σ (ρ.set i (.o d))/\Kp H O (upd H a (.lst c)) O:=by
 obtain⟨f,q,m,g,n,h,s⟩:=E.own i xs e;have p:f=a:=by rw[m]at b;cases b;rfl
 subst p;exact E.ae2 e trivial b h trivial trivial λ_ _ _=>⟨f,c,rfl,g,n,j7,r.upd h trivial g⟩
end
section
def tF (X:Cx)(f:Ev->R (List D)):TE:=λσ H Q=>∃g h O ρ,EnvOk X.K g h H O σ ρ/\match f ρ with
 |.ok k=>∀c b a,Same H b->b a=none->Reps X.K b O c k->Q (.ref a) (upd b a<|.lst c)
 |.ex e=>∀d,Same H d->XW X e d
 |.bad=>False
def PF (X:Cx)(e:df)(f:Ev->R (List D)):Prop:=PE X e (tF X f)
def SU (I:Inv X Y σ H s)(h:H a=some o):X.K.lookup a=none:=by
 cases e:X.K.lookup a with
 |none=>rfl
 |some b=>have:=(I.bs a b<|I.ok.mod.kin a b e).2;rw[h]at this;cases this
def PF.pd (h:PF X e f):PD X e (λρ=>(f ρ).bind λds=>.ok (.lst ds)):=TM h λσ H Q g k O ρ E q=>⟨g,k,O,ρ,E,by
 dsimp only at q;cases b:f ρ with
 |ok ds=>rw[b]at q;intro l m a d c r;exact q _ _ (d.trans<|k7 c _) (.lst (P9.of j7) ((E.grow d).fresh c) (r.same<|k7 c _))
 |ex x=>rw[b]at q;exact q
 |bad=>rw[b]at q;exact q⟩
def qF (h:LY X es f):PF X (.List es d) (λρ=>(f ρ).bind λds=>if ds.length<=sizeLine then .ok ds else .bad):=
 TM (NB h) λσ H Q e g O ρ E q=>⟨e,g,O,ρ,E,by
  dsimp only at q;cases a:f ρ with
  |ok ds=>
   rw[a,R.aa0]at q;intro k l m c;by_cases b:ds.length<=sizeLine
   .rw[i6 b]at q;exact⟨by rw[c.length];exact b,λp n=>q k l p m n c⟩
   .rw[ja b]at q;exact aAk q
  |ex x=>rw[a]at q;exact q
  |bad=>rw[a]at q;exact q⟩
def kT (i:Nat)(J:PF X e f)(L:X.N.Nodup)(Q:X.N[i]?=some x:=by rfl)(T:Loc X.env.scope x:=by first|exact aCK rfl|exact aBU rfl)(U:eQ e (some (.Name x g)) m.line X.env=pure false:=by rfl)(hf:X.fn x=true\/X.env.scope.names.lookup x=some .local:=by first|exact .inl rfl|exact .inr rfl|assumption):
  qQ X (.Assign [.Name x g] e m) (λρ=>(f ρ).bind λds=>.ok (.nx (ρ.set i (.o ds)))):=by
 rintro u w Y s σ H D I ⟨O,ρ,E,fk,q⟩;dsimp only at q;refine aFn (F6 (J Y s σ H (λv A=>∃d c a ds,v=.ref a/\A=upd c a (.lst d)/\Same H c/\c a=none/\Reps X.K c O d ds/\RS X u w H O (.ok (.nx (ρ.set i<|.o ds))) D) I ⟨u,w,O,ρ,E,?_⟩) λv B z9=>?_) U
 .cases h:f ρ with
  |ok ds=>rw[h,R.aa0]at q;exactλd c a B k r=>⟨d,c,a,ds,rfl,rfl,B,k,r,q⟩
  |ex x=>rw[h]at q;exactλH' s=>q H' (E.same.trans s)
  |bad=>rw[h]at q;exact q
 .obtain⟨y,A,p,r2,d,c,a,ds,h,e2,l,k,r,q'⟩:=z9;subst h e2;refine U8 p L Q T r2 (λs3 I3=>⟨_,_,I3,?_⟩) hf;have hk:=SU p (j7 (H:=c) (a:=a) (o:=.lst d));have C:=(E.grow l).ad8 i k hk r;refine q' _ _ _ C (wA p _ C.trk) ?_;exactλb o t n=>⟨by rw[m8 (u7 (l b o t) k)];exact l b o t,λz=>z.elim n (u7 (l b o t) k)⟩
def VI (i:Nat)(ρ:Ev):Ev:=match ρ[i]? with
 |some (.o a)=>ρ.set i (.v (.lst a))
 |_=>ρ
def GT (i:Nat){st:dm}(h:qQ X st F):qQ X st (λρ=>F (VI i ρ)):=by
 intro f g Y s σ H D I ⟨O,ρ,E,k,q⟩;dsimp only at q;unfold VI at q;cases e:ρ[i]? with
 |none=>rw[e]at q;exact h f g Y s σ H D I ⟨O,ρ,E,k,q⟩
 |some l=>
  rw[e]at q;cases l with
  |x C=>exact h f g Y s σ H D I ⟨O,ρ,E,k,q⟩
  |c m φ=>exact h f g Y s σ H D I ⟨O,ρ,E,k,q⟩
  |d U=>exact h f g Y s σ H D I ⟨O,ρ,E,k,q⟩
  |no=>exact h f g Y s σ H D I ⟨O,ρ,E,k,q⟩
  |v d=>exact h f g Y s σ H D I ⟨O,ρ,E,k,q⟩
  |o w=>obtain⟨p,r,sub⟩:=E.disown e;exact h f g Y s σ H D I ⟨p,_,r,λa o t z=>k a o t (sub a z),RS.grow q λb o u n=>⟨u,λz=>n (sub b z)⟩⟩
def yP (i:Nat)(ρ:Ev)(d:D):R Out:=match ρ[i]? with
 |some (.o a)=>if a.length<sizeLine then .ok (.nx (ρ.set i<|.o (a++[d])))else .bad
 |_=>.bad
def cK (i:Nat)(A:PD X e f)(B:X.N[i]?=some x:=by rfl)(I:BZ X.env.scope x:=by first|exact aCK rfl|exact aBU (aCK rfl)|exact aBU (aBU rfl))(J:(x==kc)=false:=by decide)(L:(x==kd)=false:=by decide)(Q:gs (.Name x p) "append" X.env (dC (.Name x p) X.env)=dC (.Name x p) X.env:=by rfl)(T:((dq g (a5 [e] X.env)).all (λx=>!x.1)&&(backToKw g (keywordEach [] X.env)).all (λx=>x.1.isSome)
   &&decide ([e].length+([]:List Keyword).length+(if([]:List Keyword).isEmpty then 0 else 1)<30))=true:=by rfl) (Y:(b.endLine==g.line)=true:=by rfl) (s:a5 [e] X.env=(false,dC e X.env)::a5 [] X.env:=by rfl) (ju:(dq g (a5 [] X.env)).any (·.1)=false:=by rfl) (wo:eQ (.Call (.Attribute (.Name x p) "append" b) [e] [] g) none n.line X.env=pure false:=by rfl):
  qQ X (.Expr (.Call (.Attribute (.Name x p) "append" b) [e] [] g) n) (λρ=>(f ρ).bind (yP i ρ)):=λH9 O0=>
 CD (oV (YB PySem.F.plainAttrs_list PySem.F.slot_list_append PySem.F.type_list_append vM (R7 B I J L) (f8 A o7 s) Q T Y s ju) wo) λD σ H O ρ E fk q=>by
 cases k:f ρ with
 |ok d=>
  rw[k,R.aa0]at q;unfold yP at q;cases h:ρ[i]? with
  |none=>rw[h]at q;exact aAk q
  |some t=>
   rw[h]at q;cases t with
   |x C=>exact aAk q
   |c m φ=>exact aAk q
   |d U=>exact aAk q
   |no=>exact aAk q
   |v d=>exact aAk q
   |o xs=>
    dsimp only at q;split at q
    .rename_i hz;obtain⟨a,u,w,h2,h3,y,z⟩:=E.own i xs h;refine⟨_,w,.inl ⟨rfl,u,P9.of y⟩,H9,O0,O,ρ,E,?_⟩;show JB X H O ((f ρ).bind λd=>(R.ok []).bind λds=>.ok (d::ds)) _;rw[k];intro us H1 l r;cases r with
     |cons r rn=>cases rn;have E1:=E.grow l;refine⟨a,u,_,rfl,rfl,l _ _ y,by rw[z.length];exact hz,?_⟩;obtain⟨E2,k2⟩:=E1.write h w ((z.same l).snoc r);exact q σ _ O E2 fk ((Kp.of l).trans k2)
    .exact aAk q
 |ex x=>
  rw[k]at q;cases h:ρ[i]? with
  |none=>exact(q H E.same).elim
  |some t=>exact(q H E.same).elim
 |bad=>rw[k]at q;exact aAk q
def ay (i:Nat)(ρ:Ev)(d:D):R Out:=match ρ[i]?,d with
 |some (.o a),.lst b=>if a.length+b.length<=sizeLine then .ok (.nx (ρ.set i<|.o (a++b)))else .bad
 |_,_=>.bad
def CZ (i:Nat)(ρ:Ev):R (D×Ev):=match ρ[i]? with
 |some (.o a)=>match a[a.length-1]? with
  |some d=>.ok (d,ρ.set i (.o a.dropLast))
  |none=>.bad
 |_=>.bad
def UM (i:Nat)(t:X.N[i]?=some x:=by rfl)(u:BZ X.env.scope x:=by first|exact aCK rfl|exact aBU (aCK rfl)|exact aBU (aBU rfl))(w:(x==kc)=false:=by decide)(y:(x==kd)=false:=by decide)(A:gs (.Name x p) "pop" X.env (dC (.Name x p) X.env)=dC (.Name x p) X.env:=by rfl)(B:(b.endLine==l.line)=true:=by rfl)(I:eQ (.Call (.Attribute (.Name x p) "pop" b) [] [] l) none f.line X.env=pure false:=by rfl):
  qQ X (.Expr (.Call (.Attribute (.Name x p) "pop" b) [] [] l) f) (λρ=>(CZ i ρ).bind λz=>.ok (.nx z.2)):=λH9 O0=>
 CD (oV (QU PySem.F.plainAttrs_list PySem.F.slot_list_pop PySem.F.type_list_pop SQ (R7 t u w y) A B) I) λD σ H O ρ E J q=>by
 unfold CZ at q;cases e:ρ[i]? with
 |none=>rw[e]at q;exact aAk q
 |some L=>
  rw[e]at q;cases L with
  |x C=>exact aAk q
  |c m φ=>exact aAk q
  |d U=>exact aAk q
  |no=>exact aAk q
  |v d=>exact aAk q
  |o g=>
   dsimp only at q;cases h:g[g.length-1]? with
   |none=>rw[h]at q;exact aAk q
   |some d=>rw[h]at q;obtain⟨a,n,r,h2,h3,s,k⟩:=E.own i g e;obtain⟨v,Q,g2⟩:=k.get h;refine⟨_,r,.inl ⟨rfl,n,P9.of s⟩,a,n,v,rfl,rfl,s,by rw[k.length];exact Q,?_⟩;obtain⟨T,Y⟩:=E.write e r k.dropLast;exact q σ _ O T J Y
def FX (j i:Nat)(f:X.N.Nodup)(jo:i≠j:=by decide)(B:X.N[i]?=some x:=by rfl)(I:X.N[j]?=some y:=by rfl)(J:BZ X.env.scope x:=by first|exact aCK rfl|exact aBU (aCK rfl)|exact aBU (aBU rfl))(L:(x==kc)=false:=by decide)(Q:(x==kd)=false:=by decide)(T:gs (.Name x p) "pop" X.env (dC (.Name x p) X.env)=dC (.Name x p) X.env:=by rfl)(Y:(b.endLine==r.line)=true:=by rfl)(g:Loc X.env.scope y:=by first|exact aCK rfl|exact aBU rfl)(wo:eQ (.Call (.Attribute (.Name x p) "pop" b) [] [] r) (some (.Name y py)) h.line X.env=pure false:=by rfl)(hf:X.fn y=true\/X.env.scope.names.lookup y=some .local:=by first|exact .inl rfl|exact .inr rfl|assumption):
  qQ X (.Assign [.Name y py] (.Call (.Attribute (.Name x p) "pop" b) [] [] r) h) (λρ=>(CZ i ρ).bind λz=>.ok (.nx (z.2.set j (.v z.1)))):=λH9 O0=>
 CD (MN f I g (QU PySem.F.plainAttrs_list PySem.F.slot_list_pop PySem.F.type_list_pop SQ (R7 B J L Q) T Y) wo hf) λD σ H O ρ E s q=>by
 unfold CZ at q;cases e:ρ[i]? with
 |none=>rw[e]at q;exact aAk q
 |some sl=>
  rw[e]at q;cases sl with
  |x C=>exact aAk q
  |c m φ=>exact aAk q
  |d U=>exact aAk q
  |no=>exact aAk q
  |v d=>exact aAk q
  |o k=>
   dsimp only at q;cases l:k[k.length-1]? with
   |none=>rw[l]at q;exact aAk q
   |some d=>rw[l]at q;obtain⟨a,t,u,h2,h3,w,n⟩:=E.own i k e;obtain⟨v,g1,g2⟩:=n.get l;refine⟨_,u,.inl ⟨rfl,t,P9.of w⟩,a,t,v,rfl,rfl,w,by rw[n.length];exact g1,?_⟩;obtain⟨E2,A⟩:=E.write e u n.dropLast;exact q _ _ O (E2.set j<|A.rep E.trk s g2) s A
def ZR (i:Nat)(ρ:Ev)(k d:D):R Out:=match ρ[i]?,k with
 |some (.o a),.int k=>match ES a.length k with
  |some j=>.ok (.nx (ρ.set i<|.o (a.set j d)))
  |none=>.bad
 |_,_=>.bad
def JV (i:Nat)(T:PD X e f)(Y:PD X k g)(hN:X.N[i]?=some x:=by rfl)(hv:BZ X.env.scope x:=by first|exact aCK rfl|exact aBU (aCK rfl)|exact aBU (aBU rfl))(hd:(x==kc)=false:=by decide)(fg:(x==kd)=false:=by decide)(ha:∀v,hV (.Subscript (.Name x p) k ps) X.env v=(do
   let h<-fo [v] (dC (.Name x p) X.env)
   let t<-fo [v,h] (dC k X.env)
   standAt ps
   fo [v,h,t] (setItem h t v)
   release [v,h,t] []):=by intro _;rfl) (hs:gn [.Subscript (.Name x p) k ps] e u.line X.env=pure false:=by rfl) (hw:gr [.Subscript (.Name x p) k ps] e X.env=pure none:=by rfl) (l:(ee [.Subscript (.Name x p) k ps] X.env).map (·.2)=[hV (.Subscript (.Name x p) k ps) X.env]:=by rfl):
  qQ X (.Assign [.Subscript (.Name x p) k ps] e u) (λρ=>(f ρ).bind λd=>(g ρ).bind λw=>ZR i ρ w d):=λB I=>
 CD (FG T (NC (R7 hN hv hd fg) Y OK ha) hs hw l) λD σ H O ρ E fk q=>⟨B,I,O,ρ,E,by
  cases y:f ρ with
  |ok d=>
   rw[y,R.aa0]at q;intro v H1 J r1;have z:=E.grow J;cases n:g ρ with
   |ok w=>
    rw[n,R.aa0]at q;unfold ZR at q;cases r:ρ[i]? with
    |none=>rw[r]at q;exact aAk q
    |some sl=>
     rw[r]at q;cases sl with
     |x C=>exact aAk q
     |c m φ=>exact aAk q
     |d U=>exact aAk q
     |no=>exact aAk q
     |v d=>exact aAk q
     |o L=>
      obtain⟨a,vs,l,h2,h3,h4,Q⟩:=z.own i L r;refine⟨_,l,B,I,O,ρ,z,?_⟩;rw[n];intro kv H2 b r2;have E2:=z.grow b;cases w with
      |int kk=>
       dsimp only at q;cases A:ES L.length kk with
       |none=>rw[A]at q;exact aAk q
       |some j=>rw[A]at q;cases r2;refine⟨a,vs,kk,j,rfl,rfl,b _ _ h4,by rw[Q.length];exact A,?_⟩;obtain⟨E3,k3⟩:=E2.write r l ((Q.same b).set (r1.same b) j);exact q σ _ O E3 fk (((Kp.of J).trans (Kp.of b)).trans k3)
      |_=>exact aAk q
   |ex x=>rw[n]at q;exact(q H E.same).elim
   |bad=>rw[n]at q;exact aAk q
  |ex x=>rw[y]at q;exactλH' s=>q H' (E.same.trans s)
  |bad=>rw[y]at q;exact q⟩
def uW (i:Nat)(own fr:List Str)(L:List Nat)(hN:X.N.Nodup)(hc:X.calm=true)(S:CompSc X f own fr L)(hi:YN X tg iter fi)(hX:∀(Y:Q6) (fp:List bb) (X':Cx),(∃s9 Ha C,X'=KF X Y s9 Ha (own++fr) f (fI X f C) C fp)->OX X' tg G/\YA X' k ft/\PD X' l fe)(hG:∀ρ d ρ1,G d (i7 own L ρ)=.ok ρ1->oB ρ1 (i7 own L ρ))(hy:X.N[i]?=some y:=by rfl)(U:X.env.scope.names.lookup y=some .local:=by rfl)(wo:eQ (.ListComp l [⟨tg,iter,k,0⟩] f pos) (some (.Name y py)) spos.line X.env=pure true:=by rfl)(hs:∀x,fh iter X.env x=pure x:=by intro _;rfl):
  qQ X (.Assign [.Name y py] (.ListComp l [⟨tg,iter,k,0⟩] f pos) spos) (λρ=>((fi ρ).bind λds=>if ds.length<=sizeLine then(w5 G ft fe (i7 own L ρ) ds).bind λg=>R.ok g else .bad).bind λg=>.ok (.nx (ρ.set i (.o g)))):=by
 rintro H9 O0 Y s σ H D I ⟨O,ρ,E,fk,q⟩;dsimp only at q;rw[exec_Assign_Name_used _ _ _ _ wo];refine aAa (aEz<|aAa ?_);show av _ X.A (do let _<-comprehension (.ListComp l [⟨tg,iter,k,0⟩] f pos) f X.env _ (newList []) false (dC iter X.env) (some<|hV (.Name y py) X.env)) _ _ s;refine aAa (aCE (wpAny_comprehension_free (use:=some (hV (.Name y py) X.env)) (Q:=λ_ t=>SP X Y D .next t) rfl hs (gZ<|Inv.ab4 I S) S.kind S.names ?_) (λ_ t hq=>aAb (aAb hq)) λ_ _ e=>e);refine F6 (hi Y s σ H (λJ H1=>∃ds g,Same H H1/\qw X.K J H1 O ds/\ds.length<=sizeLine/\w5 G ft fe (i7 own L ρ) ds=.ok g/\RS X H9 O0 H O (.ok (.nx (ρ.set i<|.o g))) D) I ⟨H9,O0,O,ρ,E,wA I O E.trk,?_⟩) λv s1 h1=>F6 h1 λitv s2 h2=>?_
 .cases e1:fi ρ with
  |ex x=>rw[e1]at q;exactλH' s=>q H' (E.same.trans s)
  |bad=>rw[e1]at q;exact q
  |ok ds=>
   rw[e1,R.aa0]at q;intro J H1 s1 hJ;split at q
   .rename_i hl;cases e2:w5 G ft fe (i7 own L ρ) ds with
    |ex x=>rw[e2]at q;exact(q H E.same).elim
    |bad=>rw[e2]at q;exact q.elim
    |ok g=>rw[e2]at q;exact⟨ds,g,s1,hJ,hl,e2,q⟩
   .exact q.elim
 .obtain⟨it,fp,tn,J,H2,e,I2,T,ma,f2,ds,g,sm,hJ,hl,hrs,q⟩:=h2;subst e;refine BK (RR:=λB C=>compPost (bc X.prog X.w) X.A X.xe (some<|hV (.Name y py) X.env) (λ_ t=>SP X Y D .next t) B C) hc S (hX Y fp) (hG ρ) I2 T ma f2 (E.grow sm) hJ hrs hl ?_;intro B C t H' m hn hCa h has sm' r nw hC hI;have I3:=hI t.heap (aGz ..);show av _ X.A (hV (.Name y py) X.env<|.ref B) _ _ t;refine wpAny_assign_Name (uD (i:=i) (v:=.ref B) I3 hN hy (.inl U) rfl (λs4 I4 z9=>?_)<|.inr U);obtain⟨a,hsb,ha⟩:=z9;have iu:∀x c,X.env.cells.lookup x=some c->c≠C:=λx c hc=>by obtain⟨v,hv⟩:=I2.cell x c hc;exact aAm (aAv hv.lt h)
  have hCL:C≠X.env.locals:=aCA (aAv I2.lt h);have hCa2:C≠a:=by
   rcases ha with ha|ha
   .rw[ha];exact hCL
   .exact aCi (iu y a ha)
  refine⟨m,hn.sameBut hsb hCa2,λh' ig=>?_⟩;obtain⟨H1,vs,ze,u,eH,rr⟩:=nw;subst eH;have E2:=((E.grow sm).grow ze).ad8 i u (SU I3<|j7 (H:=H1) (a:=B) (o:=.lst vs)) rr;refine⟨_,_,?_,q _ _ _ E2 (wA I3 _ E2.trk) λb o hb n=>⟨by rw[m8 (u7 ((sm.trans ze) b o hb) u)];exact(sm.trans ze) b o hb,λz=>z.elim n (u7 ((sm.trans ze) b o hb) u)⟩⟩;exact I4.turned (t':=s4.toks) (it:=C) (λb o hb e=>(ig.2 b hb).trans e) hC hCL (.inr (aAr I2.sz h)) iu λp hp=>aAm (aAv (aAh (I2.pin p hp).1) h)
def bP (i:Nat)(own r:List Str)(f:List Nat)(hN:X.N.Nodup)(hc:X.calm=true)(S:CompSc X c own r f)(s:YN X t iter L)(hX:∀(Y:Q6) (fp:List bb) (m:Cx),(∃s9 Ha C,m=KF X Y s9 Ha (own++r) c (fI X c C) C fp)->OX m t G/\YA m g ft/\PD m h fe)(hG:∀ρ d ρ1,G d (i7 own f ρ)=.ok ρ1->oB ρ1 (i7 own f ρ))(hy:X.N[i]?=some y:=by rfl)(u:X.env.scope.names.lookup y=some .local:=by rfl)(wo:eQ (.ListComp h [⟨t,iter,g,0⟩] c w) (some (.Name y py)) l.line X.env=pure true:=by rfl)(hs:∀x,fh iter X.env x=pure x:=by intro _;rfl):
  qQ X (.Assign [.Name y py] (.ListComp h [⟨t,iter,g,0⟩] c w) l) (λρ=>((L ρ).bind λds=>if ds.length<=sizeLine then(w5 G ft fe (i7 own f ρ) ds).bind λp=>.ok (D.lst p)else .bad).bind λd=>.ok (.nx (ρ.set i (.v d)))):=λQ T=>CD (uW i own r f hN hc S s hX hG hy u wo hs Q T) λD σ H O ρ E fk q=>⟨O,ρ,E,fk,by
 dsimp only at q⊢;cases A:L ρ with
 |ex x=>rw[A]at q;exact q
 |bad=>rw[A]at q;exact q
 |ok ds=>
  rw[A,R.aa0]at q;rw[R.aa0];by_cases U:ds.length<=sizeLine
  .rw[i6 U]at q⊢;cases B:w5 G ft fe (i7 own f ρ) ds with
   |ex x=>rw[B]at q;exact q
   |bad=>rw[B]at q;exact q
   |ok p=>
    rw[B]at q;intro ah H' O' I f' J;by_cases s:i<ρ.length
    .obtain⟨O2,E2,sub⟩:=I.disown (i:=i) (xs:=p) (by rw[aBL s]);rw[List.set_set]at E2;exact q ah H' O2 E2 (λa o k z=>f' a o k (sub a z)) λb o hb n=>⟨(J b o hb n).1,λz=>(J b o hb n).2 (sub b z)⟩
    .have e:∀x,ρ.set i x=ρ:=λx=>List.set_eq_of_length_le (by lia);have q:RS X Q T H O (.ok (.nx (ρ.set i<|.v (.lst p)))) D:=q;rw[e]at I q;exact q ah H' O' I f' J
  .rw[ja U]at q;exact aAk q⟩
def lH {st:dm}:qQ X st (λ_=>.bad):=λa b=>CD RG λD σ H O ρ E c q=>q
end
end
section
theorem cV {α β:Type}[BEq α][LawfulBEq α]:∀{l:List (α×β)} {a:α} {b:β},(l.map (·.1)).Nodup->(a,b)∈l->l.lookup a=some b
 |(x,y)::l,a,b,h,d=>by
  rw[aAu,aAH]at h;rw[aBi];rcases aAe.mp d with e|c
  .cases e;simp
  .have:(a==x)=false:=by rw[beq_eq_false_iff_ne];rintro rfl;exact h.1 (aAp.mpr ⟨(a,b),c,rfl⟩)
   rw[this];exact cV h.2 c
theorem mem_lookup {α β:Type}[BEq α][LawfulBEq α]:∀{l:List (α×β)} {a:α} {b:β},l.lookup a=some b->(a,b)∈l
 |(x,y)::l,a,b,h=>by
  rw[aBi]at h;split at h
  .rename_i q;cases h;rw[eq_of_beq q];exact .head _
  .exact .tail _ (mem_lookup h)
def yC (o:Obj):Prop:=∃v,o.data=.cell v
def fC (H:Hp)(cs:Q6):Hp:=λb=>match cs.lookup b with
 |some o=>some (.frz o (.own b))
 |none=>H b
def U5 (H:Hp)(cs:Q6):Hp:=λb=>match cs.lookup b with
 |some _=>none
 |none=>H b
section
variable{K:ka}
def gF (e:cs.lookup b=some o):fC H cs b=some (.frz o (.own b)):=by unfold fC;rw[e]
def V0 (e:cs.lookup b=none):fC H cs b=H b:=by unfold fC;rw[e]
def cG (e:cs.lookup b=some o):U5 H cs b=none:=by unfold U5;rw[e]
def N9 (e:cs.lookup b=none):U5 H cs b=H b:=by unfold U5;rw[e]
def G4 (a:∀b o,cs.lookup b=some o->H b=none)(e:H b=some u):fC H cs b=some u:=by
 cases q:cs.lookup b with
 |none=>rw[V0 q];exact e
 |some o=>rw[a b o q]at e;cases e
def fX (a:∀b o,cs.lookup b=some o->H b=none):Same H (fC H cs):=λb u e=>G4 a e
def z8 (a:∀b o,cs.lookup b=some o->H b=some (.frz o (.own b)))(e:H b=some u)(ne:∀o,cs.lookup b=some o->u≠.frz o (.own b)):U5 H cs b=some u:=by
 cases q:cs.lookup b with
 |none=>rw[N9 q];exact e
 |some o=>rw[a b o q]at e;cases e;exact absurd rfl (ne o q)
def NT (x:gQ P w H h)(a:∀b o,cs.lookup b=some o->h.get? b=some o/\H b=none):gQ P w (fC H cs) h:=λb u e=>by
 have d:∀b o,cs.lookup b=some o->H b=none:=λb o q=>(a b o q).2;cases q:cs.lookup b with
 |some o=>rw[gF q]at e;cases e;exact⟨(a b o q).1,⟨o,(a b o q).1⟩⟩
 |none=>rw[V0 q]at e;exact(x b u e).ab7 (λ_ _ _ z=>z) (λc z=>G4 d z) λc u _ z=>G4 d z
def NK (x:gQ P w H h)(d:∀b o,cs.lookup b=some o->H b=some (.frz o (.own b))/\yC o):gQ P w (U5 H cs) h:=λb u e=>by
 have g:∀b o,cs.lookup b=some o->H b=some (.frz o (.own b)):=λb o q=>(d b o q).1;cases q:cs.lookup b with
 |some o=>rw[cG q]at e;cases e
 |none=>rw[N9 q]at e;refine(x b u e).ab7 (λ_ _ _ z=>z) (λc z=>z8 g z λo _ a=>by cases a) λc u f z=>z8 g z λo q a=>?_;subst a;obtain⟨m,l⟩:=f;obtain⟨v,k⟩:=(d c o q).2;rw[l]at k;cases k
def ZM (U:Un fs [] (fC H cs) f h h')(k:gQ P w f h')(g:∀b o,cs.lookup b=some o->h.get? b=some o/\H b=none/\yC o):Un fs [] H (U5 f cs) h h'/\gQ P w (U5 f cs) h'/\∀b o,cs.lookup b=some o->f b=some (.frz o (.own b)):=by
 have l:∀b o,cs.lookup b=some o->H b=none:=λb o q=>(g b o q).2.1;have a:∀b o,cs.lookup b=some o->f b=some (.frz o (.own b)):=λb o q=>U.frzs b o _ (gF q);refine⟨⟨λb o e n m c=>?_,λb o e n m c=>?_,λb o e n c=>?_,λb o e c=>U.there b o e c,λb p e=>?_,λb o u e=>?_,λb r e=>?_⟩,NK k λb o q=>⟨a b o q,(g b o q).2.2⟩,a⟩
 .cases q:cs.lookup b with
  |none=>exact U.keep b o e (by rw[V0 q];exact n) m c
  |some d=>have:=(g b d q).1;rw[e]at this;cases this;exact(k b _<|a b o q).1
 .cases q:cs.lookup b with
  |none=>exact U.slot b o e (by rw[V0 q];exact n) m c
  |some d=>have:=(g b d q).1;rw[e]at this;cases this;exact⟨o.slots,(k b _<|a b o q).1⟩
 .cases q:cs.lookup b with
  |none=>rw[N9 q];exact U.free b o e (by rw[V0 q];exact n) c
  |some d=>exact cG q
 .exact z8 a (U.tups b p<|G4 l e) λo _ z=>by cases z
 .refine z8 a (U.frzs b o u<|G4 l e) λd q z=>?_;rw[l b d q]at e;cases e
 .exact z8 a (U.tbls b r<|G4 l e) λo _ z=>by cases z
def ny (U:Un fs [] (U5 H cs) d h h')(k:gQ P w d h')(g:∀b o,cs.lookup b=some o->h.get? b=some o/\H b=some (.frz o (.own b))/\b∉fs):Un fs [] H (fC d cs) h h'/\gQ P w (fC d cs) h'/\Same d (fC d cs):=by
 have l:∀b o,cs.lookup b=some o->H b=some (.frz o (.own b)):=λb o q=>(g b o q).2.1;have f:∀b o,cs.lookup b=some o->d b=none:=λb o q=>U.free b o (g b o q).1 (cG q) (by simp);have p:∀b o,cs.lookup b=some o->h'.get? b=some o:=λb o q=>U.keep b o (g b o q).1 (cG q) (g b o q).2.2 (by simp);have a:∀b,H b=none->cs.lookup b=none:=λb n=>by
  cases q:cs.lookup b with
  |none=>rfl
  |some o=>rw[l b o q]at n;cases n
 refine⟨⟨λb o e n m c=>U.keep b o e (by rw[N9 (a b n)];exact n) m c,λb o e n m c=>U.slot b o e (by rw[N9 (a b n)];exact n) m c,λb o e n c=>?_,λb o e c=>U.there b o e c,λb r e=>?_,λb o u e=>?_,λb s e=>?_⟩,
  NT k λb o q=>⟨p b o q,f b o q⟩,fX f⟩
 .rw[V0 (a b n)];exact U.free b o e (by rw[N9 (a b n)];exact n) c
 .exact G4 f (U.tups b r (z8 l e λo _ z=>by cases z))
 .cases q:cs.lookup b with
  |none=>exact G4 f (U.frzs b o u (by rw[N9 q];exact e))
  |some t=>rw[l b t q]at e;cases e;exact gF q
 .exact G4 f (U.tbls b s (z8 l e λo _ z=>by cases z))
def IF (c:∀b o,cs.lookup b=some o->H b=some (.frz o (.own b)))(q:Z6 K H a xs):Z6 K (U5 H cs) a xs:=by
 rcases q with(q|⟨o,q⟩)|q
 .exact .inl (.inl (z8 c q λo _ z=>by cases z))
 .exact .inl (.inr ⟨o,z8 c q λo _ z=>by cases z⟩)
 .exact .inr q
def HZ (c:∀b o,cs.lookup b=some o->H b=some (.frz o (.own b)))(q:P9 K H a xs):P9 K (U5 H cs) a xs:=by
 rcases q with(q|⟨o,q⟩)|q
 .exact .inl (.inl (z8 c q λo _ z=>by cases z))
 .exact .inl (.inr ⟨o,z8 c q λo _ z=>by cases z⟩)
 .exact .inr q
def GX {cs:Q6}{φ:cv->Prop}(a:∀b o,cs.lookup b=some o->H b=some (.frz o (.own b)))(q:H b=some (.ext φ)):U5 H cs b=some (.ext φ):=by
 unfold U5;cases e:cs.lookup b with
 |none=>simpa[e]using q
 |some o=>have:=a b o e;rw[q]at this;cases this
def Rep.hid (a:∀b o,cs.lookup b=some o->H b=some (.frz o (.own b)))(r:Rep K H O v d):Rep K (U5 H cs) O v d:=r.mono (λ_ _ q=>IF a q) (λ_ _ n q=>⟨n,HZ a q⟩) λb φ n q=>⟨n,GX a q⟩
def Reps.hid (a:∀b o,cs.lookup b=some o->H b=some (.frz o (.own b)))(r:Reps K H O v d):Reps K (U5 H cs) O v d:=r.mono (λ_ _ q=>IF a q) (λ_ _ n q=>⟨n,HZ a q⟩) λb φ n q=>⟨n,GX a q⟩
end
variable [Tabs]
section
variable(P:be) (w:cq) (K:ka) (mg:fL) (base:cv) (k:Nat)
def LX (n:Nat)(m:List D->R D)(H:Hp)(O:bb->Prop)(a:bb):Prop:=
 (∃h l p q,H a=some (.frz ⟨h,l,.func p,q⟩ (.own a)))/\
 ∀(A:cp) (b:List Env) (s:a9) (f:List au) (g:List V) (c:List D) (d:D) (Q:VK) (E:XK),Room k A->Env0 P w K mg base A b s H->n8 g f->Reps K H O g c->c.length=n->(∀a,O a->∃o,H a=some o/\Mt o)->Tb H->eJ K O->m c=.ok d->
  (∀v e,Same H e->Rep K e O v d->Q v e)->fu (bc P w) A (.call (.ref a) ⟨f,[]⟩) (CR wN b P w H s Q E) s
end
open Classical in
def callC (Φ:(List D->R D)->Hp->(bb->Prop)->bb->Prop) (i:Nat) (f:Ev->R (List D)):Ev->R D:=λρ=>match ρ[i]? with
 |some (.c m φ)=>if φ=Φ m then(f ρ).bind m else .bad
 |_=>.bad
section
def QB (i:Nat)(ha:LY X (e::es) f)(hl:JM f n)(hr:Room k X.A)(hN:X.N[i]?=some x:=by rfl)(hv:BZ X.env.scope x:=by first|exact aCK rfl|exact aBU (aCK rfl)|exact aBU (aBU rfl))(hd:(x==kc)=false:=by decide)(fg:(x==kd)=false:=by decide)(he:a5 (e::es) X.env=(false,dC e X.env)::a5 es X.env:=by rfl)(M9:(dq g (a5 es X.env)).any (·.1)=false:=by rfl):
  PD X (.Call (.Name x p) (e::es) [] g) (callC (LX X.prog X.w X.K X.mg X.base k n) i f):=by
 refine tR λY s σ H Q I H9 O0 O ρ E q=>?_;unfold callC at q;cases y:ρ[i]? with
 |none=>rw[y]at q;exact q.elim
 |some l=>
  rw[y]at q;cases l with
  |c m φ=>
   dsimp only at q;split at q
   .rename_i B;subst B;obtain⟨a,h1,T⟩:=E.slot i _ y;obtain⟨⟨U,od,fd,l,hf⟩,_⟩:=T H O (Kp.refl _ _);refine aAO (F6 (R7 hN hv hd fg Y s σ H (λv H'=>v=.ref a/\H'=H) I ⟨_,h1,rfl,rfl⟩) λu s1 z9=>?_);obtain⟨v,H1,I1,r1,ev,eH⟩:=z9;subst ev eH;obtain rfl:u=aDu a:=r1;refine PySem.W.callWith_F ⟨U,od,fd,l,(I1.hok a _ hf).1⟩ (F6 (ha g Y s1 σ H1 _ I1 ⟨H9,O0,O,ρ,E,JB.seq q⟩) λus s2 ⟨vs,H2,o,rv,C,e2,J,rr,b⟩=>⟨⟨U,od,fd,l,(o.hok a _<|J _ _ hf).1⟩,?_⟩) he M9;cases t:m C with
    |ex z=>rw[t]at b;exact(b H2<|Same.refl _).elim
    |bad=>rw[t]at b;exact b.elim
    |ok d=>
     rw[t]at b;have L:=E.grow J;refine wpAny_call (aDQ ((T H2 O<|Kp.of J).2 X.A X.stack s2 us vs C d Q (λ_ _ _=>False) hr o.af5 rv rr (hl ρ C e2) L.trk L.tab (wA o O L.trk) t b) λr s' h=>?_);cases r with
     |error e=>exact h.elim
     |ok fl=>
      cases fl with
      |ret u=>exact o.after h
      |next=>exact aAk h
      |brk=>exact aAk h
      |cont=>exact aAk h
   .exact q.elim
  |_=>exact q.elim
end
def spF (K:ka)(Φ:(List D->R D)->Hp->(bb->Prop)->bb->Prop)(M:D->(List D->R D)->(List D->R D)->R D):Sp:=λm H Q _=>∃O v1 f g h k l d,m=[v1,.ref g,.ref k]/\Rep K H O v1 f/\(∀b c,Kp H O b c->Φ h b c g)/\(∀b c,Kp H O b c->Φ l b c k)/\
 (∀a,O a->∃o,H a=some o/\Mt o)/\Tb H/\eJ K O/\M f h l=.ok d/\∀v e,Same H e->Rep K e O v d->Q v e
def kZ (N:List Str)(Φ:(List D->R D)->Hp->(bb->Prop)->bb->Prop)(d:D)(a b:List D->R D):Ev:=.v d::.c a (Φ a)::.c b (Φ b)::aCO (N.length-3) Sl.no
def DA {K:ka}{H:Hp}{O:bb->Prop}{N:List Str}{v1:V}{e:D}{a1 a2:bb}{f g:List D->R D}{Φ:(List D->R D)->Hp->(bb->Prop)->bb->Prop}(r:Rep K H O v1 e)(k:∀c d,Kp H O c d->Φ f c d a1)(l:∀c d,Kp H O c d->Φ g c d a2)
  (t:∀a,O a->∃o,H a=some o/\Mt o) (tb:Tb H):EnvOk K H O H O (start N [v1,.ref a1,.ref a2]) (kZ N Φ e f g)where
 len:=by simp[L2.start,kZ]
 same:=Same.refl H
 sub:=λ_ h=>h
 trk:=t
 trk0:=λa h=>let⟨o,q,_⟩:=t a h;⟨o,q⟩
 tab:=tb
 slot:=λi m h=>by
  match i with
  |0=>cases h;exact⟨v1,rfl,r⟩
  |1=>cases h;exact⟨a1,rfl,k⟩
  |2=>cases h;exact⟨a2,rfl,l⟩
  |i+3=>
   have b:(aCO (N.length-3) Sl.no)[i]?=some m:=h;rw[aBz]at b;split at b
   .cases b;trivial
   .cases b
 inj:=λi j x y a h _ o=>by
  match i with
  |0=>cases h;exact o.elim
  |1=>cases h;exact o.elim
  |2=>cases h;exact o.elim
  |i+3=>
   have b:(aCO (N.length-3) Sl.no)[i]?=some x:=h;rw[aBz]at b;split at b
   .cases b;exact o.elim
   .cases b
section
variable{K:ka}
def fnF {x qual:Str}{st:dm}{f:bb}{fd:d9}{N ps:List Str}{k:Nat}{M:D->(List D->R D)->(List D->R D)->R D}{Φ:(List D->R D)->Hp->(bb->Prop)->bb->Prop}{F:Ev->R Out}(n:Fun K x qual st f fd)(S:FnScope N ps (c7 st))(p:ps.length=3)
  (t:∀(T:au) (A:cp) (a:List Env) (s:a9) (H:Hp) (E:XK),Room k (A.deeper (envOfC qual (c7 st) s.heap.objs.size f T))->dH (WV P w K mg base N qual (c7 st) f T A a s H E) (u9 st) F)
  (u:∀c g l d,M c g l=.ok d->N6 (F (kZ N Φ c g l))=.ok d):FnOk P w K mg base wN (k+1) f fd ps (spF K Φ M):=by
 refine n.ok S (λv H Q E z=>by obtain⟨O,v1,c,y,g,B,l,d,e,_⟩:=z;rw[e,p];rfl) (λT A a s H v Q E C z=>?_);obtain⟨O,v1,c,y,g,B,l,d,I,r,J,L,U,Y,fk,e,q⟩:=z;subst I;refine⟨_,t T A a s H E C H O,O,_,DA r J L U Y,fk,?_⟩;have h:=u c g l d e;cases m:F (kZ N Φ c g l)with
 |ok o=>
  rw[m]at h;cases o with
  |rt d'=>have b:R.ok d'=R.ok d:=h;injection b with b;subst b;exact q
  |nx ρ=>have b:R.ok D.non=R.ok d:=h;injection b with b;subst b;exactλah H' O' E' _ _=>q .non H' E'.same .non
  |bk ρ=>cases h
  |ct ρ=>cases h
 |ex x=>rw[m]at h;cases h
 |bad=>rw[m]at h;cases h
end
structure NScope (ps ls fn:List Str)(sc:Scope):Prop where
 kind:sc.kind=.function
 co:sc.isCoroutine=false
 gen:sc.isGenerator=false
 nd:(ps++(ls++fn)).Nodup
 par:∀x∈ps,sc.names.lookup x=some .local
 fre:∀x∈fn,sc.names.lookup x=some .free
 all:∀x,sc.names.lookup x=some .free->x∈fn
 nocell:∀y∈sc.names,y.2≠.cell
abbrev yj (P:be)(w:cq)(K:ka)(mg:fL)(base:cv)(N:List Str)(env:Env)(A:cp)(outer:List Env)(s:a9)(H:Hp):Cx where
 prog:=P
 w:=w
 K:=K
 mg:=mg
 base:=base
 A:=A.deeper env
 N:=N
 s9:=s
 H9:=H
 env:=env
 outer:=outer
 stack:=env::outer
 ex:=[]
 calm:=true
 fn:=λ_=>false
 pn:=[]
 xe:=λ_ _=>False
def O6 {α:Type}(vs:List α)(n:Nat)(no:α)(ws:List α):List α:=vs++(aCO n no++ws)
def iJ {α:Type}{vs ws:List α}{n i:Nat}{no a:α}(h:(O6 vs n no ws)[i]?=some a):vs[i]?=some a\/a=no\/(vs.length+n<=i/\ws[i-(vs.length+n)]?=some a):=by
 unfold O6 at h;by_cases c:i<vs.length
 .rw[aAU c]at h;exact .inl h
 .rw[aAB (by lia)]at h;by_cases b:i-vs.length<n
  .rw[aAU (by simpa using b),aBz,i6 b]at h;exact .inr (.inl (aAl h).symm)
  .rw[aAB (by simpa using b),aCp]at h;exact .inr (.inr ⟨by lia,by rw[show i-(vs.length+n)=i-vs.length-n by lia];exact h⟩)
def QV {α:Type}{vs ws:List α}{n i:Nat}{no a:α}(h:vs[i]?=some a):(O6 vs n no ws)[i]?=some a:=by unfold O6;rw[aAU (aAy.mp h).1];exact h
def SN {α:Type}{vs ws:List α}{n i:Nat}{no a:α}(h:ws[i]?=some a):(O6 vs n no ws)[vs.length+n+i]?=some a:=by unfold O6;rw[aAB (by lia),aAB (by simp;lia),aCp,show vs.length+n+i-vs.length-n=i by lia];exact h
section
variable{K:ka}
def CF {A:cp}{g:List Env}{s:a9}{H:Hp}{N:List au}{vs wv:List V}{h₁:cv}{tk:Nat}(S:NScope ps l fn d)(T:A.handled=none)(k:Env0 P w K mg base A g s H)(C:vs.length=ps.length)(r:n8 vs N)(O:wv.length=fn.length)
  (Q:∀(i:Nat) (x:Str) (v:V),fn[i]?=some x->wv[i]?=some v->∃c u,clos.lookup x=some c/\RelV v u/\s.heap.IsCell c (some u)) (B:∀x c,clos.lookup x=some c->(∃v,s.heap.IsCell c v)/\H c=none)
  (U:∀x y c,clos.lookup x=some c->clos.lookup y=some c->x=y) (Y:h₁.Ns s.heap.objs.size (λx=>(ps.zip N).reverse.lookup x)) (E:∀b o,s.heap.get? b=some o->h₁.get? b=some o):
  Inv (yj P w K mg base (ps++(l++fn)) (PySem.W.envX qual d s.heap.objs.size fa cd clos) A g s H) [] (O6 (vs.map some) l.length none (wv.map some)) H {s with heap:=h₁,toks:=tk}:=by
 have m:∀b:bb,b∉(yj P w K mg base (ps++(l++fn)) (PySem.W.envX qual d s.heap.objs.size fa cd clos) A g s H).ex:=λb z=>absurd (show b∈([]:List bb)from z) (by simp);have J:ps.Nodup:=(aCD.mp S.nd).1;refine⟨⟨k.mod,S.kind,rfl,rfl,aAj _,U,λy n=>?_,λy c hf _=>(by cases hf),λ_=>T,aFV k.frames,.inr ⟨rfl,rfl⟩,λb z=>absurd z (m b),k.bs,k.bsz,λb _ _=>m b,λb z=>absurd z (m b),k.funs,k.frf⟩,
  rfl,k.bare,Un.kept E,⟨_,Y,λi y v h1 f h3=>?_⟩,λy c h=>?_,k.hok.fresh (aAj _),λy c h=>(B y c h).2,λp hp=>absurd (show p∈([]:Q6)from hp) (by simp),k.hok.kept E,?_⟩
 .have n:d.names.lookup y=some .cell\/d.names.lookup y=some .free:=n;rcases n with n|n
  .exact absurd rfl (S.nocell _<|PySem.mem_of_lookup n)
  .have hm:=S.all y n;obtain⟨i,I,e⟩:=aBj hm;have hw:i<wv.length:=by rw[O];exact I
   obtain⟨c,u,q,_⟩:=Q i y wv[i] (by rw[aAd I,e]) (aAd hw);exact⟨c,q⟩
 .have t:(ps++(l++fn))[i]?=some y:=h1;rcases iJ f with f|f|⟨h4,f⟩
  .rw[aAF]at f;cases e:vs[i]? with
   |none=>rw[e]at f;cases f
   |some a=>
    rw[e]at f;have L:a=v:=aAl (aAl f);subst L;obtain⟨u,hu,rv⟩:=r.get e;have I:i<ps.length:=by rw[<-C];exact(aAy.mp e).1
    rw[aAU I]at t;refine⟨u,rv,.inl ⟨S.par y (aAo t),?_⟩⟩;refine cV ?_ ?_
    .rw[aEw];refine(List.reverse_perm _).nodup_iff.mpr ?_;rw[List.map_fst_zip (by rw[<-C,r.length];exact aAj _)];exact J
    .rw[aCh];exact aAo (i:=i) (by rw[aBH];exact⟨t,hu⟩)
  .cases f
  .rw[aAf]at h4 f;rw[aAF]at f;cases e:wv[i-(vs.length+l.length)]? with
   |none=>rw[e]at f;cases f
   |some a=>rw[e]at f;have L:a=v:=aAl (aAl f);subst L;rw[aAB (by lia),aAB (by lia),<-C,show i-vs.length-l.length=i-(vs.length+l.length)by lia]at t;obtain⟨c,u,q1,q2,q3⟩:=Q _ y a t e;exact⟨u,q2,.inr ⟨.inr (S.fre y<|aAo t),c,q1,q3.keeps E⟩⟩
 .obtain⟨⟨v,z⟩,_⟩:=B y c h;exact⟨v,z.keeps E⟩
 .unfold O6;simp[C,O]
def FZ {H:Hp}{O:bb->Prop}{vs wv:List V}{ds wd:List D}{n:Nat}(r:Reps K H O vs ds)(g:Reps K H O wv wd)(t:∀a,O a->∃o,H a=some o/\Mt o)(tb:Tb H):
  EnvOk K H O H O (O6 (vs.map some) n none (wv.map some)) (O6 (ds.map Sl.v) n .no (wd.map Sl.v))where
 len:=by unfold O6;simp[r.length,g.length]
 same:=Same.refl H
 sub:=λ_ h=>h
 trk:=t
 trk0:=λa h=>let⟨o,q,_⟩:=t a h;⟨o,q⟩
 tab:=tb
 slot:=λi k h=>by
  rcases iJ h with h|h|⟨l,h⟩
  .rw[aAF]at h;cases e:ds[i]? with
   |none=>rw[e]at h;cases h
   |some d=>rw[e]at h;have b:Sl.v d=k:=aAl h;subst b;obtain⟨v,c,f⟩:=r.get e;exact⟨v,QV (by rw[aAF,c];rfl),f⟩
  .subst h;trivial
  .rw[aAF,aAf]at h;rw[aAf]at l;cases e:wd[i-(ds.length+n)]? with
   |none=>rw[e]at h;cases h
   |some d=>rw[e]at h;have b:Sl.v d=k:=aAl h;subst b;obtain⟨v,c,f⟩:=g.get e;refine⟨v,?_,f⟩;have:=SN (vs:=vs.map some) (n:=n) (no:=(none:Option V)) (ws:=wv.map some) (i:=i-(ds.length+n)) (a:=some v) (by rw[aAF,c];rfl);rw[aAf,r.length,show ds.length+n+(i-(ds.length+n))=i by lia]at this;exact this
 inj:=λi j x y a h _ o=>by
  rcases iJ h with h|h|⟨_,h⟩
  .obtain⟨d,_,rfl⟩:=aAp.mp (aAo h);exact o.elim
  .subst h;exact o.elim
  .obtain⟨d,_,rfl⟩:=aAp.mp (aAo h);exact o.elim
def jj {name:Str}{l:Arguments}{body:List dm}{doc pm ctv:au}{N:bb}{oc:Obj}{k:Nat}{m:List D->R D}{F:Ev->R Out}{H:Hp}{O:bb->Prop}{cs:Q6}{wv:List V}{wd:List D}(S:NScope ps ls fn g)
  (hb:∀(A:cp) (f:List Env) (s:a9) (H:Hp),Room k (A.deeper (PySem.W.envX qual g s.heap.objs.size fa (.ref N) clos))->dH (yj P w K mg base (ps++(ls++fn)) (PySem.W.envX qual g s.heap.objs.size fa (.ref N) clos) A f s H) body F)
  (hm:∀ds d,ds.length=ps.length->m ds=.ok d->N6 (F (O6 (ds.map Sl.v) ls.length .no (wd.map Sl.v)))=.ok d)
  (wu:∀(s:a9) (U:List au),U.length=ps.length->BindsTo s (PySem.W.fnX name qual l body g clos .none .none doc pm none (.ref N) ctv) ⟨U,[]⟩ (ps.zip U))
  (hfa:H fa=some (.frz (PySem.W.fnMade name qual l body g clos doc pm N ctv) (.own fa))) (hc:H N=some (.frz oc (.own N))) (bp:∃vs t,oc.data=.fields vs/\vs[1]?=some (.str qual t))
  (vv:∀b o,cs.lookup b=some o->H b=some (.frz o (.own b))/\yC o) (yg:∀(i:Nat) (x:Str) (v:V),fn[i]?=some x->wv[i]?=some v->∃c u o,clos.lookup x=some c/\cs.lookup c=some o/\o.data=.cell (some u)/\RelV v u)
  (hcc:∀x c,clos.lookup x=some c->∃o,cs.lookup c=some o) (og:∀x y c,clos.lookup x=some c->clos.lookup y=some c->x=y) (qg:wv.length=fn.length) (hr:Reps K H O wv wd) (hO:∀a,O a->∃o,H a=some o/\Mt o):
  ∀B Y,Kp H O B Y->LX P w K mg base (k+1) ps.length m B Y fa:=by
 intro B Y kp;have fz:∀b o u,H b=some (.frz o u)->B b=some (.frz o u):=λb o u e=>(kp b _ e λz=>by obtain⟨o',q,mt⟩:=hO b z;rw[e]at q;cases q;exact mt).1;have T:∀b o,cs.lookup b=some o->B b=some (.frz o (.own b)):=λb o q=>fz _ _ _ (vv b o q).1;refine⟨⟨_,_,_,_,fz _ _ _ hfa⟩,λA f s U vs ds d Q E ph C rv rr hl ht tb fk em q=>?_⟩;have KX:K.In s.heap:=C.mod.kin.keeps λb o e=>(C.bs b o e).1;have lim:s.heap.NoLimit:=C.mod.nolimit.keeps λb o e=>(C.bs b o e).1;have gfa:=(C.hok fa _<|fz _ _ _ hfa).1;have goc:=(C.hok N _<|fz _ _ _ hc).1;obtain⟨ovs,ot,od1,od2⟩:=bp;have hidn:∀b,B b=none->U5 B cs b=none:=λb n=>by
  cases z:cs.lookup b with
  |none=>rw[N9 z];exact n
  |some o=>exact cG z
 have e1:Env0 P w K mg base A f s (U5 B cs):=⟨C.frames,C.mod,λb o e=>⟨(C.bs b o e).1,hidn b (C.bs b o e).2⟩,C.bsz,C.funs,λb hb=>hidn b (C.frf b hb),NK C.hok λb o z=>⟨T b o z,(vv b o z).2⟩,C.bare⟩;have zg:∀b o,cs.lookup b=some o->s.heap.get? b=some o:=λb o z=>(C.hok b _<|T b o z).1;have cfs:∀b o,cs.lookup b=some o->b∉BB f:=λb o z hb=>by have:=C.frf b hb;rw[T b o z]at this;cases this
 have hul:U.length=ps.length:=by rw[<-rv.length,rr.length];exact hl
 have hvl:vs.length=ps.length:=by rw[rr.length];exact hl
 have rwv:Reps K (U5 B cs) Y wv wd:=(kp.ac0 hO fk hr).hid T;have tb1:Tb (U5 B cs):=λp hp=>z8 T (tb p hp) λo _ z=>by cases z
 have ht1:∀a,Y a->∃o,U5 B cs a=some o/\Mt o:=λa z=>by obtain⟨o,q1,q2⟩:=ht a z;exact⟨o,z8 T q1 λo' _ z'=>by subst z';exact q2,q2⟩
 let Q':VK:=λv H3=>(∀b o,cs.lookup b=some o->H3 b=none)->Q v (fC H3 cs)
 have qq:∀v L,Same (U5 B cs) L->Rep K L Y v d->Q' v L:=λv L sm r hn=>by
  refine q v _ (λb u e=>?_) (r.same<|fX hn);cases z:cs.lookup b with
  |none=>exact G4 hn (sm b u (by rw[N9 z];exact e))
  |some o=>rw[T b o z]at e;cases e;exact gF z
 have fin:∀{u:au} {s':a9},CE f P w (U5 B cs) s Q' u s'->CE f P w B s Q u s':=λ{u s'} ⟨v,H3,os,bare,un,hok,r,qv⟩=>by obtain⟨U2,k2,zc⟩:=ny un hok λb o z=>⟨zg b o z,T b o z,cfs b o z⟩;exact⟨v,_,os,bare,U2,k2,r,qv λb o z=>un.free b o (zg b o z) (cG z) (by simp)⟩
 refine codeAny_call_def (fd:=PySem.W.fnX name qual l body g clos .none .none doc pm none (.ref N) ctv) (body:=body) (binds:=ps.zip U) ph.depth gfa rfl lim ⟨N,oc,ovs,ot,rfl,goc,od1,od2⟩ rfl (wu s U hul) S.nocell (λy hy=>S.par y.1 (aDV hy).1) (λh₁ za hk=>?_) S.co S.gen S.kind;show av (bc P w) (A.deeper<|PySem.W.envX qual g s.heap.objs.size fa (.ref N) clos) (execs body<|PySem.W.envX qual g s.heap.objs.size fa (.ref N) clos) _ _ _;have I:=CF (qual:=qual) (fa:=fa) (cd:=.ref N) (clos:=clos) (tk:=s.toks+(ps.zip U).length) S ph.hd e1 hvl rv qg (λi x v h1 h2=>by
   obtain⟨c,u,o,q1,q2,q3,q4⟩:=yg i x v h1 h2;exact⟨c,u,q1,q4,o,zg c o q2,q3⟩) (λx c h=>by
   obtain⟨o,z⟩:=hcc x c h;obtain⟨v,z2⟩:=(vv c o z).2;exact⟨⟨v,o,zg c o z,z2⟩,cG z⟩) og za hk
 have hx:=hb A f s (U5 B cs) (ph.deeper _) (U5 B cs) Y [] _ _ _ {nx:=λ_ L=>Q' .non L,rt:=Q'} I ⟨Y,_,FZ (rr.hid T) rwv ht1 tb1,fk,?_⟩
 .refine aCE hx (λfl s' hs=>?_) λe s' hs=>hs.elim;have fin2:∀{ah:St} {L:Hp} {v:V} {u:au},Inv (yj P w K mg base (ps++(ls++fn)) (PySem.W.envX qual g s.heap.objs.size fa (.ref N) clos) A f s<|U5 B cs) [] ah L s'->RelV v u->Q' v L->CE f P w B s Q u s':=
   λ{ah L v u} J rv q=>fin ⟨v,L,J.os,J.bare,J.base,J.hok,rv,q⟩
  cases fl with
  |ret u=>obtain⟨v,ah,L,J,rv,q⟩:=hs;exact fin2 J rv q
  |next=>obtain⟨ah,L,J,q⟩:=hs;exact fin2 (v:=V.non) (u:=Value.none) J rfl q
  |brk=>obtain⟨_,_,_,q⟩:=hs;exact aAk q
  |cont=>obtain⟨_,_,_,q⟩:=hs;exact aAk q
 .have h:=hm ds d hl em;cases e1:F (O6 (ds.map Sl.v) ls.length .no (wd.map Sl.v))with
  |ok o=>
   rw[e1]at h;cases o with
   |rt d'=>have h':R.ok d'=R.ok d:=h;injection h' with h';subst h';exact qq
   |nx ρ=>have h':R.ok D.non=R.ok d:=h;injection h' with h';subst h';exactλah L O' E' _ _=>qq .non L E'.same .non
   |bk ρ=>cases h
   |ct ρ=>cases h
  |ex x=>rw[e1]at h;cases h
  |bad=>rw[e1]at h;cases h
end
end
section
variable [Tabs]
def jX (mg:fL)(base:cv):Prop:=∃b a,mg "__builtins__"=some (.ref b)/\b≠builtinsNs/\base.get? b=some a/\a.cls=.type "module"/\a.dict=some builtinsNs/\a.data=.plain
def uX:∀(l:List au),TriplesOk l->eZ d l=some x->eZ d (l++[d3 a,d3 b,c])=some x:=λl h e=>by
 fun_induction TriplesOk l with
 |case1=>simp[eZ]at e
 |case2 k t m u y rest g=>
  simp only[aBb,eZ]at e⊢;split at e
  .rename_i f;rw[i6 f];exact e
  .rename_i f;rw[ja f];exact g h e
 |case3 l n o=>exact h.elim
def QG (ne:¬(a=d.line/\b=d.col)):∀(l:List au),TriplesOk l->eZ d l=none->eZ d (l++[d3 a,d3 b,c])=none:=λl h e=>by
 fun_induction TriplesOk l with
 |case1=>simp only[aCX,d3,eZ];rw[ja];simp only[aAP,beq_iff_eq];exact ne
 |case2 k t m u y rest f=>
  simp only[aBb,eZ]at e⊢;split at e
  .cases e
  .rename_i g;rw[ja g];exact f h e
 |case3 l n o=>exact h.elim
def jH (H:Hp)(fa:bb)(name qual:Str)(a:Arguments)(body:List dm)(b:i4)(clos:List (Str×bb)):Prop:=
 ∃c f d h e,H fa=some (.frz (PySem.W.fnMade name qual a body b clos d h c e) (.own fa))/\H c=some (.frz f (.own c))/\∃g t,f.data=.fields g/\g[1]?=some (.str qual t)
def jH.same (h:jH H fa name qual a body b clos)(s:Same H H'):jH H' fa name qual a body b clos:=
 let⟨e,f,c,g,d,k,l,m⟩:=h;⟨e,f,c,g,d,s _ _ k,s _ _ l,m⟩
section
def AH {Q:Flow->a9->Prop}(I:Inv X Y σ H s)(hB:jX X.mg X.base)(ke:X.env.code=.ref c)(hK:PySem.W.codeHdIn X.K c y=true)(hT:H y=some (.tbl tb))(hq:qualnameIn X.env name name=qual)(hm:(g,qual)∈tb)(hu:∀p∈tb,p.1.line=g.line->p.1.col=g.col->p.2=qual)(yg:closureFor f X.env=pure clos)(hd0:d.defaults=[])(hk0:d.kw_defaults=[])(ha:annTrees d none X.env=[])(hN:X.N.Nodup)(hi:X.N[i]?=some name)(hx:Loc X.env.scope name)(hf:X.fn name=true\/X.env.scope.names.lookup name=some .local)(h:∀fa H' s',Inv X Y (σ.set i (some (.ref fa))) H' s'->Same H H'->jH H' fa name qual d body f clos->Q .next s'):av (bc X.prog X.w) X.A (exec (.FunctionDef name d body [] none [] f none name g) X.env) Q X.xe s:=by
 refine PySem.W.nestDef_K hd0 hk0 ha ?_;rw[hq];have hg:s.heap.Ns bt X.mg:=I.mod.glob.keeps I.bk;have C:PySem.W.CodeHd s.heap c y:=PySem.W.codeHd_of_K I.kIn hK;obtain⟨ps,hP,x,O⟩:=I.hok y _ hT;have hgP:bt≠y:=λq=>by obtain⟨o,es,ep,e,hd,_⟩:=hg;rw[q,hP]at e;cases e;cases hd
 have T:s.heap.BuiltinsAt X.mg y:=by
  obtain⟨bm,ob,b1,b2,b3,b4,b5,b6⟩:=hB;have B:=I.bk _ _ b3;refine⟨bm,ob,b1,b2,λq=>?_,λq=>?_,B,b4,b5,b6⟩
  .obtain⟨o,es,ep,e,hd,_⟩:=hg;rw[<-q,B]at e;cases e;rw[hd]at b6;cases b6
  .rw[q,hP]at B;cases B;cases b4
 have U:∀b,H b=none->b≠y:=λb n z=>by rw[z,hT]at n;cases n
 have neL:X.env.locals≠y:=U _ I.free;rcases O _ hm with hnf|⟨k,oc,vs,t,hf',yb,fg⟩
 .refine PySem.W.makeFunction_K (mg:=X.mg) yg I.ok.glob hg ke C hP x hnf hgP T λk l m h' tk hx' E ao hrec htb=>?_;obtain⟨c2,oc,vs,t,e2,bp,hd,hv⟩:=hrec;cases e2;have old:∀b u,H b=some u->b<s.heap.objs.size:=λb u e=>I.hok.lt e;have hcN:H k=none:=I.hok.fresh E;have J:H h'.objs.size=none:=I.hok.fresh (aAr E<|aDt ao);have ncf:k≠h'.objs.size:=aAm ao;have L:Same H (upd (upd H k<|.frz oc (.own k)) h'.objs.size<|.frz (PySem.W.fnMade name qual d body f clos m ((X.mg "__name__").getD .none) k l) (.own h'.objs.size)):=λb u e=>by rw[m8 (u7 e J),m8 (u7 e hcN)];exact e
  have qa:∀b o,b≠y->s.heap.get? b=some o->(h'.push<|PySem.W.fnMade name qual d body f clos m ((X.mg "__name__").getD .none) k l).get? b=some o:=λb o T e=>aAc _ (hx' b o T e);have lts:∀b o,s.heap.get? b=some o->b≠k/\b≠h'.objs.size:=λb o e=>⟨aAm (aAv (aAh e) E),aAm (aAv (aAh e)<|aAr E<|aDt ao)⟩;have I1:=I.step (H':=upd (upd H k<|.frz oc (.own k)) h'.objs.size (.frz (PySem.W.fnMade name qual d body f clos m ((X.mg "__name__").getD .none) k l) (.own h'.objs.size)))
   (h':=h'.push (PySem.W.fnMade name qual d body f clos m ((X.mg "__name__").getD .none) k l)) (g':=s.gens) (t':=tk) (d':=s.drawn) (ch:=[]) (λ_ z=>nomatch z) (λb o _ _ _ e n=>qa b o (U b n) e) (λb o _ _ _ e n=>⟨o.slots,qa b o (U b n) e⟩)
   (λb o _ e n=>by rw[m8 (lts b o e).2,m8 (lts b o e).1];exact n) (λb o _ e=>by
    by_cases T:b=y
    .subst T;exact⟨_,aAc _ htb⟩
    .exact⟨o,qa b o T e⟩) (λb xs e=>L _ _ e) (λb o u e=>L _ _ e) (λb tb e=>L _ _ e) (λm' hm'=>by
    obtain⟨o,es,ep,e,r⟩:=hm';exact⟨o,es,ep,qa _ o neL e,r⟩) (λb u e=>by
    by_cases hbf:b=h'.objs.size
    .subst hbf;rw[j7]at e;cases e;exact⟨aAq _ rfl,_,aAq _ rfl⟩
    .rw[m8 hbf]at e;by_cases hbc:b=k
     .subst hbc;rw[j7]at e;cases e;exact⟨aAc _ bp,_,aAc _ bp⟩
     .rw[m8 hbc]at e;by_cases hbP:b=y
      .subst hbP;rw[hT]at e;cases e;refine⟨_,aAc _ htb,?_,λp hp=>?_⟩
       .rw[aGm];exact TriplesOk_snoc _ _ _ _ x
       .rw[aGm];show eZ p.1 (ps.toList++[d3 g.line,d3 g.col,.ref k])=none\/_;by_cases hpp:(g.line:Int)=p.1.line/\(g.col:Int)=p.1.col
        .rcases O p hp with h0|⟨c3,oc3,vs3,t3,h0,h1,h2⟩
         .have e1:g.line=p.1.line:=by exact_mod_cast hpp.1
          have e2:g.col=p.1.col:=by exact_mod_cast hpp.2
          refine .inr ⟨k,oc,vs,t,?_,by rw[m8 ncf,j7],hd,?_⟩
          .rw[e1,e2];exact codeAmong_snoc _ x h0
          .rw[hu p hp e1.symm e2.symm];exact hv
         .exact .inr ⟨c3,oc3,vs3,t3,uX _ x h0,L _ _ h1,h2⟩
        .rcases O p hp with h0|⟨c3,oc3,vs3,t3,h0,h1,h2⟩
         .exact .inl (QG hpp _ x h0)
         .exact .inr ⟨c3,oc3,vs3,t3,uX _ x h0,L _ _ h1,h2⟩
      .refine(I.hok b u e).ab7 (λb2 v hc q=>qa b2 v (λz=>?_) q) (λb2 z=>L _ _ z) λb2 u _ z=>L _ _ z;rcases hc with hc|hc
       .exact hbP (hc▸z)
       .rw[z,hT]at hc;cases hc) I.bare
  refine U8 I1 hN hi hx (show RelV (.ref h'.objs.size) _ from rfl) (λs' I'=>h _ _ s' I' L ⟨k,oc,m,_,l,j7,by rw[m8 ncf,j7],vs,t,hd,hv⟩) hf
 .refine PySem.W.makeFunction_hit (mg:=X.mg) yg I.ok.glob hg ke C hP x hf' T λl m h' tk hk hsz=>?_;have J:H h'.objs.size=none:=I.hok.fresh hsz;have I1:=I.laid (a:=h'.objs.size) (o:=.frz (PySem.W.fnMade name qual d body f clos m ((X.mg "__name__").getD .none) k l) (.own h'.objs.size)) (h':=h'.push (PySem.W.fnMade name qual d body f clos m ((X.mg "__name__").getD .none) k l)) (t':=tk)
   (λb u e=>aAc _ (hk b u e)) hsz ⟨aAq _ rfl,_,aAq _ rfl⟩
  refine U8 I1 hN hi hx (show RelV (.ref h'.objs.size) _ from rfl) (λs' I'=>h _ _ s' I' (k7 J _) ⟨k,oc,m,_,l,j7,k7 J _ _ _ yb,vs,t,fg⟩) hf
end
structure Nst where
 name:Str
 qual:Str
 params:Arguments
 body:List Stmt
 scope:Scope
 pos:Pos
 ps:List Str
 ls:List Str
 fn:List Str
 js:List Nat
 F:Ev->R Out
 mm:List D->List D->R D
 i:Nat
abbrev Nst.stmt (n:Nst):dm:=.FunctionDef n.name n.params n.body [] none [] n.scope none n.name n.pos
structure NstOk (X:Cx)(k:Nat)(n:Nst):Prop where
 sc:NScope n.ps n.ls n.fn n.scope
 one:n.ps.length=1
 body:∀(fa:Addr) (cd:Value) (clos:List (Str×Addr)) (A:Around) (outer:List Env) (s:Shared) (H:Hp),Room k (A.deeper (PySem.W.envX n.qual n.scope s.heap.objs.size fa cd clos))->dH (yj X.prog X.w X.K X.mg X.base (n.ps++(n.ls++n.fn)) (PySem.W.envX n.qual n.scope s.heap.objs.size fa cd clos) A outer s H) n.body n.F
 mm:∀wd ds d,wd.length=n.fn.length->ds.length=n.ps.length->n.mm wd ds=.ok d->N6 (n.F (O6 (ds.map Sl.v) n.ls.length .no (wd.map Sl.v)))=.ok d
 bind:∀(clos:List (Str×Addr)) (doc pm cd ctv:Value) (us:List Value),us.length=n.ps.length->bindArgs (PySem.W.fnX n.name n.qual n.params n.body n.scope clos .none .none doc pm none cd ctv) ⟨us,[]⟩=pure (n.ps.zip us)
 len:n.js.length=n.fn.length
 at_:∀(i j:Nat) (x:Str),n.js[i]?=some j->n.fn[i]?=some x->X.N[j]?=some x/\X.env.scope.names.lookup x=some .cell
 d0:n.params.defaults=[]
 k0:n.params.kw_defaults=[]
 nm:X.N[n.i]?=some n.name
 lc:Loc X.env.scope n.name
 st:X.fn n.name=true\/X.env.scope.names.lookup n.name=some .local
 dbg:(n.name==kc)=false
 cdt:(n.name==kd)=false
structure ClosOk (X:Cx)(n:Nst)(clos:List (Str×Addr)):Prop where
 eq:closureFor n.scope X.env=pure clos
 ann:annTrees n.params none X.env=[]
 qn:qualnameIn X.env n.name n.name=n.qual
 sub:∀x c,clos.lookup x=some c->X.env.cells.lookup x=some c
 has:∀x∈n.fn,∃c,clos.lookup x=some c
def fB:List Nat->Ev->R (List D)
 |[],_=>.ok []
 |j::a,ρ=>(V7 j ρ).bind λd=>(fB a ρ).bind λb=>.ok (d::b)
theorem OV {K:ka}{k H:Hp}{l O:bb->Prop}{σ:St}{ρ:Ev}(E:EnvOk K k l H O σ ρ):∀{b:List Nat} {wd:List D},fB b ρ=.ok wd->∃wv,Reps K H O wv wd/\wv.length=b.length/\∀(i j:Nat) (v:V),b[i]?=some j->wv[i]?=some v->σ[j]?=some (some v)
 |[],wd,h=>by cases h;exact⟨[],.nil,rfl,λi j v e=>by simp at e⟩
 |j::b,wd,h=>by
  unfold fB at h;cases a:V7 j ρ with
  |ok d=>
   rw[a,R.aa0]at h;cases c:fB b ρ with
   |ok t=>
    rw[c,R.aa0]at h;cases h;obtain⟨wv,r,m,at_⟩:=OV E c;have:ρ[j]?=some (.v d):=by
     unfold V7 at a;split at a
     .rename_i q;cases a;exact q
     .cases a
    obtain⟨v,n,o⟩:=E.val j d this;refine⟨v::wv,.cons o r,by simp[m],λi p s f g=>?_⟩;cases i with
    |zero=>simp at f g;subst f g;exact n
    |succ i=>exact at_ i p s (by simpa using f) (by simpa using g)
   |ex z=>rw[c]at h;cases h
   |bad=>rw[c]at h;cases h
  |ex z=>rw[a]at h;cases h
  |bad=>rw[a]at h;cases h
section
def X1 (h:cv)(a:List (Str×bb)):List (bb×Obj):=a.filterMap λp=>(h.get? p.2).map λo=>(p.2,o)
def N2 (e:(X1 h a).lookup b=some o):h.get? b=some o/\∃x,(x,b)∈a:=by
 obtain⟨p,c,q⟩:=aBZ.mp (mem_lookup e);cases z:h.get? p.2 with
 |none=>rw[z]at q;cases q
 |some d=>rw[z]at q;have f:(p.2,d)=(b,o):=aAl q;injection f with g k;subst g k;exact⟨z,p.1,c⟩
def nM (d:(x,b)∈a)(e:h.get? b=some o):∃c,(X1 h a).lookup b=some c:=by
 have:(b,o)∈X1 h a:=aBZ.mpr ⟨(x,b),d,by show(h.get? b).map _=_;rw[e];rfl⟩;cases q:(X1 h a).lookup b with
 |some c=>exact⟨c,rfl⟩
 |none=>have:=List.lookup_eq_none_iff.mp q (b,o) this;simp at this
def a1a (X:Cx)(n1 n2:Nst)(clos1 clos2:List (Str×bb))(f:Ev->R D)(M:D->(List D->R D)->(List D->R D)->R D):TE:=λσ H Q=>∃c d O ρ b a,EnvOk X.K c d H O σ ρ/\σ[n1.i]?=some (some<|V.ref b)/\σ[n2.i]?=some (some<|V.ref a)/\
 jH H b n1.name n1.qual n1.params n1.body n1.scope clos1/\jH H a n2.name n2.qual n2.params n2.body n2.scope clos2/\RC X H O ((f ρ).bind λe=>(fB n1.js ρ).bind λg=>(fB n2.js ρ).bind λh=>M e (n1.mm g) (n2.mm h)) Q
def AK {n:Nst}{clos a:List (Str×bb)}{k:Nat}{Y:Q6}{σ:St}{H:Hp}{s:a9}{H9:Hp}{O0 O:bb->Prop}{ρ:Ev}{fa:bb}{wd:List D}(ok:NstOk X k n)(h:ClosOk X n clos)(I:Inv X Y σ H s)(E:EnvOk X.K H9 O0 H O σ ρ)
  (hA:∀p∈clos,p∈a) (l:∀x b,(x,b)∈a->X.env.cells.lookup x=some b) (r:jH H fa n.name n.qual n.params n.body n.scope clos) (hw:fB n.js ρ=.ok wd):
  ∀t z,Kp (fC H (X1 s.heap a)) O t z->LX X.prog X.w X.K X.mg X.base (k+1) 1 (n.mm wd) t z fa:=by
 obtain⟨c',oc,T,pm,U,h1,h2,h3⟩:=r;obtain⟨wv,oh,hl,at_⟩:=OV E hw;have hn:∀b o,(X1 s.heap a).lookup b=some o->H b=none:=λb o q=>by obtain⟨_,x,hm⟩:=N2 q;exact I.freeC x b (l x b hm)
 have N:=fX hn
 suffices B:∀t z,Kp (fC H<|X1 s.heap a) O t z->LX X.prog X.w X.K X.mg X.base (k+1) n.ps.length (n.mm wd) t z fa by rw[ok.one]at B;exact B
 refine jj (cs:=X1 s.heap a) (wv:=wv) (wd:=wd) (F:=n.F) ok.sc (λA g s H hr=>ok.body fa (.ref c') clos A g s H hr) (λds d lh e=>ok.mm wd ds d (by rw[<-oh.length,hl,ok.len]) lh e) (λs us lh=>.of_eq (ok.bind clos T pm (.ref c') U us lh)) (N _ _ h1) (N _ _ h2) h3
  (λb o q=>⟨gF q,?_⟩) (λi x v C q2=>?_) (λx c q=>?_) (λx y c C q2=>I.ok.inj x y c (h.sub x c C) (h.sub y c q2)) (by rw[hl,ok.len]) (oh.same N) (E.grow N).trk
 .obtain⟨e1,x,hm⟩:=N2 q;obtain⟨v,o',e2,e3⟩:=I.cell x b (l x b hm);rw[e1]at e2;cases e2;exact⟨v,e3⟩
 .have hi:i<n.js.length:=by rw[ok.len];exact(aAy.mp C).1
  have ej:n.js[i]?=some n.js[i]:=aAd hi;obtain⟨hN,hk⟩:=ok.at_ i _ x ej C;have hσ:=at_ i _ v ej q2;obtain⟨m,za,J⟩:=I.loc;obtain⟨u,ru,L⟩:=J _ x v hN hσ (.inr (.inl hk));rcases L with⟨km,_⟩|⟨_,c,iu,o,Q,hd⟩
  .have f:X.env.scope.names.lookup x=some .local:=km;rw[hk]at f;cases f
  .obtain⟨c2,q3⟩:=h.has x (aAo C);have q4:=h.sub x c2 q3;rw[iu]at q4;cases q4;obtain⟨o',q5⟩:=nM (hA _<|PySem.mem_of_lookup q3) Q;have:=(N2 q5).1;rw[Q]at this;cases this;exact⟨c,u,o,q3,q5,hd,ru⟩
 .obtain⟨v,o,Q,_⟩:=I.cell x c (h.sub x c q);exact nM (hA _<|PySem.mem_of_lookup q) Q
def WH (qt:NstOk X k n1)(qu:NstOk X k n2)(yi:ClosOk X n1 clos1)(jt:ClosOk X n2 clos2)(L:∀x b,(x,b)∈clos1++clos2->X.env.cells.lookup x=some b)(FF:FnOk X.prog X.w X.K X.mg X.base wN kf g gd N (spF X.K (LX X.prog X.w X.K X.mg X.base (k+1) 1) M))(hr:Room kf X.A)(hm:X.mg x=some (.ref g))(hk:PySem.W.keepIn X.K (.ref g)=true)(t:Binds X.K gd N [])(h3:N.length=3)(he:PD X e f)(ya:∀y,X.fn y=true)(hg:Gl X x:=by rfl)(ip:(x==kc)=false:=by decide)(zb:a5 [e,.Name n1.name p1,.Name n2.name B] X.env=(false,dC e X.env)::a5 [.Name n1.name p1,.Name n2.name B] X.env:=by rfl)(zh:a5 [.Name n1.name p1,.Name n2.name B] X.env=(false,dC (.Name n1.name p1) X.env)::a5 [.Name n2.name B] X.env:=by rfl)(hs3:a5 [.Name n2.name B] X.env=(false,dC (.Name n2.name B) X.env)::a5 [] X.env:=by rfl)(M9:(dq pos (a5 [.Name n1.name p1,.Name n2.name B] X.env)).any (·.1)=false:=by rfl):
  PE X (.Call (.Name x p) [e,.Name n1.name p1,.Name n2.name B] [] pos) (a1a X n1 n2 clos1 clos2 f M):=by
 rintro Y s σ H Q I ⟨H9,O0,O,ρ,yh,fa2,E,h1,h2,md1,md2,q⟩;have vis:∀{y:Str},Loc X.env.scope y->BZ X.env.scope y:=λh=>h.elim .inl λz=>.inr (.inl z);have lg:PA X [e,.Name n1.name p1,.Name n2.name B] _:=K0 he (K0 (R7 qt.nm (vis qt.lc) qt.dbg qt.cdt) (K0 (R7 qu.nm (vis qu.lc) qu.dbg qu.cdt) bB hs3) zh) zb;refine aAO (wY I hg hm ?_ ip);refine PySem.W.callWith_K (h₀:=X.base) I.ok.mod.kin hk (F6 (lg pos Y s σ H (λvs c=>∃v1 T w1 w2 d,vs=[v1,.ref yh,.ref fa2]/\Same H c/\Rep X.K c O v1 T/\fB n1.js ρ=.ok w1/\fB n2.js ρ=.ok w2/\M T (n1.mm w1) (n2.mm w2)=.ok d/\∀v m,Same c m->Rep X.K m O v d->Q v m) I ⟨H9,O0,O,ρ,E,?_⟩) λus C z9=>?_) zb M9
 .cases e1:f ρ with
  |ex z=>rw[e1]at q;exact q
  |bad=>rw[e1]at q;exact q
  |ok T=>
   rw[e1,R.aa0]at q;cases J:fB n1.js ρ with
   |ex z=>rw[J]at q;exact(q H<|Same.refl _).elim
   |bad=>rw[J]at q;exact q.elim
   |ok w1=>
    rw[J,R.aa0]at q;cases e3:fB n2.js ρ with
    |ex z=>rw[e3]at q;exact(q H<|Same.refl _).elim
    |bad=>rw[e3]at q;exact q.elim
    |ok w2=>
     rw[e3,R.aa0]at q;cases e4:M T (n1.mm w1) (n2.mm w2)with
     |ex z=>rw[e4]at q;exact(q H<|Same.refl _).elim
     |bad=>rw[e4]at q;exact q.elim
     |ok d=>rw[e4]at q;exactλv1 c C r1=>⟨_,h1,_,h2,v1,T,w1,w2,d,rfl,C,r1,rfl,rfl,e4,λv m s2 r2=>q v m (C.trans s2) r2⟩
 .obtain⟨vs,c,a,r,v1,T,w1,w2,d,ev,sm,r1,c1,c2,em,qq⟩:=z9;refine⟨a.kIn,?_⟩;subst ev;have E1:=E.grow sm;generalize vv:X1 C.heap (clos1++clos2)=l;have hn:∀b o,l.lookup b=some o->C.heap.get? b=some o/\c b=none/\yC o:=λb o z=>by rw[<-vv]at z;obtain⟨e1,y,hm⟩:=N2 z;obtain⟨v,o',J,e3⟩:=a.cell y b (L y b hm);rw[e1]at J;cases J;exact⟨e1,a.freeC y b (L y b hm),v,e3⟩
  have hn0:∀b o,l.lookup b=some o->c b=none:=λb o z=>(hn b o z).2.1;have U:Same c (fC c l):=fX hn0;have E2:=E1.grow U;have n:=a.af5;have nofr:∀b o,l.lookup b=some o->b∉BB X.stack:=λb o z t=>by
   rw[<-vv]at z;obtain⟨_,y,hmy⟩:=N2 z;rcases aAe.mp (a.ab5 b t)with e|t
   .exact a.cne y b (L y b hmy) e
   .obtain⟨_,o',ho,_⟩:=a.ok.funs.mem t;exact absurd (aAv (aAh ho)<|a.ok.cab y b (ya y)<|L y b hmy) (aBo _)
  have nob:∀b o,X.base.get? b=some o->l.lookup b=none:=λb o e=>by
   cases z:l.lookup b with
   |none=>rfl
   |some o'=>rw[<-vv]at z;obtain⟨_,y,hm⟩:=N2 z;exact absurd (aAv (aAh e)<|aAr a.ok.bsz<|a.ok.cab y b (ya y)<|L y b hm) (aBo _)
  have J:Env0 X.prog X.w X.K X.mg X.base X.A X.stack C (fC c l):=⟨n.frames,n.mod,λb o e=>⟨(n.bs b o e).1,by rw[V0 (nob b o e)];exact(n.bs b o e).2⟩,n.bsz,n.funs,λb t=>by
   cases z:l.lookup b with
   |none=>rw[V0 z];exact n.frf b t
   |some o=>exact absurd t (nofr b o z),NT n.hok λb o z=>⟨(hn b o z).1,(hn b o z).2.1⟩,n.bare⟩
  have cl1:=AK qt yi a E1 (λp hp=>aBf _ hp) L (md1.same sm) c1;have cl2:=AK qu jt a E1 (λp hp=>aAC _ hp) L (md2.same sm) c2;rw[vv]at cl1 cl2;have hl:us.length=N.length:=by rw[<-r.length,h3];rfl
  have hbs:=t C us a.kIn (by rw[aCH];exact hl);rw[aCH]at hbs;refine wpAny_call (aDQ (FF.run X.A X.stack C (fC c l) ⟨us,[]⟩ us _ (λv m=>Q v (U5 m l)) (λ_ _ _=>False) hr J hbs r ⟨O,v1,T,yh,_,fa2,_,d,rfl,r1.same U,cl1,cl2,E2.trk,E2.tab,wA a O E1.trk,em,λv m s2 r2=>?_⟩) λrr s' hq=>?_)
  .have hz:∀b o,l.lookup b=some o->m b=some (.frz o (.own b)):=λb o z=>s2 _ _ (gF z);refine qq v _ (λb u e=>z8 hz (s2 b u<|U b u e) λo z _=>?_) (r2.hid hz);rw[hn0 b o z]at e;cases e
  .cases rr with
   |error e=>exact hq.elim
   |ok fl=>
    cases fl with
    |next=>exact aAk hq
    |brk=>exact aAk hq
    |cont=>exact aAk hq
    |ret u=>obtain⟨v,m,os,bare,un,hok,rv,qv⟩:=hq;obtain⟨U2,k2,_⟩:=ZM un hok hn;exact a.after ⟨v,_,os,bare,U2,k2,rv,qv⟩
def LK (a:NstOk X k n1)(h:NstOk X k n2)(u:ClosOk X n1 clos1)(B:ClosOk X n2 clos2)(hA:∀x b,(x,b)∈clos1++clos2->X.env.cells.lookup x=some b)(hB:jX X.mg X.base)(ke:X.env.code=.ref c)(hK:PySem.W.codeHdIn X.K c Pt=true)(m:(Pt,tb)∈Tabs.tbs)(L:(n1.pos,n1.qual)∈tb)(ku:(n2.pos,n2.qual)∈tb)(cg:∀p∈tb,p.1.line=n1.pos.line->p.1.col=n1.pos.col->p.2=n1.qual)(Q:∀p∈tb,p.1.line=n2.pos.line->p.1.col=n2.pos.col->p.2=n2.qual)(af:n1.i≠n2.i)(hN:X.N.Nodup)(FF:FnOk X.prog X.w X.K X.mg X.base wN kf g gd n (spF X.K (LX X.prog X.w X.K X.mg X.base (k+1) 1) M))(hr:Room kf X.A)(hm:X.mg x=some (.ref g))(hk:PySem.W.keepIn X.K (.ref g)=true)(hb:Binds X.K gd n [])(h3:n.length=3)(he:PD X e f)(ya:∀y,X.fn y=true)(hg:Gl X x:=by rfl)(ip:(x==kc)=false:=by decide)(zb:a5 [e,.Name n1.name o,.Name n2.name l] X.env=(false,dC e X.env)::a5 [.Name n1.name o,.Name n2.name l] X.env:=by rfl)(zh:a5 [.Name n1.name o,.Name n2.name l] X.env=(false,dC (.Name n1.name o) X.env)::a5 [.Name n2.name l] X.env:=by rfl)(T:a5 [.Name n2.name l] X.env=(false,dC (.Name n2.name l) X.env)::a5 [] X.env:=by rfl)(M9:(dq U (a5 [.Name n1.name o,.Name n2.name l] X.env)).any (·.1)=false:=by rfl):
  dH X [n1.stmt,n2.stmt,.Return (some (.Call (.Name x p) [e,.Name n1.name o,.Name n2.name l] [] U)) rpos] (λρ=>((f ((ρ.set n1.i .no).set n2.i .no)).bind λd1=>(fB n1.js ((ρ.set n1.i .no).set n2.i .no)).bind λw1=>(fB n2.js ((ρ.set n1.i .no).set n2.i .no)).bind λw2=>M d1 (n1.mm w1) (n2.mm w2)).bind λd=>.ok (.rt d)):=by
 rintro H9 O0 Y s σ H D I ⟨O,ρ,E,fk,q⟩;refine aEs (AH (σ:=σ) I hB ke hK (E.tab _ m) u.qn L cg u.eq a.d0 a.k0 u.ann hN a.nm a.lc a.st λC H1 s1 I1 sm1 md1=>?_);have E1:EnvOk X.K H9 O0 H1 O (σ.set n1.i<|some<|.ref C) (ρ.set n1.i .no):=(E.grow sm1).put n1.i (λz=>z) trivial;refine aEs (AH (σ:=σ.set n1.i (some<|.ref C)) I1 hB ke hK (E1.tab _ m) B.qn ku Q B.eq h.d0 h.k0 B.ann hN h.nm h.lc h.st λt H2 s2 I2 zc md2=>?_);have J:EnvOk X.K H9 O0 H2 O ((σ.set n1.i<|some<|.ref C).set n2.i (some<|.ref t)) ((ρ.set n1.i .no).set n2.i .no):=(E1.grow zc).put n2.i (λz=>z) trivial;have l1:n1.i<σ.length:=by rw[I.len];exact(aAy.mp a.nm).1
 have l2:n2.i<σ.length:=by rw[I.len];exact(aAy.mp h.nm).1
 refine GW (NH<|WH a h u B hA FF hr hm hk hb h3 he ya hg ip zb zh T M9) Y s2 _ H2 D I2 ⟨H9,O0,O,_,C,t,J,?_,?_,md1.same zc,md2,?_⟩
 .rw[aCw (aCi af),aBL l1]
 .rw[aBL (by rw[aFQ];exact l2)]
 .revert q;dsimp only;generalize((f<|(ρ.set n1.i .no).set n2.i .no).bind λd1=>(fB n1.js<|(ρ.set n1.i .no).set n2.i .no).bind λw1=>(fB n2.js<|(ρ.set n1.i .no).set n2.i .no).bind λw2=>M d1 (n1.mm w1) (n2.mm w2))=rr;intro q;cases rr with
  |ok d=>exactλv H' s r=>q v H' (J.same.trans s) (r.sub J.sub)
  |ex z=>exactλH' s=>q H' (J.same.trans s)
  |bad=>exact q
end
def xS (K:ka):Sp:=λc H Q _=>∃(a:bb) (b:List Int),c=[.ref a]/\P9 K H a (b.map V.int)/\b.length<=63/\(∀x∈b,aBe x<=1048576)/\Tb H/\∀d,Q (.bl true) d
def VL {P:be}{w:cq}{K:ka}{mg:fL}{base:cv}{k:Nat}{f:bb}{fd:d9}{m:List D->R D}(F:FnOk P w K mg base wN k f fd ["script"] (tw K 1 m))
  (h:∀ns:List Int,ns.length<=63->(∀x∈ns,aBe x<=1048576)->m [.lst (ns.map D.int)]=.ok (.bl true)):FnOk P w K mg base wN k f fd ["script"] (xS K):=
 F.imp<|by rintro n H Q E ⟨a,ns,e,b,c,d,g,q⟩;exact⟨λ_=>False,_,_,by rw[e];exact .cons (.lst b (λz=>z) (Reps.ints ns)) .nil,rfl,λ_ z=>z.elim,g,λ_ _ _ z=>z,h ns c d,λv l _ r=>by cases r;exact q l⟩
def JJ {P:be}{w:cq}{K:ka}{mg mb:fL}{k:Nat}{fa a:bb}{fd:d9}{c:a9}{vs:List au}{ns:List Int}
  (KX:K.In c.heap) (za:c.heap.Ns bt mg) (l:c.heap.Ns builtinsNs mb) (hbb:∀x:Str,x≠ "__name__"->mb x=cy x) (L:c.heap.NoLimit) (hB:jX mg c.heap) (hg:c.gens=#[])
  (N:c.heap.get? a=some {cls:=.type "list",data:=.seq vs.toArray}) (hi:IntsAre vs ns) (hl:ns.length<=63) (xa:∀x∈ns,aBe x<=1048576) (hr:Room k callerA)
  (hT:∀p∈Tabs.tbs,c.heap.get? p.1=some (PySem.W.tabObj #[])/\isCodeTable c.heap p.1) (hTd:(Tabs.tbs.map (·.1)).Nodup) (hKn:PySem.W.noTabs K=true)
  (F:∀base:cv,K.In base->base.Ns bt mg->jX mg base->FnOk P w K mg base wN k fa fd ["script"] (xS K)) (wu:∀(s:a9) (u:au),BindsTo s fd ⟨[u],[]⟩ [("script",u)]):
  fu (bc P w) callerA (.call (.ref fa) ⟨[.ref a],[]⟩) (λr s'=>r=.ok (.ret (.bool true))/\OldK c.heap s'.heap/\s'.os=c.os/\AllBare s'.gens) c:=by
 have rv:=L2.Y1 hi;have O:=hi.length;have je:ns.length<=sizeLine:=aAr hl (by decide);have E:∀b g,Tabs.tbs.lookup b=some g->c.heap.get? b=some (PySem.W.tabObj #[])/\isCodeTable c.heap b:=λb g e=>hT (b,g) (mem_lookup e);have nta:Tabs.tbs.lookup a=none:=by
  cases e:Tabs.tbs.lookup a with
  |none=>rfl
  |some g=>have:=(E a g e).1;rw[N]at this;cases this
 have noK:∀b o,K.lookup b=some o->Tabs.tbs.lookup b=none:=λb o e=>by
  cases z:Tabs.tbs.lookup b with
  |none=>rfl
  |some g=>have Q:=KX b o e;rw[(E b g z).1]at Q;cases Q;have t:=aBu.mp hKn (b,_) (PySem.W.mem_of_lookupK e);exact absurd (show false=true from t) aAY
 let put:Hp->Hp:=λH b=>match Tabs.tbs.lookup b with
  |some g=>some (.tbl g)
  |none=>H b
 have qR:∀(H:Hp) b g,Tabs.tbs.lookup b=some g->put H b=some (.tbl g):=λH b g e=>by show(match Tabs.tbs.lookup b with|some g=>some (HO.tbl g)|none=>H b)=_;rw[e]
 have I:∀(H:Hp) b,Tabs.tbs.lookup b=none->put H b=H b:=λH b e=>by show(match Tabs.tbs.lookup b with|some g=>some (HO.tbl g)|none=>H b)=_;rw[e]
 have A:∀f:Hp,(∀b,f b=none\/∃xs,f b=some (.frz {cls:=.type "list",data:=.seq vs.toArray} (.lst xs)))->P9 K (put f) a (ns.map V.int)->(∀b u,f b=some u->ObjOk P w (put f) c.heap b u)->(∀b,f b≠none->b=a)->(f a≠none->K.lookup a=none)->
   fu (bc P w) callerA (.call (.ref fa) ⟨[.ref a],[]⟩) (λr s'=>r=.ok (.ret (.bool true))/\OldK c.heap s'.heap/\s'.os=c.os/\AllBare s'.gens) c:=by
  intro f hO hS T hA hK;have U:gQ P w (put f) c.heap:=λb u e=>by
   cases z:Tabs.tbs.lookup b with
   |none=>rw[I _ b z]at e;exact T b u e
   |some g=>rw[qR _ b g z]at e;cases e;exact⟨#[],(E b g z).1,trivial,λp _=>.inl rfl⟩
  have nu:∀{b:bb} {o:Obj},c.heap.get? b=some o->put f b=none->(sM c.heap<|put f).get? b=some o:=λe n=>SB e n;have none_of:∀{b:bb} {o:Obj},c.heap.get? b=some o->o≠PySem.W.tabObj #[]->o≠{cls:=.type "list",data:=.seq vs.toArray}->put f b=none:=λ{b o} e n1 n2=>by
   cases z:Tabs.tbs.lookup b with
   |some g=>have:=(E b g z).1;rw[e]at this;exact absurd (aAl this) n1
   |none=>
    rw[I _ b z];cases q:f b with
    |none=>rfl
    |some u=>have e':b=a:=hA b (by rw[q];simp);subst e';rw[N]at e;exact absurd (aAl e).symm n2
  have y:∀{b:bb} {m:fL},c.heap.Ns b m->(sM c.heap<|put f).Ns b m:=λ{b m} ⟨o,es,ep,e,d,r⟩=>⟨o,es,ep,nu e (none_of e (λz=>by rw[z]at d;cases d) λz=>by rw[z]at d;cases d),d,r⟩;have Y:K.In (sM c.heap<|put f):=λb o e=>nu (KX b o e) (by
   rw[I _ b (noK b o e)];cases q:f b with
   |none=>rfl
   |some u=>have e':b=a:=hA b (by rw[q];simp);subst e';rw[hK (by rw[q];simp)]at e;cases e)
  have hBb:jX mg (sM c.heap<|put f):=by obtain⟨bm,ob,b1,b2,b3,b4,b5,b6⟩:=hB;exact⟨bm,ob,b1,b2,nu b3 (none_of b3 (λz=>by rw[z]at b6;cases b6) λz=>by rw[z]at b6;cases b6),b4,b5,b6⟩
  have hM:Mod K mg (sM c.heap<|put f):=⟨Y,y za,⟨mb,y l,hbb⟩,let⟨mc,B,t⟩:=L;⟨mc,y B,t⟩⟩;have e0:Env0 P w K mg (sM c.heap<|put f) callerA [] c (put f):=⟨rfl,hM,λb o e=>VH e,aEo (KE _ _),trivial,λb l=>absurd (show b∈([]:List bb)from l) (by simp),U,.of_eq hg⟩;have tb0:Tb (put f):=λp hp=>qR _ p.1 p.2 (cV hTd hp);refine aDQ ((F _ Y (y za) hBb).run callerA [] c (put f) ⟨[.ref a],[]⟩ [.ref a] [.ref a] (λv _=>v=.bl true) (λ_ _ _=>False) hr e0 (wu c<|.ref a) (.cons rfl .nil) ⟨a,ns,rfl,hS,hl,xa,tb0,λ_=>rfl⟩) λr s' h=>?_;cases r with
  |error e=>exact(show False from h).elim
  |ok fl=>
   cases fl with
   |next=>exact aAk h
   |brk=>exact aAk h
   |cont=>exact aAk h
   |ret u=>
    obtain⟨v,H',os,bare,un,zd,r',q⟩:=h;have q':v=.bl true:=q;subst q';obtain rfl:u=aDy true:=r';have C:∀b o,c.heap.get? b=some o->s'.heap.get? b=some o\/(isCodeTable c.heap b/\o=PySem.W.tabObj #[]/\∃J,s'.heap.get? b=some (PySem.W.tabObj J)):=λb o e=>by
     cases z:Tabs.tbs.lookup b with
     |some g=>have:=(E b g z).1;rw[e]at this;obtain⟨J,hps,_⟩:=zd b _ (un.tbls b g<|qR _ b g z);exact .inr ⟨(E b g z).2,aAl this,J,hps⟩
     |none=>
      refine .inl ?_;rcases hO b with n|⟨xs,n⟩
      .exact un.keep b o e (by rw[I _ b z];exact n) (by intro z;exact absurd (show b∈([]:List bb)from z) (by simp)) (by simp)
      .have z1:put f b=some (.frz {cls:=.type "list",data:=.seq vs.toArray} (.lst xs)):=by rw[I _ b z];exact n
       have z2:=un.frzs b _ _ z1;obtain⟨Q,_⟩:=U b _ z1;obtain⟨e2,_⟩:=zd b _ z2;rw[e]at Q;cases Q;exact e2
    refine⟨rfl,⟨λb o e=>?_,λb o e=>?_⟩,os,bare⟩
    .rcases C b o e with h|⟨B,t,J,h3⟩
     .exact .inl h
     .subst t;exact .inr (.inl ⟨B,rfl,#[],J,rfl,by rw[Array.empty_append];exact h3⟩)
    .rcases C b o e with h|⟨B,t,J,h3⟩
     .exact⟨o,h⟩
     .exact⟨_,h3⟩
 cases hk:K.lookup a with
 |some o=>have e:=KX a o hk;rw[N]at e;cases e;refine A (λ_=>none) (λ_=>.inl rfl) (.inr ⟨_,vs.toArray,_,hk,rfl,rfl,rfl,by rw[aAn,O];exact je,by simpa using rv⟩) (λb u z=>by have z':(none:Option HO)=some u:=z;cases z') (λb z=>absurd rfl z) λz=>absurd rfl z
 |none=>
  obtain⟨f,B,t⟩:∃f:Hp,f a=some (.frz {cls:=.type "list",data:=.seq vs.toArray} (.lst (ns.map V.int)))/\∀b,b≠a->f b=none:=⟨λb=>if b=a then _ else none,i6 rfl,λb l=>ja l⟩;refine A f (λb=>?_) (.inl (.inr ⟨{cls:=.type "list",data:=.seq vs.toArray},(I f a nta).trans B⟩)) (λb u z=>?_) (λb z=>?_) λ_=>hk
  .by_cases l:b=a
   .subst l;exact .inr ⟨_,B⟩
   .exact .inl (t b l)
  .by_cases l:b=a
   .subst l;rw[B]at z;cases z;exact⟨N,by rw[aAf];exact je,vs,_,rv,N⟩
   .rw[t b l]at z;cases z
  .by_cases l:b=a
   .exact l
   .exact absurd (t b l) z
def VM {l:PySem.W.OpenLaw}{k:Nat}{q:be}{e:List Str}{E:(Str->Option au)->cv->Prop}{A:cq->cv->Prop}{d:DefRec}{K:Params->ka}{B:List bb}
  (H:l.most=some 63) (t:d.params.defaults=[]) (I:Room k callerA)
  (J:∀(w:cq) (h:cv),A w h->(K w.params).In h/\∀P∈B,h.get? P=some (PySem.W.tabObj #[]))
  (v:∀p∈Tabs.tbs,p.1∈B/\∃c,∀w:cq,PySem.W.codeHdIn (K w.params) c p.1=true) (x:(Tabs.tbs.map (·.1)).Nodup) (y:∀w:cq,PySem.W.noTabs (K w.params)=true)
  (F:∀(w:cq) (mg:fL) (fa:bb) (h:cv),(K w.params).In h->h.Ns bt mg->mg d.name=some (.ref fa)->
   ∃fd:d9,(∀(s:a9) (u:au),BindsTo s fd ⟨[u],[]⟩ [("script",u)])/\
    ∀base:cv,(K w.params).In base->base.Ns bt mg->jX mg base->FnOk l.prog w (K w.params) mg base wN k fa fd ["script"] (xS (K w.params))):
  PySem.W.WalkO q e E A l.row.toRowW d [] (λf vs=>PySem.call f vs):=by
 refine Att2.attach_bits H t λw s9 ae mg mb fa o pm cd L a vs ns G Y ho hd fg N n m r O Q=>?_;obtain⟨z,U⟩:=J w _ Y;obtain⟨fd,hb,hF⟩:=F w mg fa _ z G.T.g N;refine JJ z G.T.g G.T.b G.T.builtins G.T.nolimit G.T.bmain Q n m r O I (λp hp=>?_) x (y w) hF hb;obtain⟨h1,c,h2⟩:=v p hp;have C:=U p.1 h1;exact⟨C,((PySem.W.codeHd_of_K z<|h2 w).tab C).isCodeTable⟩
section
def xx {xs es:List df}{p:Pos}{env:Env}:a5 (.List xs p::es) env=(false,dC (.List xs p) env)::a5 es env:=rfl
def tz {xs:List df}{p:Pos}{t:Option df}{l:Nat}{env:Env}:eQ (Expr.List xs p) t l env=pure false:=rfl
end
end
end DL
namespace DL
open PySem L2
def aE (G:D->Ev->R Ev)(F:Ev->R Out)(d:D)(ρ:Ev):R Out:=match G d ρ with
 |.ok a=>F a
 |_=>.bad
@[simp]def R1 (i:Nat)(F:Ev->R Out)(d:D)(ρ:Ev):aE (λd ρ=>.ok (ρ.set i (Sl.v d))) F d ρ=F (ρ.set i (.v d)):=rfl
@[simp]def yw (G:D->Ev->R Ev)(F:Ev->R Out)(ρ:Ev):R3 G F [] ρ=.ok (.nx ρ):=rfl
def PJ {α:Type}{a b:α}:(R.ok a=R.ok b)=(a=b):=by simp
class Bd (a:Int)(n:outParam Nat):Prop where
 h:bits a<=n
def m9 (h:bits a<=m)(b:m<=n):bits a<=n:=aAr h b
section
end
abbrev vd (v:G.V):D:=.tup [.int v.x,.int v.y,.int v.z]
def Sz (n:Nat)(v:G.V):Prop:=bits v.x<=n/\bits v.y<=n/\bits v.z<=n
def Sz.mono (h:Sz m v)(a:m<=n:=by decide):Sz n v:=⟨m9 h.1 a,m9 h.2.1 a,m9 h.2.2 a⟩
def Sz.sub (h:Sz n u)(h':Sz n v):Sz (n+1) (u-v):=⟨bits_sub h.1 h'.1,bits_sub h.2.1 h'.2.1,bits_sub h.2.2 h'.2.2⟩
def Sz.add (h:Sz n u)(h':Sz n v):Sz (n+1) (u+v):=⟨bits_add h.1 h'.1,bits_add h.2.1 h'.2.1,bits_add h.2.2 h'.2.2⟩
def Sz.cr (h:Sz m u)(h':Sz n v):Sz (m+n+1) (G.cr u v):=⟨bits_sub (bits_mul h.2.1 h'.2.2) (bits_mul h.2.2 h'.2.1),bits_sub (bits_mul h.2.2 h'.1) (bits_mul h.1 h'.2.2),bits_sub (bits_mul h.1 h'.2.1) (bits_mul h.2.1 h'.1)⟩
end DL
namespace M
open PySem L2 DL
abbrev pt (a b c:Int):D:=.tup [.int a,.int b,.int c]
abbrev YJ (n:Nat)(a b c:Int):Prop:=bits a<=n/\bits b<=n/\bits c<=n
def GY (k:List D->List D->R D):List D->R D
 |.lst a::b=>k a b
 |_=>.bad
def TJ (k:List D->List D->R D):List D->R D
 |.tup a::b=>k a b
 |_=>.bad
def yA (k:Int->List D->R D):List D->R D
 |.int a::b=>k a b
 |_=>.bad
def bJ {k:Int->List D->R D}{ds:List D}{r:D}(h:yA k ds=.ok r):∃a e,ds=.int a::e/\k a e=.ok r:=by
 unfold yA at h;split at h
 .exact⟨_,_,rfl,h⟩
 .cases h
def kX (q:R D):List D->R D
 |[]=>q
 |_=>.bad
def jJ (h:GY k ds=.ok r):∃xs e,ds=.lst xs::e/\k xs e=.ok r:=by
 unfold GY at h;split at h
 .exact⟨_,_,rfl,h⟩
 .cases h
def xN (h:TJ k ds=.ok r):∃xs e,ds=.tup xs::e/\k xs e=.ok r:=by
 unfold TJ at h;split at h
 .exact⟨_,_,rfl,h⟩
 .cases h
def A6 (h:kX q ds=.ok r):ds=[]/\q=.ok r:=by
 unfold kX at h;split at h
 .exact⟨rfl,h⟩
 .cases h
def v1 (k:Int->Int->Int->List D->R D):List D->R D:=TJ λd e=>yA (λa=>yA λb=>yA λc=>kX (k a b c e)) d
def v4 (k:Int->Int->Int->Int->List D->R D):List D->R D:=TJ λf e=>yA (λa=>yA λb=>yA λc=>yA λd=>kX (k a b c d e)) f
def v3 (k:Int->Int->Int->List D->R D):List D->R D:=TJ λd e=>yA (λa=>yA λb=>yA λc _=>k a b c e) d
def XX (h:v3 k ds=.ok r):∃a b c t e,ds=.tup (.int a::.int b::.int c::t)::e/\k a b c e=.ok r:=by obtain⟨d,e,rfl,h⟩:=xN h;obtain⟨a,x,rfl,h⟩:=bJ h;obtain⟨b,y,rfl,h⟩:=bJ h;obtain⟨c,z,rfl,h⟩:=bJ h;exact⟨a,b,c,z,e,rfl,h⟩
def C8 (h:v1 k ds=.ok r):∃a b c e,ds=.tup [.int a,.int b,.int c]::e/\k a b c e=.ok r:=by obtain⟨d,e,rfl,h⟩:=xN h;obtain⟨a,x,rfl,h⟩:=bJ h;obtain⟨b,y,rfl,h⟩:=bJ h;obtain⟨c,z,rfl,h⟩:=bJ h;obtain⟨rfl,h⟩:=A6 h;exact⟨a,b,c,e,rfl,h⟩
def MC (h:v4 k ds=.ok r):∃a b c d e,ds=.tup [.int a,.int b,.int c,.int d]::e/\k a b c d e=.ok r:=by obtain⟨f,e,rfl,h⟩:=xN h;obtain⟨a,x,rfl,h⟩:=bJ h;obtain⟨b,y,rfl,h⟩:=bJ h;obtain⟨c,z,rfl,h⟩:=bJ h;obtain⟨d,w,rfl,h⟩:=bJ h;obtain⟨rfl,h⟩:=A6 h;exact⟨a,b,c,d,e,rfl,h⟩
def o6:List D->R D:=v1 λa b c=>v1 λd e f=>kX (.ok (pt (d-a) (e-b)<|f-c))
def x9:List D->R D:=v1 λa b c=>v1 λd e f=>kX (if YJ 20000000 a b c/\YJ 20000000 d e f then .ok (pt (b*f-c*e) (c*d-a*f)<|a*e-b*d)else .bad)
def j9:List D->R D:=v3 λa b c=>v1 λd e f=>kX (if YJ 50000000 a b c/\YJ 50000000 d e f then .ok (.int (a*d+b*e+c*f))else .bad)
@[simp]def RA (P Q:G.V):o6 [vd P,vd Q]=.ok (vd (Q-P)):=rfl
def bU (a:Sz 20000000 u)(b:Sz 20000000 v):x9 [vd u,vd v]=.ok (vd (G.cr u v)):=i6 ⟨a,b⟩
def dM (a:Sz 50000000 u)(b:Sz 50000000 v):j9 [vd u,vd v]=.ok (.int (G.c9 u v)):=i6 ⟨a,b⟩
def rule (k:Int):Int:=7*k*k+10*k+3
def P64:Int:=10^64
def P34:Int:=10^34
def a4a:Int:=P64*P34
def sgn (x:Int):Int:=if 0<x then 1 else if x<0 then-1 else 0
def cC:List D->R D:=v4 λa b c d=>v1 λx y z=>kX (if YJ 50000000 a b c/\YJ 50000000 x y z then .ok (.int (sgn<|a*x+b*y+c*z-d))else .bad)
def TV (e:YJ 50000000 a b c)(f:YJ 50000000 x y z):cC [.tup [.int a,.int b,.int c,.int d],pt x y z]=.ok (.int (sgn (a*x+b*y+c*z-d))):=i6 ⟨e,f⟩
def XR (i:Nat)(ρ:Ev):Nat:=match ρ[i]? with
 |some (.v (.int b))=>b.natAbs+2
 |_=>0
def zT (c:bits a<=n)(d:bits b<=n):bits (aGA a b)<=n:=by
 refine HJ ?_;have f:=GN c;have g:=GN d;have e:((aGA a b:Nat):Int).natAbs=aGA a b:=by simp
 rw[e];unfold aGA;rcases Nat.eq_zero_or_pos a.natAbs with z|z
 .rw[z,Nat.gcd_zero_left];exact g
 .exact aDn (Nat.gcd_le_left _ z) f
end M
namespace DL
open PySem PySem.Spec L2
open PyProof.Rows hiding St
theorem Y1:∀{ns:List Int} {a:List au},n8 (ns.map V.int) a->IntsAre a ns
 |[],_,.nil=>.nil
 |n::ns,_,.cons r t=>by obtain⟨b,rfl⟩:=r;exact .cons n b (Y1 t)
section
def kD:List D->Option (List Int)
 |[]=>some []
 |.int i::r=>(kD r).map (i::·)
 |_=>none
theorem lD:∀{ds:List D} {ns:List Int},kD ds=some ns->ds=ns.map D.int
 |[],ns,h=>by cases h;rfl
 |.int i::r,ns,h=>by simp only[kD,aDi]at h;obtain⟨m,a,rfl⟩:=h;rw[lD a];rfl
 |.non::_,_,h=>by cases h
 |.bl _::_,_,h=>by cases h
 |.str _::_,_,h=>by cases h
 |.tup _::_,_,h=>by cases h
 |.lst _::_,_,h=>by cases h
 |.dct::_,_,h=>by cases h
theorem rR:∀ns:List Int,kD (ns.map D.int)=some ns
 |[]=>rfl
 |n::ns=>by simp[kD,rR ns]
theorem mI {K:ka}{H:Hp}{O:bb->Prop}:∀{vs:List V} {ns:List Int},Reps K H O vs (ns.map D.int)->vs=ns.map V.int
 |[],[],_=>rfl
 |v::vs,n::ns,.cons h t=>by cases h;rw[mI t];rfl
variable [Tabs]in
end
theorem vX (Iv:List D->Ev->Prop)(c:∀d ds ρ,Iv (d::ds) ρ->∃ρ2,aE G F d ρ=.ok (.nx ρ2)/\Iv ds ρ2):∀{ds:List D} {ρ:Ev},Iv ds ρ->∃a,R3 G F ds ρ=.ok (.nx a)/\Iv [] a
 |[],ρ,h=>⟨ρ,rfl,h⟩
 |d::ds,ρ,h=>by
  obtain⟨ρ2,e,f⟩:=c d ds ρ h;obtain⟨a,g,k⟩:=vX Iv c f;unfold aE at e;cases b:G d ρ with
  |ok l=>rw[b]at e;exact⟨a,by rw[R3,b];dsimp only at e⊢;rw[e];exact g,k⟩
  |ex x=>rw[b]at e;cases e
  |bad=>rw[b]at e;cases e
def fQ (Iv:List D->Ev->Prop)(b:∀d ds ρ,Iv (d::ds) ρ->∃ρ2,aE G F d ρ=.ok (.nx ρ2)/\Iv ds ρ2)(h0:Iv ds ρ)(c:∀a,Iv [] a->N6 (f a)=.ok d):
  N6 (C9 (R3 G F ds ρ) f)=.ok d:=by
 obtain⟨a,e,h⟩:=vX Iv b h0;rw[e];exact c a h
def qI {Post:Ev->Prop}(Iv:Nat->Ev->Prop)(d:∀n ρ,Iv (n+1) ρ->c ρ=.ok false\/(c ρ=.ok true/\∃ρ2,F ρ=.ok (.nx ρ2)/\Iv n ρ2))(b:∀ρ,¬Iv 0 ρ)(h0:Iv n ρ)(f:∀m a,Iv m a->c a=.ok false->Post a):∃ρ2,V3 c F n ρ=.ok (.nx ρ2)/\Post ρ2:=by obtain⟨m,a,e,h,g⟩:=iS Iv d b n ρ h0;exact⟨a,e,f m a h g⟩
end DL
namespace M
open PySem L2 DL
abbrev yK (n:G.V)(d:Int):D:=.tup [.int n.x,.int n.y,.int n.z,.int d]
def K1:List D->R D:=v1 λa b c=>kX (.ok (.int (G.t7 ⟨a,b,c⟩)))
def ET (v:G.V):K1 [vd v]=.ok (.int (G.t7 v)):=rfl
def Sz3 (P Q R:G.V):Prop:=Sz 1000 P/\Sz 1000 Q/\Sz 1000 R
open Classical in
def V8:List D->R D:=v1 λa b c=>v1 λd e f=>v1 λg h i=>kX (
 if Sz3 ⟨a,b,c⟩ ⟨d,e,f⟩ ⟨g,h,i⟩/\G.cr ((⟨d,e,f⟩:G.V)-⟨a,b,c⟩) ((⟨g,h,i⟩:G.V)-⟨a,b,c⟩)≠0 then .ok (yK (G.d6 ⟨a,b,c⟩ ⟨d,e,f⟩ ⟨g,h,i⟩).1 (G.d6 ⟨a,b,c⟩ ⟨d,e,f⟩ ⟨g,h,i⟩).2)else .bad)
def MD {P Q R:G.V}(h:Sz3 P Q R)(a:G.cr (Q-P) (R-P)≠0):V8 [vd P,vd Q,vd R]=.ok (yK (G.d6 P Q R).1 (G.d6 P Q R).2):=i6 ⟨h,a⟩
def tO (h:Sz n v):bits (G.t7 v:Nat)<=n:=by
 have e:((G.t7 v:Nat):Int)=aGA (aGA v.x v.y:Nat) v.z:=by simp[G.t7,aGA]
 rw[e];exact zT (zT h.1 h.2.1) h.2.2
def fO {a g:Int}(h:0<g):a.fdiv g=a/g:=Int.fdiv_eq_ediv_of_nonneg a (aAS h)
end M
namespace DL
open PySem PySem.Spec L2
open PyProof.Rows hiding St
section
variable [Tabs]
mutual
inductive HV (h:Heap):Value->D->Prop
 |int (i:Int) (t:Tok):HV h (.int i t) (.int i)
 |tup {a:Addr} {items:Array Value} {ds:List D} (p:IsTup h a items) (r:HVs h items.toList ds):HV h (.ref a) (.tup ds)
inductive HVs (h:Heap):List Value->List D->Prop
 |nil:HVs h [] []
 |cons {v:Value} {d:D} {vs:List Value} {ds:List D} (r:HV h v d) (t:HVs h vs ds):HVs h (v::vs) (d::ds)
end
mutual
def rN:D->Bool
 |.int _=>true
 |.tup a=>gM a
 |_=>false
def gM:List D->Bool
 |[]=>true
 |x::a=>rN x&&gM a
end
theorem iI:∀xs:List D,wL xs=xs.map p7
 |[]=>rfl
 |x::xs=>by rw[wL,iI xs];rfl
section
mutual
theorem HV.keeps (k:∀b o,h.get? b=some o->o.cls=.type "tuple"->h'.get? b=some o):∀{v:au} {d:D},HV h v d->HV h' v d
 |_,_,.int i t=>.int i t
 |_,_,.tup p r=>.tup (by obtain⟨o,e,c,n,d⟩:=p;exact⟨o,k _ _ e c,c,n,d⟩) (HVs.keeps k r)
theorem HVs.keeps (k:∀b o,h.get? b=some o->o.cls=.type "tuple"->h'.get? b=some o):∀{v:List au} {d:List D},HVs h v d->HVs h' v d
 |_,_,.nil=>.nil
 |_,_,.cons r t=>.cons (HV.keeps k r) (HVs.keeps k t)
end
mutual
theorem HV.inj:∀{v:au} {d d':D},HV h v d->HV h v d'->d=d'
 |_,_,_,.int i t,.int _ _=>rfl
 |_,_,_,.tup p r,.tup f g=>by obtain⟨o,e,c,n,k⟩:=p;obtain⟨l,a,m,s,b⟩:=f;rw[e]at a;cases a;rw[k]at b;injection b with q _;subst q;rw[HVs.inj r g]
theorem HVs.inj:∀{v:List au} {d d':List D},HVs h v d->HVs h v d'->d=d'
 |_,_,_,.nil,.nil=>rfl
 |_,_,_,.cons r t,.cons a b=>by rw[HV.inj r a,HVs.inj t b]
end
theorem HVs.length:∀{v:List au} {d:List D},HVs h v d->v.length=d.length
 |_,_,.nil=>rfl
 |_,_,.cons _ t=>by simp[HVs.length t]
end
section
variable{prog:be} {w:cq}
def PH (prog:be)(w:cq)(h:cv)(v:au)(d:D):Prop:=∀(A:cp) (E:F5) (s:a9) (Q:Int->a9->Prop),s.heap=h->A.units+8*D8 d<dA->(∀a,s.toks<=a->Q (p7 d) {s with toks:=a})->av (bc prog w) A (pyHash v) Q E s
mutual
theorem XQ:∀{v:au} {d:D},HV h v d->PH prog w h v d
 |_,_,.int i t=>λA E s Q H I q=>by exact(intKind prog w).pyHash (k:=i) (intKind_is _ _ _ _) (q _<|Nat.le_succ _)
 |_,_,.tup (a:=a) (items:=items) (ds:=ds) p r=>λA E s Q H I q=>by
  have fs:=OZ r;subst H;obtain⟨o,J,N,n,O⟩:=p;have m:s.TypeIs (.ref a) "tuple":=⟨o,J,N⟩;have T:A.units<dA:=by lia
  rw[D8]at I;unfold pyHash;first|unfold pyHashByItsType|skip
  first|refine aAa (wpAny_cRoomFor_or (.inr T) ?_)|skip
  refine aAa (aBB m PySem.F.slot_tuple_hash.lookup ?_);show av _ _ (if(some (aGr "tuple.__hash__")==some Value.none)=true then _ else _) Q E s;rw[ja (by rw[aFE];exact aAY)];refine aAa (aBB m PySem.F.slot_tuple_hash.lookup ?_);show av _ _ (callSpecialIfBoundUnlessNone? (.ref a) "__hash__" _>>=_) Q E s;refine aAa (aDp m PySem.F.slot_tuple_hash<|aBp PySem.F.slot_tuple_hash m PySem.F.entry_tuple_hash ?_ (PySem.F.args_tuple_hash_1 _));show av _ _ (aDA (.ref a)>>=_) _ _ s;refine aAa (wpAny_tupleItemsOf J O ?_);refine aAa ?_;rw[<-aCs];refine aCv _
   (λrest (b:Array Int) B=>∃done left f,ds=done++left/\Paired (PH prog w s.heap) rest left/\b.toList=done.map p7/\s.toks<=f/\B={s with toks:=f})
   _ ?_ ?_ _ _ ⟨[],ds,s.toks,rfl,fs,rfl,aAj _,rfl⟩
  .rintro x rest b B ⟨done,left,f,g,C,u,U,rfl⟩;cases C with
   |@cons _ d _ c Y L=>
    refine aAa (Y _ _ _ _ rfl ?_ λy e=>?_)
    .have:D8 d<=C6 ds:=by rw[g];exact xX (j:=done.length) (by simp)
     rw[y7];lia
    first
     |exact aAb ⟨done++[d],c,y,by simp[g],L,by simp[u],by(have:f<=y:=e);lia,rfl⟩
     |exact aAa (aAb (aAb ⟨done++[d],c,y,by simp[g],L,by simp[u],by(have:f<=y:=e;lia),rfl⟩))
  .rintro b B ⟨done,left,f,g,C,u,U,rfl⟩;cases C;rw[aCH]at g;subst g;show av _ _ (retInt<|aAM b.toList) _ _ _;rw[u];refine wpAny_ret_mkInt ?_;show av _ _ (if(decide (-(2:Int)^63<=aAM (ds.map p7))&&decide (aAM (ds.map p7)<2^63))=true then _ else _) Q E _;have l:=q (f+1) (by lia);rw[p7,iI]at l;unfold reduceHash at l;by_cases z:(decide (-(2:Int)^63<=aAM (ds.map p7))&&decide (aAM (ds.map p7)<2^63))=true
   .rw[i6 z];rw[i6 z]at l;exact aAb l
   .rw[ja z];rw[ja z]at l;exact aAa (aDx<|aAb l)
theorem OZ:∀{v:List au} {d:List D},HVs h v d->Paired (PH prog w h) v d
 |_,_,.nil=>.nil
 |_,_,.cons r t=>.cons (XQ r) (OZ t)
end
mutual
theorem GD:∀{v u:au} {d e:D} {A:cp},HV s.heap v d->HV s.heap u e->A.units+D8 d<dA->SeqAt.EqAt A s v u (x5 d e)
 |_,_,_,_,A,.int i t,.int j g,_=>by simp only[x5];exact aFc _ _ _ _
 |_,_,_,_,A,.int i t,.tup p r,b=>by simp only[x5];exact aFX _ _ p (by lia)
 |_,_,_,_,A,.tup p r,.int j g,b=>by simp only[x5];exact aFY _ _ p (by lia)
 |_,_,_,_,A,.tup (a:=a) (ds:=ds) p r,.tup (a:=h) (ds:=k) f c,b=>by
  by_cases e:a=h
  .subst e;have:=HV.inj (.tup p r) (.tup f c);rw[this,U1];exact aEa _
  .simp only[x5];rw[D8]at b;exact aFd e (mK (by simpa using p) (by simpa using f) r.length c.length (by lia) (OR r c (by rw[y7];lia))).1
theorem OR:∀{vs c:List au} {ds es:List D} {A:cp},HVs s.heap vs ds->HVs s.heap c es->A.in1.units+C6 ds<dA->oH A s vs c ds es
 |_,_,_,_,A,.nil,_,_=>λj u w a b=>by simp at a
 |_,_,_,_,A,.cons r t,.nil,_=>λj u w a b=>by simp at b
 |_,_,_,_,A,.cons (d:=d) (ds:=ds) r t,.cons (d:=h) (ds:=k) e f,g=>λj u w a b=>by
  rw[C6]at g;match j,a,b with
  |0,a,b=>simp only[aCZ,aGx]at a b;subst a b;exact GD r e (by lia)
  |j+1,a,b=>simp only[aDb]at a b;exact OR t f (by lia) j u w a b
end
mutual
theorem kA:∀{d e:D},rN d=true->rN e=true->x5 d e=true->d=e
 |.int i,.int j,_,_,h=>by simp[x5]at h;rw[h]
 |.tup c,.tup f,a,b,h=>by rw[rN]at a b;rw[x5]at h;rw[AM a b h]
 |.int _,.tup _,_,_,h=>by simp[x5]at h
 |.tup _,.int _,_,_,h=>by simp[x5]at h
 |.non,_,h,_,_=>by simp[rN]at h
 |.bl _,_,h,_,_=>by simp[rN]at h
 |.str _,_,h,_,_=>by simp[rN]at h
 |.lst _,_,h,_,_=>by simp[rN]at h
 |_,.non,_,h,_=>by simp[rN]at h
 |_,.bl _,_,h,_=>by simp[rN]at h
 |_,.str _,_,h,_=>by simp[rN]at h
 |_,.lst _,_,h,_=>by simp[rN]at h
theorem AM:∀{d e:List D},gM d=true->gM e=true->W0 d e=true->d=e
 |[],[],_,_,_=>rfl
 |[],_::_,_,_,h=>by simp[W0]at h
 |_::_,[],_,_,h=>by simp[W0]at h
 |x::c,y::f,a,b,h=>by rw[gM,aAP]at a b;rw[W0,aAP]at h;rw[kA a.1 b.1 h.1,AM a.2 b.2 h.2]
end
mutual
theorem HV.ok:∀{v:au} {d:D},HV h v d->rN d=true
 |_,_,.int i t=>rfl
 |_,_,.tup p r=>by rw[rN];exact HVs.ok r
theorem HVs.ok:∀{v:List au} {d:List D},HVs h v d->gM d=true
 |_,_,.nil=>rfl
 |_,_,.cons r t=>by rw[gM,HV.ok r,HVs.ok t];rfl
end
mutual
theorem jR:∀{v:au} {d:D} (k:Nat),HV h v d->D8 d<k->∀(M:Model) (A:cp) (E:F5) (s:a9) (Q:AD),s.heap=h->Q true s->av M A (eqIsQuiet k v) Q E s
 |_,_,k,.int i t,_=>λM A E s Q m q=>by unfold eqIsQuiet;exact aAb q
 |_,_,k,.tup (a:=a) (items:=items) (ds:=ds) p r,c=>λM A E s Q m q=>by
  subst m;obtain⟨o,u,y,n,z⟩:=p;have x:s.TypeIs (.ref a) "tuple":=⟨o,u,y⟩;match k,c with
  |k+1,c=>
   rw[D8]at c;unfold eqIsQuiet;refine aAa (aBB x PySem.F.slot_tuple_eq.lookup ?_);show av _ _ (isInstance (.ref a) (.type "tuple")>>=_) _ _ s;refine aAa (aDf x isSubtype_tuple_tuple ?_);simp only[aDa,aAs,if_false];refine aAa (aBR u z ?_);refine aAa ?_;show av _ _ (forIn items _ _) _ _ s;rw[<-aCs];refine aCv _ (λrest r b=>r.1=none/\b=s/\∃e,HVs s.heap rest e/\C6 e<k) _ ?_ ?_ _ _ ⟨rfl,rfl,ds,r,by lia⟩
   .rintro v rest r b ⟨f,rfl,e,g,l⟩;cases g with
    |@cons _ d _ B g C=>rw[C6]at l;refine aAa (jR k g (by lia) M A E b _ rfl ?_);simp only[aDa,aAs,if_false];exact aAb ⟨rfl,rfl,B,C,by lia⟩
   .rintro⟨H,I⟩ b ⟨f,rfl,_⟩;simp only at f;subst f;exact aAb q
end
mutual
theorem iV:∀{v:au} {d:D} (k:Nat),HV h v d->D8 d<k->∀(M:Model) (A:cp) (E:F5) (s:a9) (Q:AD),s.heap=h->Q false s->av M A (ofAClassStatement k v) Q E s
 |_,_,k,.int i t,_=>λM A E s Q m q=>by unfold ofAClassStatement;exact aAb q
 |_,_,k,.tup (a:=a) (items:=items) (ds:=ds) p r,c=>λM A E s Q m q=>by
  subst m;obtain⟨o,u,x,n,y⟩:=p;have z:s.TypeIs (.ref a) "tuple":=⟨o,u,x⟩;match k,c with
  |k+1,c=>
   rw[D8]at c;unfold ofAClassStatement;refine aAa (aDR z ?_);dsimp only;rw[i6 (by decide)];refine aAa (aAb ?_);simp only[aDa,aAs,if_false];refine aAa (aBR u y ?_);dsimp only;refine aAa ?_;show av _ _ (forIn items _ _) _ _ s;rw[<-aCs];refine aCv _ (λrest r b=>r.1=none/\b=s/\∃e,HVs s.heap rest e/\C6 e<k) _ ?_ ?_ _ _ ⟨rfl,rfl,ds,r,by lia⟩
   .rintro v rest r b ⟨f,rfl,e,g,l⟩;cases g with
    |@cons _ d _ B g C=>rw[C6]at l;refine aAa (iV k g (by lia) M A E b _ rfl ?_);simp only[aAs,if_false];exact aAb ⟨rfl,rfl,B,C,by lia⟩
   .rintro⟨H,I⟩ b ⟨f,rfl,_⟩;simp only at f;subst f;exact aAb q
end
mutual
theorem pD:∀{v:au} {d:D} (k:Nat),HV h v d->D8 d<k->∀(M:Model) (A:cp) (E:F5) (s:a9) (Q:AD),s.heap=h->Q true s->av M A (hashByValue k v) Q E s
 |_,_,k,.int i t,_=>λM A E s Q m q=>by unfold hashByValue;exact aAb q
 |_,_,k,.tup (a:=a) (items:=items) (ds:=ds) p r,c=>λM A E s Q m q=>by
  subst m;obtain⟨o,u,x,n,y⟩:=p;have z:s.TypeIs (.ref a) "tuple":=⟨o,u,x⟩;match k,c with
  |k+1,c=>
   rw[D8]at c;unfold hashByValue;refine aAa (aBB z PySem.F.slot_tuple_hash.lookup ?_);dsimp only;refine aAa (aBR u y ?_);refine aAa ?_;show av _ _ (forIn items _ _) _ _ s;rw[<-aCs];refine aCv _ (λrest r b=>r.1=none/\b=s/\∃e,HVs s.heap rest e/\C6 e<k) _ ?_ ?_ _ _ ⟨rfl,rfl,ds,r,by lia⟩
   .rintro v rest r b ⟨f,rfl,e,g,l⟩;cases g with
    |@cons _ d _ B g C=>rw[C6]at l;refine aAa (pD k g (by lia) M A E b _ rfl ?_);simp only[aDa,aAs,if_false];exact aAb ⟨rfl,rfl,B,C,by lia⟩
   .rintro⟨H,I⟩ b ⟨f,rfl,_⟩;simp only at f;subst f;exact aAb q
end
def lA {α:Type}{M:Model}{A:cp}{E:F5}{s:a9}{Q:α->a9->Prop}{c:Prop}[Decidable c]{a b:Sem α}(d:c->av M A a Q E s)(e:¬c->av M A b Q E s):av M A (if c then a else b) Q E s:=by
 by_cases h:c
 .rw[i6 h];exact d h
 .rw[ja h];exact e h
def pj {M:Model}{A:cp}{E:F5}{s:a9}{Q:AD}{x:au}{d:D}(l:HV s.heap x d)(m:D8 d<8)(c:List au)(o:∀y∈c,∃e,HV s.heap y e/\D8 e<8)(q:Q false s):av M A (searchCouldBeSeen x c) Q E s:=by
 unfold searchCouldBeSeen;refine aAa ?_;refine aCv _ (λrest r a=>r.1=none/\a=s/\∀y∈rest,y∈c) _ ?_ ?_ _ _ ⟨rfl,rfl,λy h=>h⟩
 .rintro y rest r a ⟨f,rfl,g⟩;obtain⟨e,n,b⟩:=o y (g y (by simp));dsimp only;refine lA (λ_=>?_) (λ_=>?_)
  .exact aAb ⟨rfl,rfl,λz k=>g z (aAg _ k)⟩
  .refine aAa (jR 8 l m M A E a _ rfl ?_);simp only[aDa,aAs,if_false];refine aAa (jR 8 n b M A E a _ rfl ?_);simp only[aDa,aAs,if_false];refine aAa (iV 8 l m M A E a _ rfl ?_);simp only[aAs,if_false];refine aAa (iV 8 n b M A E a _ rfl ?_);simp only[aAs,if_false];exact aAb ⟨rfl,rfl,λz k=>g z (aAg _ k)⟩
 .rintro⟨p,t⟩ a ⟨f,rfl,_⟩;simp only at f;subst f;exact aAb q
end
def EV (h:cv)(e:Int×au)(d:D):Prop:=HV h e.2 d/\e.1=p7 d
theorem J3 {α β:Type}{F:α->β->Prop}:∀{l:List α} {m:List β} {i:Nat} {a:α},Paired F l m->l[i]?=some a->∃b,m[i]?=some b/\F a b
 |_,_,_,_,.nil,h=>by simp at h
 |_,_,0,_,.cons r _,h=>by simp at h;subst h;exact⟨_,rfl,r⟩
 |_,_,i+1,a,.cons _ t,h=>by obtain⟨b,c,d⟩:=J3 (i:=i) t (by simpa using h);exact⟨b,by simpa using c,d⟩
theorem eT {α β:Type}{F:α->β->Prop}:∀{l:List α} {m:List β} {i:Nat} {b:β},Paired F l m->m[i]?=some b->∃a,l[i]?=some a/\F a b
 |_,_,_,_,.nil,h=>by simp at h
 |_,_,0,_,.cons r _,h=>by simp at h;subst h;exact⟨_,rfl,r⟩
 |_,_,i+1,a,.cons _ t,h=>by obtain⟨b,c,d⟩:=eT (i:=i) t (by simpa using h);exact⟨b,by simpa using c,d⟩
theorem iM {α β:Type}{F:α->β->Prop}:∀{l:List α} {m:List β},Paired F l m->l.length=m.length
 |_,_,.nil=>rfl
 |_,_,.cons _ t=>by simp[iM t]
section
variable{es:Array (Int×au)}
def kB (K:ST.SOk t es.toList):t.fits es.size=true:=by
 have a:=K.len;have c:=K.room;have b:=K.tab.nod;unfold aGs SetTable.fill;rw[b];simp at a⊢
 lia
theorem mY (ho:s.heap.get? S=some o)(hd:o.data=.set es ep t)(K:ST.SOk t es.toList)(u:t.mask%2=1)(P:Paired (EV s.heap) es.toList ds)(N:HV s.heap (.ref x) (.tup xs))(B:D8 (.tup xs)<8)(yc:∀e∈ds,D8 e<8)(hT:∀e∈ds,∃C,e=.tup C)
  (hu:A.units+16<dA) (hf:ST.Y3 t (p7 (.tup xs)) n0) {Q:SetFound->a9->Prop} (f:D.tup xs∈ds->Q (.there none) s) (b:D.tup xs∉ds->Q (.free (ST.o8 t.mask (p7 (.tup xs)) n0).j false) s):
  ∀(a n:Nat) (O:Option SetTable.Probe),O.getD (t.probeStart (p7 (.tup xs)))=ST.o8 t.mask (p7 (.tup xs)) n->n<=n0->n0-n<a->
   (∀m<n,∀(i:Nat),t.place[i]?=some (ST.o8 t.mask (p7 (.tup xs)) m).j->ds[i]?≠some (.tup xs))->av (bc prog w) A (setSearchFrom S (.ref x) (p7 (.tup xs)) true a O) Q E s
 |0,n,O,_,_,h,_=>by lia
 |a+1,n,O,jn,hn,hfu,H=>by
  unfold setSearchFrom;refine aAa (aCl ho hd (kB K) ?_);dsimp only;refine lA (λz=>?_) (λ_=>?_)
  .unfold SetTable.gaveWay at z;simp at z;lia
  rw[jn];obtain⟨T,a1,a2,a3,a4⟩:=ST.ON K.tab (λi=>(es[i]?.map (·.1)).getD 0) (p7<|.tup xs) hf n hn;generalize hg:t.probe _ (p7<|.tup xs) (ST.o8 t.mask (p7<|.tup xs) n)=pm;rcases a4 with⟨en,e⟩|⟨ao,i,q,hh,e⟩
  .have ep:pm=_:=hg.symm.trans e;rw[ep];dsimp only;refine aAb (b λI=>?_);obtain⟨i,q⟩:=aBX.mp I;obtain⟨⟨J,v⟩,he,h1,h2⟩:=eT P q;obtain⟨j,U,rf⟩:=ST.VY K.len he;dsimp only at h2;have hr:=K.reach _ rf;dsimp only at hr;rw[h2]at hr;obtain⟨m,I,em⟩:=ST.Reach.before hf (by rw[<-aAD]at U;exact aAo U) hr;by_cases z:m<n
   .exact H m z i (by rw[em];exact U) q
   .obtain⟨d,gc,af⟩:=a3 m (by lia) (by lia);have:d=i:=by have f:=ST.N3 K.tab gc;have b:=ST.N3 K.tab U;rw[em]at f;rw[f]at b;injection b
    subst this;refine af ?_;show(es[d]?.map (·.1)).getD 0=_;rw[<-aAD,he];exact h2
  .have ep:pm=_:=hg.symm.trans e;rw[ep];dsimp only;have L:i<es.size:=by
    have:=(aCk.mp q).1;have h1:=K.len;simp at h1
    lia
   have g:es[i]?=some es[i]:=aAz L;obtain⟨di,c,J,l⟩:=J3 P (show es.toList[i]?=some es[i]by rw[aAD];exact g);obtain⟨C,rfl⟩:=hT di (aAo c);have go:av (bc prog w) A (do
     let some (_,y):=es[i]?|unsupported "internal:set-entry"
     let equal<-fo [y] (eqBool y<|.ref x)
     let(es',_,t')<-setState S
     if true&&equal then return .there none
     let some same:=t'.sameMemory t.moves t.mask|unsupported "set.changed-during-lookup:is-the-new-block-at-the-old-address"
     let ZB<-match(if same then t'.slot (ST.o8 t.mask (p7<|.tup xs) T).j else .empty)with
      |.live d=>match es'[d]? with
       |some (_,y')=>do pure (if<-isSame y' y then some d else none)
       |none=>pure none
      |_=>pure none
     match ZB with
     |none=>rule "set.search.anew";setSearchFrom S (.ref x) (p7<|.tup xs) true a none
     |some d=>if equal then return .there (some d)else setSearchFrom S (.ref x) (p7<|.tup xs) true a (some<|ST.o8 t.mask (p7<|.tup xs)<|T+1)) Q E s:=by
    rw[g];generalize he:es[i]=en at*
    obtain⟨hn,y⟩:=en;dsimp only at J l⊢;refine aAa (aAN (GD J N (by have:=yc _ (aAo c);lia) prog w E _ ?_));refine aAa (aCl ho hd (kB K) ?_);dsimp only;cases hq:x5 (.tup C) (.tup xs)with
    |true=>rw[i6 (show(true&&true)=true from rfl)];have:D.tup C=.tup xs:=kA J.ok N.ok hq;rw[this]at c;exact aAb (f<|aAo c)
    |false=>
     rw[ja (by simp)];have hsm:t.sameMemory t.moves t.mask=some true:=by unfold SetTable.sameMemory;rw[i6 (by simp)]
     rw[hsm];dsimp only;rw[i6 rfl,ST.N3 K.tab q];dsimp only;rw[g];dsimp only;cases J with
     |tup p r=>
      refine aAa (wpAny_isSame_ref_self ?_);refine aAa (aAb ?_);rw[i6 rfl];dsimp only;rw[ja (by simp)];refine mY ho hd K u P N B yc hT hu hf f b a (T+1) _ rfl (by lia) (by lia) λm I i2 vc Y=>?_;by_cases z:m<n
      .exact H m z i2 vc Y
      .by_cases z2:m=T
       .subst z2;have:i2=i:=by have f:=ST.N3 K.tab vc;have b:=ST.N3 K.tab q;rw[f]at b;injection b
        subst this;rw[c]at Y;have:D.tup C=.tup xs:=aAl Y;rw[this,U1]at hq;cases hq
       .obtain⟨d,gc,af⟩:=a3 m (by lia) (by lia);have:d=i2:=by have f:=ST.N3 K.tab gc;have b:=ST.N3 K.tab vc;rw[f]at b;injection b
        subst this;obtain⟨⟨h0,v0⟩,he0,hv0,hh0⟩:=eT P Y;refine af ?_;show(es[d]?.map (·.1)).getD 0=_;rw[<-aAD,he0];exact hh0
   refine lA (λ_=>?_) (λ_=>go);refine aAa (pj N B _ (λy hy=>?_) ?_)
   .obtain⟨e',xo,rfl⟩:=aAp.mp hy;rw[Array.toList_filter]at xo;have I:=(aCa.mp xo).1;obtain⟨k,hk⟩:=aBX.mp I;obtain⟨dk,hdk,hvk,_⟩:=J3 P hk;exact⟨dk,hvk,yc _ (aAo hdk)⟩
   .rw[ja (by simp)];exact go
def xL (m n:Nat):Prop:=(m=7/\n<=4)\/(m=31/\n<=18)\/(m=127/\n<=76)
def xL.odd (h:xL m n):m%2=1:=by rcases h with⟨rfl,_⟩|⟨rfl,_⟩|⟨rfl,_⟩<;>rfl
def Keeps (h0 h:cv):Prop:=∀b o,h0.get? b=some o->h.get? b=some o
structure SetAt (L:Bool)(h0 h:Heap)(S:Addr)(ds:List D):Prop where
 ex:∃(o:Obj) (es:Array (Int×Value)) (ep:Nat) (t:SetTable),h.get? S=some o/\o.cls=.type "set"/\o.dict=none/\o.slots=#[]/\o.data=.set es ep t/\ST.SOk t es.toList/\xL t.mask es.size/\Paired (EV h0) es.toList ds/\t.led=L/\t.plain=true
 nd:ds.Nodup
def fF {α β:Type}{F:α->β->Prop}:∀{l b:List α} {m:List β},b.Perm l->Paired F l m->∃a,a.Perm m/\Paired F b a:=λ{l b m} p=>by
 induction p generalizing m with
 |nil=>intro h;exact⟨m,.refl _,h⟩
 |cons x _ e=>
  intro h;cases h with
  |cons r t=>obtain⟨a,f,g⟩:=e t;exact⟨_::a,f.cons _,.cons r g⟩
 |swap x y l=>
  intro h;cases h with
  |cons r t=>
   cases t with
   |cons k n=>exact⟨_,.swap _ _ _,.cons k (.cons r n)⟩
 |trans _ _ c d=>intro h;obtain⟨w,o,q⟩:=d h;obtain⟨s,u,v⟩:=c q;exact⟨s,u.trans o,v⟩
theorem fK {α β:Type}{F G:α->β->Prop}(i:∀a b,F a b->G a b):∀{l:List α} {m:List β},Paired F l m->Paired G l m
 |_,_,.nil=>.nil
 |_,_,.cons r t=>.cons (i _ _ r) (fK i t)
theorem rH {α β:Type}{F:α->β->Prop}{a:α}{b:β}(r:F a b):∀{l:List α} {m:List β} (p:Nat),Paired F l m->Paired F (l.take p++a::l.drop p) (m.take p++b::m.drop p)
 |_,_,0,h=>.cons r h
 |_,_,p+1,.nil=>.cons r .nil
 |_,_,p+1,.cons c t=>.cons c (rH r p t)
def MB {α:Type}(a:α)(l:List α)(p:Nat):(l.take p++a::l.drop p).Perm (a::l):=by have h:=List.perm_middle (a:=a) (l₁:=l.take p) (l₂:=l.drop p);rw[aEk]at h;exact h
def yT {α β:Type}{M:Model}{Q:α->a9->Prop}{c:Prop}[Decidable c]{a:Sem β}{k:β->Sem α}(b:β)(e:∀d:β->a9->Prop,d b s->av M A a d E s)(h:av M A (k b) Q E s):av M A (if c then a>>=k else pure b>>=k) Q E s:=
 lA (λ_=>aAa (e _ h)) (λ_=>aAa (aAb h))
def nE (h:cv)(S:bb)(f:Obj->Obj):Heap.SameBut S h (h.update S f):=⟨by simp[Heap.size_update],λb a=>aAE _ _ (aCi a)⟩
def uG {h:cv}{S:bb}{o:Obj}{es es':Array (Int×au)}{ep:Nat}{t t':eY}(b:h.get? S=some o)(a:o.data=.set es ep t):(h.update S (aEC es' t')).get? S=some {o with data:=.set es' (ep+1) t'}:=by
 have e:aEC es' t' o={o with data:=.set es' (ep+1) t'}:=by obtain⟨c,d,f,g⟩:=o;cases f<;>simp at a;obtain⟨rfl,rfl,rfl⟩:=a;rfl
 rw[aBh _ b (by rw[e];rfl),e]
def kz {L:Bool}{h0:cv}{Q:AD}(hS:SetAt L h0 s.heap S ds)(kp:Keeps h0 s.heap)(B:HV h0 (.ref x) (.tup xs))(C:D8 (.tup xs)<8)(yc:∀e∈ds,D8 e<8)(hT:∀e∈ds,∃ys,e=.tup ys)(hu:A.units+128<dA)(hn:ds.length<76)
  (q1:D.tup xs∈ds->∀tk,s.toks<=tk->Q false {s with toks:=tk})
  (q2:D.tup xs∉ds->∀h' tk bg,s.toks<=tk->Heap.SameBut S s.heap h'->SetAt L h0 h' S bg->bg.Perm (.tup xs::ds)->Q true {s with heap:=h',toks:=tk}):av (bc prog w) A (setAdd S (.ref x)) Q E s:=by
 obtain⟨⟨o,es,ep,t,H,hc,zl,I,J,K,mk,P0,lp0⟩,nd⟩:=hS;have hx:HV s.heap (.ref x) (.tup xs):=B.keeps λb o e _=>kp b o e;have P:Paired (EV s.heap) es.toList ds:=fK (λe d r=>⟨r.1.keeps λb o e _=>kp b o e,r.2⟩) P0;have hsz:es.size=ds.length:=by have:=iM P;simpa using this
 unfold setAdd;refine aAN (aAa (XQ hx A E s _ rfl (by lia) λtk xc=>?_));unfold setAddHashed setAddHashedIn;refine aAN (aAa<|aCl (s:={s with toks:=tk}) H J (kB K) ?_);dsimp only;rw[show byScan (.ref x) es=false from rfl];simp only[aAs,if_false];obtain⟨n0,hf⟩:=ST.ED K.full K.room (p7<|.tup xs);refine aAa (mY (s:={s with toks:=tk}) (n0:=n0) H J K mk.odd P hx C yc hT (by lia) hf (λn=>?_) (λn=>?_) 100000 0 none rfl (aBk _) ?_ (λm n=>by lia))
 .dsimp only;exact aAb (q1 n tk xc)
 .dsimp only;refine aAa (aCl (s:={s with toks:=tk}) H J (kB K) ?_);dsimp only;refine yT true (λU q=>pD 8 hx C _ _ _ _ _ rfl q) ?_;rw[i6 rfl];have ph:t.place.size+1<=t.mask:=by have:=K.len;simp at this;rcases mk with⟨a,k⟩|⟨a,k⟩|⟨a,k⟩<;>lia
  have p:=ST.aq K (x:=.ref x) hf ph;have el:=ST.gP es (t.put (ST.o8 t.mask (p7<|.tup xs) n0).j).2 (p7 (.tup xs),aDu x);have lp:(t.put (ST.o8 t.mask (p7<|.tup xs) n0).j).1.led=L/\(t.put (ST.o8 t.mask (p7<|.tup xs) n0).j).1.plain=true:=lp0;have em:(t.put (ST.o8 t.mask (p7<|.tup xs) n0).j).1.mask=t.mask:=rfl;rw[<-el]at p;have N:Paired (EV h0) (aGB es (t.put (ST.o8 t.mask (p7<|.tup xs) n0).j).2 (p7 (.tup xs),aDu x)).toList (ds.take (t.put (ST.o8 t.mask (p7<|.tup xs) n0).j).2++.tup xs::ds.drop (t.put (ST.o8 t.mask (p7<|.tup xs) n0).j).2):=by rw[el];exact rH ⟨B,rfl⟩ _ P0
  have O:=MB (D.tup xs) ds (t.put (ST.o8 t.mask (p7<|.tup xs) n0).j).2;generalize hds2:ds.take (t.put (ST.o8 t.mask (p7<|.tup xs) n0).j).2++.tup xs::ds.drop (t.put (ST.o8 t.mask (p7<|.tup xs) n0).j).2=oi at N O;generalize hes2:aGB es (t.put (ST.o8 t.mask (p7<|.tup xs) n0).j).2 (p7 (.tup xs),aDu x)=g at p N⊢;generalize ht2:(t.put (ST.o8 t.mask (p7<|.tup xs) n0).j).1=f at p em lp⊢;have uf:oi.Nodup:=O.nodup_iff.mpr (aAH.mpr ⟨n,nd⟩);have h:g.size=es.size+1:=by
   have h1:=iM N;have h2:=O.length_eq;simp at h1 h2
   lia
  have dg:g.size<=sizeLine:=by rw[h,aFv];lia
  refine aAa (wpAny_storeSet_of (s:={s with toks:=tk}) H J ?_ dg);have Y:=uG (es':=g) (t':=f) H J;have T:=nE s.heap S (aEC g f);have l:f.fill=g.size:=by have h1:=p.len;have h2:=p.tab.nod;unfold SetTable.fill;rw[h2];simp at h1⊢;lia
  refine lA (λxf=>?_) (λxf=>?_)
  .
   have rh:f.fill*5>=f.mask*3:=by
    have:f.tooFull=true:=by simpa using xf
    simpa[aGH]using this
   rw[l,em,h]at rh;obtain⟨M,hM,hM1,u⟩:∃M,SetTable.sizeAbove (SetTable.grown<|es.size+1)=M+1/\ST.nQ (M+1)/\xL M (es.size+1):=by
    rcases mk with⟨a,k⟩|⟨a,k⟩|⟨a,k⟩
    .have:es.size=4:=by lia
     rw[this];exact⟨31,by decide,ST.pz,.inr (.inl ⟨rfl,by lia⟩)⟩
    .have:es.size=18:=by lia
     rw[this];exact⟨127,by decide,ST.WA,.inr (.inr ⟨rfl,by lia⟩)⟩
    .lia
   unfold setRelay;refine aAa (aAa<|aCl (s:={s with heap:=s.heap.update S (aEC g f),toks:=tk}) Y rfl (kB p) ?_);dsimp only;rw[hM];refine lA (λz=>?_) (λ_=>?_)
   .exfalso;rcases u with⟨a,_⟩|⟨a,_⟩|⟨a,_⟩<;>(subst a;exact absurd z (by rw[aFv];decide))
   obtain⟨y,c,r1,r2,r3,r4,r5,r6,r7,r8,r9⟩:=ST.PV (finger:=f.finger) (moves:=f.movedTo M) (led:=f.led) (plain:=f.plain) hM1 g (by rw[h];rcases u with⟨a,k⟩|⟨a,k⟩|⟨a,k⟩<;>lia);have er:f.relaid (g.map (·.1)) (SetTable.grown<|es.size+1)=some (y,c):=by unfold SetTable.relaid;rw[hM];exact r1
   rw[er];have hre:∀{U:Array (Int×au)×eY->a9->Prop} {s':a9},U (c.filterMap (g[·]?),y) s'->av (bc prog w) A (do
     let es':=c.filterMap (g[·]?)
     if es'.size !=g.size then unsupported "internal:set-table-lost-an-element"
     pure (es',y)) U E s':=λ{U s'} qq=>by
    dsimp only;rw[ja (by simp[r2])];exact aAb qq
   refine aAa (hre ?_);dsimp only;generalize hes3:c.filterMap (g[·]?)=v at r2 r3 r4⊢;refine wpAny_storeSet_of (s:={s with heap:=s.heap.update S (aEC g f),toks:=tk}) Y rfl ?_ (by rw[r2];exact dg);refine aAb ?_;have ho3:=uG (es':=v) (t':=y) Y rfl;have sb3:=nE (s.heap.update S<|aEC g f) S (aEC v y);obtain⟨ds3,p3,P5⟩:=fF r3 N;exact q2 n _ tk ds3 xc (T.trans sb3) ⟨⟨_,v,_,y,ho3,hc,zl,I,rfl,r4,by rw[r5,r2,h];exact u,P5,by rw[r7];exact lp.1,by rw[r8];exact lp.2⟩,p3.nodup_iff.mpr uf⟩ (p3.trans O)
  .refine aAb ?_;refine q2 n _ tk oi xc T ⟨⟨_,g,_,f,Y,hc,zl,I,rfl,p,?_,N,lp⟩,uf⟩ O;have rh:¬f.fill*5>=f.mask*3:=λz=>xf (by simp[aGH,z]);rw[l,em,h]at rh;rw[em,h];rcases mk with⟨a,k⟩|⟨a,k⟩|⟨a,k⟩
   .exact .inl ⟨a,by lia⟩
   .exact .inr (.inl ⟨a,by lia⟩)
   .exact .inr (.inr ⟨a,by lia⟩)
 .have:=hf.1;have n:t.mask<=127:=by rcases mk with⟨a,_⟩|⟨a,_⟩|⟨a,_⟩<;>lia
  lia
end
section
variable{prog:be} {w:cq} {A:cp} {R:Result->a9->Prop} {I:bb} {fp wr:List bb} {G:Array GenState->Array GenState->Prop} {n:Nat} {P:Nat->au->Prop} {St:Nat->a9->Prop} {h0:cv}
def WG (h0:cv)(v:au)(d:D):Prop:=∃a b,v=.ref a/\d=.tup b/\D8 d<8/\HV h0 v d
def QX {L:Bool}(W:WalksS prog w A.in1 I fp wr G n P St)(S:bb)(qi:S∉fp)(Y:h0.get? S=none)(hw0:∀b∈wr,h0.get? b=none)
  (val:Nat->D) (x:∀i v,P i v->WG h0 v (val i)) (om:∀i<n,D8 (val i)<8/\∃ys,val i=.tup ys) {U:List D} (hU:∀i<n,val i∈U) (c:U.length<=75) (hu:A.units+200<dA):
  ∀(k i:Nat) (s:a9),n-i=k->i<=n->St i s->Keeps h0 s.heap->(∃ds,SetAt L h0 s.heap S ds/\∀d,d∈ds↔∃j<i,val j=d)->
   (∀s',Moved (S::wr) G s s'->(∃ds,SetAt L h0 s'.heap S ds/\∀d,d∈ds↔∃j<n,val j=d)->R (.ok (.ret .none)) s')->
   fu (bc prog w) A (.builtin "set.update.loop" ⟨[.ref S,.ref I],[]⟩) R s:=by
 have y:S∉wr:=λh=>qi (W.sub _ h);have kg:∀b∈wr,b∈S::wr:=λb c=>aAg _ c;intro k;induction k with
 |zero=>
  intro i s hk hi jn B hS N;have O:i=n:=by omega
  subst O;refine aBC F.entry_set_update_loop ?_;rw[aBg F.plain_set_update_loop _];show av _ A.in1 (ff (.ref I)>>=_) _ _ s;refine aAa (W.done s _ _ jn λs' g=>?_);show av _ A.in1 (ret Value.none) _ _ s';refine aAb (N s' (g.mono kg) ?_);obtain⟨ds,⟨⟨o,es,ep,t,ho,r⟩,Q⟩,l⟩:=hS;exact⟨ds,⟨⟨o,es,ep,t,g.heap S _ y ho,r⟩,Q⟩,l⟩
 |succ k ih=>
  intro i s hk hi jn B hS N;have ao:i<n:=by omega
  refine aBC F.entry_set_update_loop ?_;rw[aBg F.plain_set_update_loop _];show av _ A.in1 (ff (.ref I)>>=_) _ _ s;refine aAa (W.item i s _ _ ao jn λv s' hP lb g=>?_);obtain⟨ds,⟨⟨o,es,ep,t,ho,r⟩,Q⟩,l⟩:=hS;have jh:SetAt L h0 s'.heap S ds:=⟨⟨o,es,ep,t,g.heap S _ y ho,r⟩,Q⟩;have p:Keeps h0 s'.heap:=λb ob e=>g.heap b ob (λz=>by rw[hw0 b z]at e;cases e) (B b ob e);obtain⟨a,xs,rfl,T,C,hv⟩:=x i v hP;rw[T]at C hv;show av _ A.in1 (fo [aDu a] (setAdd S<|.ref a)>>=_) _ _ s';have f:∀e∈ds,D8 e<8/\∃ys,e=.tup ys:=λe E=>by obtain⟨j,H,ej⟩:=(l e).mp E;rw[<-ej];exact om j (by omega)
  refine aAa (aAN (kz jh p hv C (λe E=>(f e E).1) (λe E=>(f e E).2) (by rw[y7];omega) (by letI:DecidableEq D:=λa b=>aEb _;have:=ST.T5 (m:=U) Q (λd hd=>by obtain⟨j,H,e⟩:=(l d).mp hd;rw[<-e];exact hU j (by omega));omega) (λO tk J=>?_)<|λhni h' tk bg J hsb hS2 pm=>?_))
  .
   refine aAb ⟨aBT F.plain_set_update_loop _,ih (i+1) _ (by omega) ao (W.frame _ s' _ _ lb J λb c o e=>e) p ⟨ds,jh,λd=>?_⟩ λq nv xg=>?_⟩
   .rw[l];constructor
    .rintro⟨j,H,e⟩;exact⟨j,by omega,e⟩
    .rintro⟨j,H,e⟩;by_cases z:j=i
     .subst z;rw[T]at e;rw[e]at O;exact(l d).mp O
     .exact⟨j,by omega,e⟩
   .exact N q (aFx W.gtrans ((g.mono kg).then_heap J λb o c e=>e) nv) xg
  .have u:∀b,b≠S->h'.get? b=s'.heap.get? b:=λb c=>hsb.2 b c;refine aAb ⟨aBT F.plain_set_update_loop _,ih (i+1) _ (by omega) ao (W.frame _ s' _ _ lb J λb c o e=>?_) (λb o e=>?_) ⟨bg,hS2,λd=>?_⟩ λq nv xg=>?_⟩
   .rw[u b (λz:b=S=>qi (by rw[<-z];exact c))];exact e
   .show h'.get? b=some o;rw[u b (λz=>by subst z;rw[Y]at e;cases e)];exact p b o e
   .rw[pm.mem_iff,aAe,l];constructor
    .rintro(rfl|⟨j,H,e⟩)
     .exact⟨i,by omega,T⟩
     .exact⟨j,by omega,e⟩
    .rintro⟨j,H,e⟩;by_cases z:j=i
     .subst z;rw[T]at e;exact .inl e.symm
     .exact .inr ⟨j,by omega,e⟩
   .refine N q (aFx W.gtrans ((g.mono kg).then_heap J λb o c e=>?_) nv) xg;rw[u b (λz:b=S=>c (by rw[z];exact aAW))];exact e
end
section
variable{prog:be} {w:cq} {A:cp} {E:F5} {s:a9}
abbrev oC (led:Bool):Obj:={cls:=.type "set",dict:=none,data:=.set #[] 0 (.fresh 0 0 led)}
def KI (h0 h:cv)(S:bb)(led:Bool)(e:h.get? S=some (oC led)):SetAt led h0 h S []:=by
 refine⟨⟨_,#[],0,.fresh 0 0 led,e,rfl,rfl,rfl,rfl,⟨⟨λi k a=>?_,λj b=>?_,rfl⟩,ST.a1b,rfl,?_,λe c=>?_⟩,.inl ⟨rfl,aBk _⟩,.nil,rfl,rfl⟩,aDh⟩
 .exact absurd a (by show¬i<0;omega)
 .exact absurd b (by show¬j∈[];simp)
 .show 0<=7;omega
 .exact absurd c (by show¬e∈[];simp)
def zU (a:au){Q₁:F5}(h:Q₁ (.ref s.heap.objs.size) {s with heap:=s.heap.push (oC (!w.params.followText "set-order"))}):
  fu (bc prog w) A (.call (.builtin "set.__new__") ⟨[.type "set",a],[]⟩) (wants Q₁ E) s:=by
 refine codeAny_of_tree ?_;show av _ A.in1 (do checkBuiltinCall "set.__new__" ⟨[.type "set",a],[]⟩;again (.builtin "set.__new__" ⟨[.type "set",a],[]⟩)) _ _ s;refine aAa (aGn (F.newCall_set_1 a)<|aAb ⟨aBT F.plain_set_new _,aBC F.entry_set_new ?_⟩);rw[aBg F.plain_set_new _];unfold Builtin.«set.__new__» Builtin.Frozenset.newClass;have b:=sub_set_self;obtain⟨c,g,d,e,os⟩:=s;dsimp only
 wp_walk
 refine aFF (aAb ?_);dsimp only;simp only[newObj];exact aAa (wpAny_alloc<|aAb<|aAb h)
def AE {h0:cv}(m:Keeps h0 s.heap){l:bb}{its:Array au}{val:Nat->D}{Q:F5}(hh:A.handled=none)(hl:s.heap.IsList l its)
  (n:∀(i:Nat) (v:au),its[i]?=some v->WG h0 v (val i)) (om:∀i<its.size,D8 (val i)<8/\∃ys,val i=.tup ys) {U:List D} (hU:∀i<its.size,val i∈U) (g:U.length<=75) (hu:A.units+300<dA)
  (h:∀(h':cv) (tk:Nat) (ds:List D),SetAt (!w.params.followText "set-order") h0 h' s.heap.objs.size ds->(∀d,d∈ds↔∃j<its.size,val j=d)->Keeps s.heap h'->Q (.ref s.heap.objs.size) {s with heap:=h',toks:=tk}):
  av (bc prog w) A (call (.type "set") [.ref l]) Q E s:=by
 obtain⟨c,tl,Y⟩:=PySem.F.called_set.mro;have C:=PySem.F.called_set.made;have kg:=PySem.F.called_set.sub;refine wpAny_call (codeAny_of_tree ?_);show av _ _ (callAny (.type "set") _) _ _ _;refine aAb ⟨Code.quiet_builtin _ (by decide+kernel),aBC PySem.F.entry_type_call ?_⟩;rw[Around.under_plain (weight_type_call_type "set" [.ref l] []) rfl];have h1:=PySem.F.called_set.notType;have h2:=PySem.F.called_set.canCreate;have hct:=PySem.F.typeCall_set_1 (.ref l);repeat(any_goals(first|assumption|wp_step))
 refine aDQ (zU (.ref l) (E:=E) (Q₁:=λob ae=>∃led:Bool,led=!w.params.followText "set-order"/\ob=.ref s.heap.objs.size/\ae={s with heap:=s.heap.push (oC led)}) ⟨_,rfl,rfl,rfl⟩) λr ae p=>?_;cases r with
 |error e=>exact p
 |ok fl=>
  cases fl with
  |next=>exact p.elim
  |brk=>exact p.elim
  |cont=>exact p.elim
  |ret ob=>
   obtain⟨led,eL,rfl,rfl⟩:=p;have hS:(s.heap.push<|oC led).get? s.heap.objs.size=some (oC led):=aAq _ rfl;have hT:Shared.TypeIs {s with heap:=s.heap.push (oC led)} (.ref s.heap.objs.size) "set":=⟨_,hS,rfl⟩;have hli:=PySem.F.called_set.init.lookup;have hbi:=PySem.F.called_set.init.bind (.ref s.heap.objs.size);repeat(any_goals(first|assumption|wp_step))
   refine aDQ (codeAny_call_builtin (R:=wants (λr gg=>r=.none/\∃h' tk ds,gg={s with heap:=h',toks:=tk}/\SetAt (!w.params.followText "set-order") h0 h' s.heap.objs.size ds/\(∀d,d∈ds↔∃j<its.size,val j=d)/\Keeps s.heap h') E) PySem.F.called_set.init.plain PySem.F.entry_set_init<|check_set_init_1 hT ?_) λr0 gg a=>?_
   .obtain⟨ol,q,yg,nl,t⟩:=hl;obtain⟨ocls,k,H,f⟩:=ol;simp only at yg t;subst yg;subst t;have u:(s.heap.push<|oC led).get? l=some {cls:=.type "list",dict:=k,data:=.seq its nl,slots:=f}:=aAc _ q;have hsls:=PySem.F.sub_list_set;have hslf:=PySem.F.sub_list_frozenset;have af:(aCr "list"==aCr "dict")=false:=by decide
    have qc:(s.heap.push<|oC led).IsList l its:=⟨_,u,rfl,nl,rfl⟩;unfold Builtin.«set.__init__» noKeywords Builtin.Frozenset.updateFrom;generalize I:pyIter=PI
    wp_walk
    subst I;refine aDz qc (aAa<|aGe ?_);have x:l<s.heap.objs.size:=aAh q;have J:A.in1.in1.in1.handled=none:=by simp[hh]
    have y:l≠(s.heap.push<|oC led).objs.size:=by rw[aBJ];exact aAm (aBK x)
    have qi:s.heap.objs.size∉[(s.heap.push<|oC led).objs.size,l]:=by rw[aBJ];simp only[aAe,aAG,or_false,not_or];exact⟨aAm (aDK _),aCA x⟩
    have qd:∀b,s.heap.objs.size<=b->h0.get? b=none:=λb g=>by
     cases e:h0.get? b with
     |none=>rfl
     |some o=>have:=m b o e;rw[aEy g]at this;cases this
    refine QX (h0:=h0) ((Walks.list J _ l y its).toS) s.heap.objs.size qi (qd _<|aAj _) (λb g=>?hw) val n om hU g (by show A.units+1+1+200<dA;omega) (its.size-0) 0 _ (by omega) (aBk _) ⟨⟨_,aAq _ rfl,rfl,rfl⟩,(qc.push _)⟩ (λb o e=>aAc _ (aAc _<|m b o e)) ⟨[],KI _ _ _ led (aAc _ hS),λd=>?he⟩ ?hR
    case he=>exact⟨λz=>(by cases z),by rintro⟨j,hj,_⟩;exact(by omega)⟩
    case hw=>
     have jf:b=(s.heap.push<|oC led).objs.size:=by simpa using g
     subst jf;rw[aBJ];exact qd _ (Nat.le_succ _)
    case hR=>
     rintro⟨h',g',d',ym,L⟩ B ⟨ds,N,O⟩;have eg:g'=s.gens:=B.gens;have ed:d'=s.drawn:=B.drawn;have eo:L=s.os:=B.os;subst eg;subst ed;subst eo;refine aAb ?_;show av _ _ (ret Value.none) _ _ _;refine aAb ⟨rfl,h',ym,ds,rfl,(eL▸N),O,λb o e=>?_⟩;have g:=aAh e;have xp:b≠(s.heap.push<|oC led).objs.size:=by rw[aBJ];exact aAm (aBK g)
     exact B.heap b o (by simp only[aAe,aAG,or_false,not_or];exact⟨aAm g,xp⟩) (aAc _<|aAc _ e)
   .cases r0 with
    |error e=>exact a
    |ok T=>
     cases T with
     |next=>exact a.elim
     |brk=>exact a.elim
     |cont=>exact a.elim
     |ret r=>
      obtain⟨rfl,h',tk,ds,rfl,N,O,km⟩:=a;repeat(any_goals(first|assumption|wp_step))
      exact h _ _ _ N O km
end
end
section
variable [Tabs]
def a1m:D->R D
 |.lst a=>.ok (.lst a.reverse)
 |_=>.bad
def az {st:df}{p:Pos}{f:Ev->R D}(he:PB X a f)(hs:zw X (some st) λ_=>.ok (some (-1))){ops:au->au->List au}(ho:∀v u,subscripted (.Slice none none (some st) p) false v u=operate (ops v u) (getItem v u):=by intro _ _;with_unfolding_all rfl):PD X (.Subscript a (.Slice none none (some st) p) pos) (λρ=>(f ρ).bind a1m):=by
 refine tR λY s σ H Q I U O0 O ρ E q=>?_;dsimp only at q;refine Subscript_ (F6 (he Y s σ H (λx g=>∃h,f ρ=.ok (.lst h)/\Same H g/\B8 X.K g O x (.lst h)) I ⟨U,O0,O,ρ,E,?_⟩) λv t z9=>?_)
 .cases c:f ρ with
  |ex z=>rw[c]at q;exact q
  |bad=>rw[c]at q;exact q.elim
  |ok d=>
   rw[c,R.aa0]at q;cases d with
   |lst h=>exactλv g t y=>⟨h,rfl,t,y⟩
   |_=>exact aAk q
 .obtain⟨x,g,I1,y,h,ef,B,rb⟩:=z9;rw[ef,R.aa0]at q;refine wpAny_Slice (F6 (wU Y t σ g (λo m=>o=none/\m=g) I1 ⟨rfl,rfl⟩) λvl s2 ⟨l,m,I2,pl,c,C⟩=>?_);subst c C;refine F6 (wU Y s2 σ m (λo n=>o=none/\n=m) I2 ⟨rfl,rfl⟩) λvu s3 ⟨u,n,I3,pu,c,C⟩=>?_;subst c C;refine F6 (hs Y s3 σ n (λo J=>o=some (-1)/\Same n J) I3 ⟨U,O0,O,ρ,E.grow B,λH' s=>⟨rfl,s⟩⟩) λvk e ⟨k,J,I4,pk,c,L⟩=>?_;subst c;obtain⟨b,vs,rfl,hx,rr⟩:=(rb.same L).aa5;cases y;have N:Inv X Y σ J {e with heap:=e.heap.push {cls:=.type "slice",data:=.fields #[vl,vu,vk]}}:=I4.kept (t':=e.toks) λb ob q=>aAc _ q;obtain⟨its,r,ht,hz⟩:=N.list hx;have hlen:=r.length;show av (bc X.prog X.w) X.A (subscriptTail a (.Slice none none (some st) p) (.ref b)<|.ref e.heap.objs.size) (EP X Y σ Q) X.xe {e with heap:=e.heap.push {cls:=.type "slice",data:=.fields #[vl,vu,vk]}};refine tail_any ht.isList.typeIs aFq.lookup ?_ (ho _ _);refine wpAny_getItem_list_slice ht.isList (Heap.IsSliceOf.new ..) pl pu pk (by simp) ?_ (by rw[aAn];lia);rw[PySem.W.krv_pick];have T:=N.hok.fresh (aAj _);refine⟨.ref _,_,N.laid (t':=e.toks) (o:=.lst vs.reverse) (λb ob q=>aAc _ q) (aAj _) ?_,rfl,?_⟩
  .exact⟨by rw[aBV];exact hz,_,0,r.reverse,aAq _ rfl⟩
  .have E4:=(E.grow B).grow L;exact q _ _ ((B.trans L).trans (k7 T _)) (.lst (P9.of j7) (E4.fresh T) (rr.reverse.same<|k7 T _))
end
end DL
namespace SI
open PySem
theorem IG {α:Type}(next:Nat->Nat):∀(a k:Nat) (left:List α) (b:Array α),left.length=a->(aGG next a k left b).toList.Perm (b.toList++left)
 |0,k,left,b,h=>by have:left=[]:=aBD h;subst this;simp[aGG]
 |a+1,k,left,b,h=>by
  unfold aGG;have d:0<left.length:=by lia
  have c:next k%left.length<left.length:=aDP _ d
  rw[aAd c];dsimp only;refine(IG next a (k+1) _ _ (by rw[List.length_eraseIdx_of_lt c];lia)).trans ?_;rw[Array.toList_push,aFr];refine List.Perm.append_left _ ?_;have:∀(l:List α) (i:Nat) (h:i<l.length),(l[i]::l.eraseIdx i).Perm l:=by
   intro l;induction l with
   |nil=>intro i h;simp at h
   |cons x l e=>
    intro i h;cases i with
    |zero=>simp
    |succ i=>
     have f:i<l.length:=by simpa using h
     rw[aFw,List.getElem_cons_succ];exact(List.Perm.swap _ _ _).trans ((e i f).cons _)
  exact this left _ c
def vW {α:Type}(next:Nat->Nat)(xs:Array α):(i5 next xs).toList.Perm xs.toList:=by unfold i5;simpa using IG next xs.size 0 xs.toList #[] (by simp)
def walkL (w:cq)(S:bb)(es:Array (Int×au))(ep:Nat):List (Int×au):=if w.params.followText "set-order"=true then(i5 (w.params.setOrder S ep) es).toList else es.toList
def walkL_perm (w:cq)(S:bb)(es:Array (Int×au))(ep:Nat):(walkL w S es ep).Perm es.toList:=by
 unfold walkL;split
 .exact vW _ _
 .exact List.Perm.refl _
def slotAt (w:cq)(t:eY):Nat->Nat
 |0=>0
 |i+1=>if w.params.followText "set-order"=true then 0 else t.place.getD i 0+1
def R4 (h:cv)(w:cq)(it S:bb)(t:eY)(i n ep:Nat):Prop:=
 h.get? it=some {cls:=.type "set_iterator",dict:=none,data:=.fields #[d3 (slotAt w t i),d3 i,.ref S,d3 n,d3 ep],slots:=#[]}
def IsSet (h:cv)(S:bb)(es:Array (Int×au))(ep:Nat)(t:eY):Prop:=∃o,h.get? S=some o/\o.cls=.type "set"/\o.data=.set es ep t
namespace F
def entry_set_iter:entryFor table "set.__iter__"=some Builtin.«frozenset.__iter__»:=entryFor_alias (id':= "frozenset.__iter__") (by kernel_rfl) rfl (by decide+kernel) (by kernel_rfl)
def slot_seti_next:Slot "set_iterator" "__next__" "set_iterator.__next__":=
 .of (owner:= "set_iterator") (n:= "__next__") (by rw[aDv,aCq];kernel_rfl) (by decide+kernel) (by decide+kernel) (by decide+kernel)
  (by first|exact .inl (by decide+kernel)|exact .inr (by decide+kernel)) (by rw[aFh];kernel_rfl)
def entry_seti_next:entryFor table "set_iterator.__next__"=some Builtin.«set_iterator.__next__»:=entryFor_of_tree (by kernel_rfl)
def args_seti_next (a:au):argsOk "set_iterator.__next__" ⟨[a],[]⟩:=by unfold argsOk;kernel_rfl
def slot_seti_iter:Slot "set_iterator" "__iter__" "set_iterator.__iter__":=
 .of (owner:= "set_iterator") (n:= "__iter__") (by rw[aDv,aCq];kernel_rfl) (by decide+kernel) (by decide+kernel) (by decide+kernel)
  (by first|exact .inl (by decide+kernel)|exact .inr (by decide+kernel)) (by rw[aFh];kernel_rfl)
def entry_seti_iter:entryFor table "set_iterator.__iter__"=some Builtin.«dict_keyiterator.__iter__»:=entryFor_alias (id':= "dict_keyiterator.__iter__") (by kernel_rfl) rfl (by decide+kernel) (by kernel_rfl)
def args_seti_iter (a:au):argsOk "set_iterator.__iter__" ⟨[a],[]⟩:=by unfold argsOk;kernel_rfl
end F
section
variable{s:a9} {t:eY}
def JP {α:Type}{M:Model}{Q:α->a9->Prop}{c:Prop}[Decidable c]{a b:Sem α}(h:c)(k:av M A a Q E s):av M A (if c then a else b) Q E s:=by rw[i6 h];exact k
def yO (es:Array (Int×au))(a:t.plain=true):(!t.plain&&decide (es.size>1))=false:=by rw[a];rfl
def CN {Q:AD}(h:Q (w.params.followText "set-order") s):av (bc prog w) A setsByText Q E s:=by unfold setsByText;exact aAa (aFF<|aAb h)
def QH {Q:F5}(e:IsSet s.heap S es ep t)(b:t.fits es.size=true)(f:t.plain=true)
  (h:Q (.ref s.heap.objs.size) {s with heap:=s.heap.push {cls:=.type "set_iterator",dict:=none,data:=.fields #[d3 (slotAt w t 0),d3 (0:Nat),.ref S,d3 es.size,d3 ep],slots:=#[]}}):
  av (bc prog w) A (pyIter (.ref S)) Q E s:=by
 obtain⟨o,a,g,c⟩:=e;have d:s.TypeIs (.ref S) "set":=⟨o,a,g⟩;refine aEe d PySem.F.slot_set_iter (aBp PySem.F.slot_set_iter d F.entry_set_iter ?_ (PySem.F.args_set_iter_1 _));unfold Builtin.«frozenset.__iter__»;show av _ _ (aFy "__iter__" ⟨[.ref S],[]⟩>>=_) _ _ s;have k:aFy "__iter__" ⟨[.ref S],[]⟩=pure S:=rfl;rw[k];refine aAa (aAb ?_);unfold Builtin.Frozenset.sizeOf;refine aAa (aAa<|aEI a c b<|aAb ?_);refine aAa ?_;unfold setDrawn;refine aAa (aCl a c b<|aAa<|CN<|aAb ?_);show av _ _ (if(!w.params.followText "set-order"&&(!t.plain&&decide (es.size>1)))=true then _ else _) _ _ s;rw[yO es f,aGd];simp only[aAs,if_false];refine aAa (aAb<|aAa<|wpAny_setEpoch_of a c b ?_);refine aAa (aAX<|aAb ⟨_,rfl, "set_iterator",_,⟨_,aAq _ rfl,rfl⟩,F.slot_seti_next.lookup,?_⟩);simpa[slotAt]using h
def EK (a:ST.KQ xs):aDI xs 0=0:=by
 obtain⟨c,b,d⟩:=ST.cN a 0;by_cases h:aDI xs 0=0
 .exact h
 .exact absurd (b 0 (by lia) (by lia)) (by lia)
def FY (b:ST.KQ xs)(a:i<xs.size):aDI xs (xs.getD i 0+1)=i+1:=by
 have e:xs.getD i 0=xs[i]:=by simp[aFl,a]
 rw[e];obtain⟨g,d,f⟩:=ST.cN b (xs[i]+1);rcases Nat.lt_trichotomy (aDI xs<|xs[i]+1) (i+1)with q|q|q
 .have:=f i a (by lia);lia
 .exact q
 .have c:i+1<xs.size:=by lia
  have:=d (i+1) c q;have:=b i (i+1) a c (by lia)
  lia
def EN (t:eY)(a:ST.KQ t.place)(b:¬w.params.followText "set-order"=true)(c:i<=t.place.size):aDI t.place (slotAt w t i)=i:=by
 cases i with
 |zero=>exact EK a
 |succ i=>show aDI t.place (if w.params.followText "set-order"=true then 0 else t.place.getD i 0+1)=i+1;rw[ja b];exact FY a (by lia)
def AL {Q:Option (au×Nat)->a9->Prop}(p:IsSet s.heap S es ep t)(c:t.fits es.size=true)(q:t.plain=true)(r:¬w.params.followText "set-order"=true->t.led=true)(u:ST.KQ t.place)(H:i<=es.size)(d:∀e,(walkL w S es ep)[i]?=some e->Q (some (e.2,slotAt w t (i+1))) s)(k:i=es.size->Q none s):av (bc prog w) A (setNext S (slotAt w t i) i ep) Q E s:=by
 obtain⟨o,l,I,m⟩:=p;have v:t.place.size=es.size:=by simp only[aGs,aAP,beq_iff_eq,decide_eq_true_eq]at c;exact c.1
 unfold setNext;refine aAa (aCl l m c ?_);refine aAa (CN ?_);by_cases a:w.params.followText "set-order"=true
 .rw[i6 a,ja (by simp)];unfold setWalk;refine aAa (aAa<|aCl l m c<|aAa<|CN ?_);rw[i6 a];refine aAa (aFF<|aAb ?_);refine aAb ?_;have g:(walkL w S es ep)=(i5 (w.params.setOrder S ep) es).toList:=by unfold walkL;rw[i6 a]
  have h:slotAt w t i=slotAt w t (i+1):=by
   cases i with
   |zero=>show 0=if w.params.followText "set-order"=true then 0 else _;rw[i6 a]
   |succ i=>show(if w.params.followText "set-order"=true then 0 else _)=if w.params.followText "set-order"=true then 0 else _;rw[i6 a,i6 a]
  rw[g,aAD]at d;show Q (((i5 (w.params.setOrder S ep) es)[i]?).map λe=>(e.2,slotAt w t i)) s;cases e:(i5 (w.params.setOrder S ep) es)[i]? with
  |some x=>rw[h];exact d x e
  |none=>
   have n:(i5 (w.params.setOrder S ep) es).size=es.size:=by have:=(vW (w.params.setOrder S ep) es).length_eq;simpa using this
   have:=Array.getElem?_eq_none_iff.mp e;exact k (by lia)
 .rw[ja a];have y:¬(!t.plain&&decide (es.size>1))=true:=by rw[q];simp
  show av _ _ (if(!t.plain&&decide (es.size>1))=true then _ else _) _ _ s;rw[ja y];show av _ _ ((if(!t.led&&!es.isEmpty)=true then _ else _)>>=_) _ _ s;rw[ja (by rw[r a];simp)];refine aAa (aAb<|aAb ?_);rw[EN t u a (by lia)];have g:(walkL w S es ep)=es.toList:=by unfold walkL;rw[ja a]
  rw[g,aAD]at d;by_cases z:i<es.size
  .have f:es[i]?=some es[i]:=aAz z;have b:i<t.place.size:=by lia
   have B:t.place[i]?=some t.place[i]:=aAz b;have:=d _ f;rw[f,B];have C:slotAt w t (i+1)=t.place[i]+1:=by show(if w.params.followText "set-order"=true then 0 else t.place.getD i 0+1)=_;rw[ja a];simp[aFl,b]
   rw[C]at this;exact this
  .have f:es[i]?=none:=aBM (by lia);rw[f];exact k (by lia)
def T9 (h:R4 s.heap w it S t i n ep):s.TypeIs (.ref it) "set_iterator":=⟨_,h,rfl⟩
def OD {Q:Option au->a9->Prop}(a:R4 s.heap w it S t i es.size ep)(b:IsSet s.heap S es ep t)(c:t.fits es.size=true)(g:t.plain=true)(k:¬w.params.followText "set-order"=true->t.led=true)(l:ST.KQ t.place)(m:i<es.size)(h:∀e h',(walkL w S es ep)[i]?=some e->R4 h' w it S t (i+1) es.size ep->Heap.SameBut it s.heap h'->Q (some e.2) {s with heap:=h'}):av (bc prog w) A (ff (.ref it)) Q E s:=by
 have d:=T9 a;obtain⟨o,n,z,p⟩:=id b;unfold ff;refine aAa (aDY (aCb (name:=aCB "__next__") d F.slot_seti_next
  (aBp F.slot_seti_next d F.entry_seti_next ?_ (F.args_seti_next _))))
 refine aAa (aAb ?_);refine aAa (aGf a rfl ?_);show av _ _ (setEntries S>>=_) _ _ s;refine aAa (aEI n p c ?_);rw[ja (by simp)];show av _ _ (setNext S (aEJ (slotAt w t i:Int)) (aEJ (i:Int)) (aEJ (ep:Int))>>=_) _ _ s;rw[aAZ,aAZ,aAZ];refine aAa (AL b c g k l (aDt m) (λe q=>?_) λe=>by lia);show av _ _ (setField (.ref it) 0 (d3<|slotAt w t<|i+1)>>=_) _ _ s;refine aAa (aCd a (by simp) λr u v=>?_);show av _ _ (setField (.ref it) 1 (d3<|(i:Int)+1)>>=_) _ _ _;refine aAa (aCd (s:={s with heap:=r}) u (by simp) λf x y=>?_);refine aAb ⟨_,rfl,aAb (h e f q ?_ (v.trans y))⟩;have:f.get? it=some _:=x;unfold R4;rw[this];simp
def TW {Q:Option au->a9->Prop}(l:A.handled=none)(c:R4 s.heap w it S t es.size es.size ep)(d:IsSet s.heap S es ep t)(f:t.fits es.size=true)(n:t.plain=true)(p:¬w.params.followText "set-order"=true->t.led=true)(q:ST.KQ t.place)(h:∀h',Heap.ExtBut it s.heap h'->Q none {s with heap:=h'}):av (bc prog w) A (ff (.ref it)) Q E s:=by
 have g:=T9 c;obtain⟨o,r,y,u⟩:=id d;unfold ff;refine aAa (aDY (aCb (name:=aCB "__next__") g F.slot_seti_next
  (aBp F.slot_seti_next g F.entry_seti_next ?_ (F.args_seti_next _))))
 refine aAa (aAb ?_);refine aAa (aGf c rfl ?_);show av _ _ (setEntries S>>=_) _ _ s;refine aAa (aEI r u f ?_);rw[ja (by simp)];show av _ _ (setNext S (aEJ (slotAt w t es.size:Int)) (aEJ (es.size:Int)) (aEJ (ep:Int))>>=_) _ _ s;rw[aAZ,aAZ,aAZ];refine aAa (AL d f n p q (aAj _) (λe v=>?_) λ_=>?_)
 .have x:=(walkL_perm w S es ep).length_eq;have k:=(aAy.mp v).1;rw[x]at k;simp at k
 .show av _ _ (setField (.ref it) 2 .none>>=_) _ _ s;refine aAa (aGg c rfl (by simp) ?_);show av _ _ (newExc (.type "StopIteration") []>>=_) _ _ _;refine aAa ?_;simp only[newExc,newTuple];refine aAa (aAX ?_ (by size_fits));refine aAa (m:=firstArgMember _ _) (aGn (a:=Value.none) (by first|rfl|(simp only[firstArgMember];rfl)) ?_);refine aAX ?_ (by size_fits);simp only[raiseNew];refine aAa (wpAny_handled ?_);rw[show A.in1.handled=none from l];refine aAa (aAb<|wpAny_throw ?_);refine aAa (aDf (T:= "StopIteration") (b:=true) ⟨_,aAq _ rfl,rfl⟩ aGh ?_);exact aAb (h _<|((aEK ..).extBut.push _).push _)
def fV (x:IsSet h S es ep t)(e:∀o,h.get? S=some o->h'.get? S=some o):IsSet h' S es ep t:=let⟨o,a,r⟩:=x;⟨o,e o a,r⟩
end
section
def LD (p:A.handled=none)(I S:bb)(r:S≠I)(f:t.fits es.size=true)(g:t.plain=true)(k:¬w.params.followText "set-order"=true->t.led=true)(l:ST.KQ t.place):
  Walks prog w A I [I,S] [I] es.size (λi v=>∃e,(walkL w S es ep)[i]?=some e/\v=e.2) (λi h=>R4 h w I S t i es.size ep/\IsSet h S es ep t)where
 sub:=λb a=>by simp at a;simp[a]
 frame:=λ_ _ _ st m=>⟨m I (by simp) _ st.1,fV st.2 λo e=>m S (by simp) o e⟩
 item:=λi s Q E u st c=>OD st.1 st.2 f g k l u λe d x y n=>c e.2 d s.toks ⟨e,x,rfl⟩ ⟨y,fV st.2 λo q=>(n.2 S r).trans q⟩ λb o a q=>(n.2 b (λz=>a (by simp[z]))).trans q
 done:=λs Q E st c=>TW p st.1 st.2 f g k l λd B=>c d s.toks λb o a q=>B b o (λz=>a (by simp[z])) q
 self:=λi s Q E st c=>by refine aEe (T9 st.1) F.slot_seti_iter (aBp F.slot_seti_iter (T9 st.1) F.entry_seti_iter ?_ (F.args_seti_iter _));refine aAa (aAb<|aAb ⟨_,rfl, "set_iterator",_,T9 st.1,F.slot_seti_next.lookup,c⟩)
def collect_set {Q:List au->a9->Prop}(hh:A.handled=none)(hS:IsSet s.heap S es ep t)(hf:t.fits es.size=true)(hp:t.plain=true)(hl:¬w.params.followText "set-order"=true->t.led=true)(ha:ST.KQ t.place)(hn:es.size<=sizeLine)
  (hQ:∀h' tk,(∀b o,s.heap.get? b=some o->h'.get? b=some o)->Q ((walkL w S es ep).map (·.2)) {s with heap:=h',toks:=tk}):av (bc prog w) A (collect (.ref S)) Q E s:=by
 obtain⟨I,d,h,hdS⟩:=id hS;have hT:s.TypeIs (.ref S) "set":=⟨I,d,h⟩;have C:S<s.heap.objs.size:=aAh d;unfold collect;refine aAa (aGe<|aBC PySem.F.entry_proto_collect ?_);rw[aBg PySem.F.plain_proto_collect _];show av _ A.in1 (newList []>>=λl=>again (.builtin "list.__iadd__" ⟨[l,.ref S],[]⟩)) _ _ s;refine aAa (aAX ?_);refine aAb ⟨aBT PySem.F.plain_list_iadd _,aBC PySem.F.entry_list_iadd ?_⟩;rw[aBg PySem.F.plain_list_iadd _];generalize k:s.heap.push {cls:=.type "list",data:=.seq ([]:List au).toArray}=a;have f:∀b o,s.heap.get? b=some o->a.get? b=some o:=λb o e=>by rw[<-k];exact aAc _ e
 have c:a.objs.size=s.heap.objs.size+1:=by rw[<-k,aBJ]
 have J:a.get? s.heap.objs.size=some {cls:=.type "list",data:=.seq ([]:List au).toArray}:=by rw[<-k];exact aAq _ rfl
 have p:IsSet a S es ep t:=fV hS λo e=>f S o e;have L:Shared.TypeIs {s with heap:=a} (.ref S) "set":=⟨I,f _ _ d,h⟩;have q:aCY (.ref s.heap.objs.size) (.ref S)=false:=by simp[aCY,aCA C]
 show av _ A.in1 (aCe (.ref s.heap.objs.size) (.ref S)<|.ref s.heap.objs.size) _ _ _;unfold aCe;refine aAa (aDR L ?_);rw[ja (by rw[q];decide)];refine aAa (QH (s:={s with heap:=a}) p hf hp ?_);refine aAa (aAN ?_);generalize r:a.push {cls:=.type "set_iterator",dict:=none,data:=.fields #[d3 (slotAt w t 0),d3 (0:Nat),.ref S,d3 es.size,d3 ep],slots:=#[]}=n;have g:∀b o,a.get? b=some o->n.get? b=some o:=λb o e=>by rw[<-r];exact aAc _ e
 have N:R4 n w a.objs.size S t 0 es.size ep:=by rw[<-r];exact aAq _ rfl
 have O:IsSet n S es ep t:=fV p λo e=>g S o e;have m:Shared.TypeIs {s with heap:=n} (.ref S) "set":=⟨I,g _ _ (f _ _ d),h⟩;have u:=g _ _ J;unfold aCI;refine aAa (aBB m PySem.F.slot_set_len.lookup ?_)
 (generalize hid:("set.__len__":String)=v;(fail_if_success (clear hid v));wp_delta;rw[show splitId v=some ("set", "__len__")from by subst hid;decide+kernel];subst hid)
 refine aAa (aDf (b:=true) m (by rw[aFh];kernel_rfl) ?_);rw[ja (by decide)];refine JP (by decide+kernel) ?_
 .refine aAa (aDR m<|aAb ?_);rw[i6 (by decide)];show av _ A.in1 (rule "list.extend.makes-room">>=λ_=>aFK (.ref s.heap.objs.size)>>=λ_=>again (.builtin "list.extend.loop" ⟨[.ref s.heap.objs.size,.ref a.objs.size,.ref s.heap.objs.size],[]⟩)) _ _ _
  refine aAa (aDx ?_);refine aAa ?_;show av _ A.in1 (ik s.heap.objs.size (·.push .none)>>=λ_=>ik s.heap.objs.size (·.pop)) _ _ _;refine aAa (aCf u rfl ?_);have x:=aBh (aBI (·.push Value.none)) u rfl;refine aCf x rfl ?_;have T:=aBh (aBI (·.pop)) x rfl;have U:∀b o,b≠s.heap.objs.size->n.get? b=some o->((n.update s.heap.objs.size (aBI (·.push Value.none))).update s.heap.objs.size (aBI (·.pop))).get? b=some o:=
   λb o y e=>(aAE _ _<|aCi y).trans ((aAE _ _<|aCi y).trans e)
  have z:a.objs.size≠s.heap.objs.size:=by rw[c];lia
  have W:=(LD (prog:=prog) (w:=w) (A:=A.in1) (by simp[hh]) a.objs.size S (by rw[c];exact aAm (aBK C)) (es:=es) (ep:=ep) (t:=t) hf hp hl ha).toS;refine aAb ⟨aBT PySem.F.plain_extend_loop _,codeAny_extend_loopS W hn _ (by simp only[aAe,aAG,or_false,not_or];exact⟨aCi z,aCA C⟩) _ es.size 0 _ _ _ rfl (aBk _) ⟨U _ _ z N,fV O λo e=>U S o (aAm C) e⟩ T (ItemsOf.nil _) λB ir c' H jh Y=>?_⟩;show av _ A (load s.heap.objs.size>>=_) _ _ B;refine aAa (wpAny_load jh ?_);refine aAb ?_;have g0:B.gens=s.gens:=H.gens;have d0:B.drawn=s.drawn:=H.drawn;have o0:B.os=s.os:=H.os;have ea:ir.toList=(walkL w S es ep).map (·.2):=by
   have lh:=(walkL_perm w S es ep).length_eq;apply aDw;intro i;rw[aAF,aAD];by_cases hi:i<es.size
   .have vc:i<ir.size:=by rw[Y.1];exact hi
    obtain⟨e,he,hv⟩:=Y.2 i _ (aAz vc);rw[he,aAz vc,hv];rfl
   .rw[aBM (by rw[Y.1];lia),aEq (by rw[lh];simp;lia)];rfl
  obtain⟨h',g',d',ym,os'⟩:=B;subst g0 d0 o0;rw[ea];refine hQ h' ym λb o e=>?_;have y:b≠s.heap.objs.size:=aAm (aAh e);have xp:b≠a.objs.size:=by rw[c];exact aAm (aBK<|aAh e)
  exact H.heap b o (by simp only[aAe,aAG,or_false,not_or];exact⟨y,xp⟩) (U b o y<|g _ _<|f _ _ e)
end
end SI
namespace DL
open PySem PySem.Spec L2
open PyProof.Rows hiding St
def NJ:D->Bool
 |.int _=>true
 |_=>false
def Y5:D->Bool
 |.tup a=>!a.isEmpty&&a.all NJ
 |_=>false
def intD:D->Int
 |.int i=>i
 |_=>0
def flat:D->List Int
 |.tup a=>a.map intD
 |_=>[]
theorem NZ:∀{xs:List D},xs.all NJ=true->xs=(xs.map intD).map D.int
 |[],_=>rfl
 |x::xs,h=>by
  simp only[aGq,aAP]at h;cases x with
  |int i=>show D.int i::xs=D.int i::(xs.map intD).map D.int;rw[<-NZ h.2]
  |_=>cases h.1
def iU (h:Y5 d=true):flat d≠[]/\d=.tup ((flat d).map .int):=by
 cases d with
 |tup a=>simp only[Y5,aAP,Bool.not_eq_true',List.isEmpty_eq_false_iff]at h;refine⟨by simpa[flat]using h.1,?_⟩;show D.tup a=D.tup ((a.map intD).map D.int);rw[<-NZ h.2]
 |_=>cases h
def zH (h:Y5 d=true)(h':Y5 e=true)(q:flat d=flat e):d=e:=by rw[(iU h).2,(iU h').2,q]
theorem uE:∀l:List Int,gM (l.map D.int)=true
 |[]=>rfl
 |i::l=>by show(true&&gM (l.map D.int))=true;rw[uE l];rfl
def K3 (h:Y5 d=true):rN d=true:=by rw[(iU h).2];exact uE _
def IM (h:Y5 d=true):D8 d<8:=by
 rw[(iU h).2];have:∀l:List Int,C6 (l.map D.int)=0:=λl=>by
  induction l with
  |nil=>rfl
  |cons i l a=>show max 0 (C6<|l.map D.int)=0;rw[a];rfl
 show C6 _+1<8;rw[this];lia
def sV (d:D):List D->List D
 |[]=>[d]
 |x::a=>if flat d=flat x then x::a else if HT.lexLt (flat d) (flat x)=true then d::x::a else x::sV d a
def F9 (ds:List D):List D:=ds.foldr sV []
def SH (ds:List D):Prop:=ds.Pairwise λx y=>HT.lexLt (flat x) (flat y)=true
theorem jO:∀{xs:List D},e∈sV d xs->e=d\/e∈xs
 |[],h=>by rcases aAe.mp h with h|h;exact .inl h;cases h
 |x::xs,h=>by
  unfold sV at h;split at h
  .exact .inr h
  .split at h
   .rcases aAe.mp h with h|h
    .exact .inl h
    .exact .inr h
   .rcases aAe.mp h with h|h
    .exact .inr (by rw[h];exact .head _)
    .rcases jO h with h|h
     .exact .inl h
     .exact .inr (.tail _ h)
theorem BR:∀{xs:List D},e∈xs->e∈sV d xs
 |x::xs,h=>by
  unfold sV;split
  .exact h
  .split
   .exact .tail _ h
   .rcases aAe.mp h with h|h
    .rw[h];exact .head _
    .exact .tail _ (BR h)
theorem BH (a:Y5 d=true):∀{xs:List D},(∀x∈xs,Y5 x=true)->d∈sV d xs
 |[],_=>.head _
 |x::xs,h=>by
  unfold sV;split
  .rename_i q;rw[zH a (h x (.head _)) q];exact .head _
  .split
   .exact .head _
   .exact .tail _ (BH a λy b=>h y (.tail _ b))
theorem AY:∀{xs:List D},SH xs->SH (sV d xs)
 |[],_=>aDU _ _
 |x::xs,h=>by
  have b:=aAA.mp h;unfold sV;split
  .exact h
  .rename_i ne;split
   .rename_i lt;refine aAA.mpr ⟨λy a=>?_,h⟩;rcases aAe.mp a with rfl|a
    .exact lt
    .exact TS.lex_trans _ _ _ lt (b.1 y a)
   .rename_i c;refine aAA.mpr ⟨λy a=>?_,AY b.2⟩;rcases jO a with rfl|a
    .cases q:HT.lexLt (flat x) (flat y)with
     |true=>rfl
     |false=>exact absurd (TS.lex_total _ _ (by simpa using c) q) ne
    .exact b.1 y a
theorem N5:∀ds:List D,SH (F9 ds)
 |[]=>.nil
 |_::ds=>AY (N5 ds)
theorem zO:∀{ds:List D},(∀d∈ds,Y5 d=true)->∀d∈F9 ds,Y5 d=true
 |[],_,d,h=>by cases h
 |e::ds,h,d,hd=>by
  rcases jO hd with rfl|hd
  .exact h _ (.head _)
  .exact zO (λd hd=>h d (.tail _ hd)) d hd
theorem A0:∀{ds:List D},(∀d∈ds,Y5 d=true)->∀d,d∈F9 ds↔d∈ds
 |[],_,d=>Iff.rfl
 |e::ds,h,d=>by
  have a:∀d∈ds,Y5 d=true:=λd b=>h d (.tail _ b);constructor
  .intro q;rcases jO q with rfl|q
   .exact .head _
   .exact .tail _ ((A0 a d).mp q)
  .intro q;rcases aAe.mp q with rfl|q
   .exact BH (h _<|.head _) (zO a)
   .exact BR ((A0 a d).mpr q)
theorem bM:∀{xs b:List D},SH xs->SH b->(∀d,d∈xs↔d∈b)->xs=b
 |[],[],_,_,_=>rfl
 |[],y::b,_,_,h=>by have:=(h y).mpr (.head _);cases this
 |x::xs,[],_,_,h=>by have:=(h x).mp (.head _);cases this
 |x::xs,y::b,k,l,h=>by
  have c:=aAA.mp k;have e:=aAA.mp l;have a:∀d:D,HT.lexLt (flat d) (flat d)≠true:=λd q=>by rw[TS.lex_irrefl]at q;cases q
  have f:x=y:=by
   rcases aAe.mp ((h x).mp (.head _))with q|q
   .exact q
   .rcases aAe.mp ((h y).mpr (.head _))with g|g
    .exact g.symm
    .exact absurd (TS.lex_trans _ _ _ (e.1 x q)<|c.1 y g) (a y)
  subst f;congr 1;refine bM c.2 e.2 λd=>?_;constructor
  .intro q;rcases aAe.mp ((h d).mp (.tail _ q))with z|z
   .subst z;exact absurd (c.1 d q) (a d)
   .exact z
  .intro q;rcases aAe.mp ((h d).mpr (.tail _ q))with z|z
   .subst z;exact absurd (e.1 d q) (a d)
   .exact z
def vG (h:SH xs):xs.Nodup:=h.imp λ{x y} q z=>by subst z;rw[TS.lex_irrefl]at q;cases q
def zj:D->R (List D)
 |.lst a=>if a.all Y5=true/\(F9 a).length<=63 then .ok (F9 a)else .bad
 |_=>.bad
section
mutual
theorem W2 (I:Inv X Y σ H s):∀{v:V} {d:D} {u:au},Rep X.K H O v d->rN d=true->RelV v u->HV s.heap u d
 |_,_,_,.non,e,_=>by cases e
 |_,_,_,.bl,e,_=>by cases e
 |_,_,_,.str,e,_=>by cases e
 |_,_,_,.lst _ _ _,e,_=>by cases e
 |_,_,_,.dct _ _ _,e,_=>by cases e
 |_,_,_,.int,_,r=>by obtain⟨t,rfl⟩:=r;exact .int _ t
 |_,_,_,.tup h r,e,a=>by cases a;obtain⟨b,c,p,_⟩:=I.tuple h;exact .tup p (HM I r e c)
theorem HM (I:Inv X Y σ H s):∀{v:List V} {d:List D} {u:List au},Reps X.K H O v d->gM d=true->n8 v u->HVs s.heap u d
 |_,_,_,.nil,_,.nil=>.nil
 |_,_,_,.cons r t,e,.cons b c=>by have a:(rN _&&gM _)=true:=e;rw[aAP]at a;exact .cons (W2 I r a.1 b) (HM I t a.2 c)
end
end
variable [Tabs]
def a0x (w:cq)(o:Obj)(es:List au):Prop:=o.ExactSet/\∃a b t,o.data=.set a b t/\t.fits a.size=true/\t.plain=true/\t.led=!w.params.followText "set-order"/\ST.KQ t.place/\a.toList.map (·.2)=es
abbrev z6 (K:ka)(H:Hp)(O:bb->Prop):List au->List D->Prop:=Paired λu d=>∃v,RelV v u/\Rep K H O v d
theorem z6.of {K:ka}{H:Hp}{O:bb->Prop}:∀{vs:List V} {a:List au} {ds:List D},n8 vs a->Reps K H O vs ds->z6 K H O a ds
 |_,_,_,.nil,.nil=>.nil
 |_,_,_,.cons r t,.cons q u=>.cons ⟨_,r,q⟩ (z6.of t u)
theorem z6.ac0 {K:ka}{H:Hp}{O:bb->Prop}:∀{a:List au} {ds:List D},z6 K H O a ds->∃vs,n8 vs a/\Reps K H O vs ds
 |_,_,.nil=>⟨[],.nil,.nil⟩
 |_,_,.cons ⟨v,r,q⟩ t=>let⟨vs,b,c⟩:=z6.ac0 t;⟨v::vs,.cons r b,.cons q c⟩
def z6.same {K:ka}{H H':Hp}{O:bb->Prop}(s:Same H H'){a:List au}{ds:List D}(h:z6 K H O a ds):z6 K H' O a ds:=fK (by rintro _ _ ⟨v,r,q⟩;exact⟨v,r,q.same s⟩) h
theorem z6.get {K:ka}{H:Hp}{O:bb->Prop}:∀{a:List au} {ds:List D} {u:au},z6 K H O a ds->u∈a->∃d∈ds,∃v,RelV v u/\Rep K H O v d
 |_,_,_,.cons r t,h=>by
  rcases aAe.mp h with rfl|h
  .exact⟨_,.head _,r⟩
  .obtain⟨d,b,q⟩:=z6.get t h;exact⟨d,.tail _ b,q⟩
open Classical in
def T7 (K:ka) (H:Hp) (h:cv):cv:=PySem.W.hideAll h ((aAQ h.objs.size).filter λa=>decide (¬∃b,Z6 K H a b))
def bE (K:ka)(H:Hp)(h:cv):Keeps (T7 K H h) h:=λb o e=>PySem.W.of_hideAll _ e
open Classical in
def yL {K:ka}{H:Hp}{h:cv}{b:bb}{o:Obj}{xs:List V}(e:h.get? b=some o)(q:Z6 K H b xs):(T7 K H h).get? b=some o:=PySem.W.hideAll_get _ e λa=>by have:=(aCa.mp a).2;exact(of_decide_eq_true this) ⟨xs,q⟩
open Classical in
def CT {K:ka}{H:Hp}{h:cv}{b:bb}{o:Obj}(e:(T7 K H h).get? b=some o):∃xs,Z6 K H b xs:=by refine aDF λn=>?_;have a:=bE K H h b o e;have:(T7 K H h).get? b=none:=PySem.W.hideAll_none _ (aCa.mpr ⟨aBP.mpr (aAh a),decide_eq_true n⟩);rw[this]at e;cases e
section
mutual
theorem QW (I:Inv X Y σ H s):∀{v:V} {d:D} {u:au},Rep X.K H O v d->rN d=true->RelV v u->HV (T7 X.K H s.heap) u d
 |_,_,_,.non,e,_=>by cases e
 |_,_,_,.bl,e,_=>by cases e
 |_,_,_,.str,e,_=>by cases e
 |_,_,_,.lst _ _ _,e,_=>by cases e
 |_,_,_,.dct _ _ _,e,_=>by cases e
 |_,_,_,.int,_,r=>by obtain⟨t,rfl⟩:=r;exact .int _ t
 |_,_,_,.tup h r,e,a=>by cases a;obtain⟨b,f,⟨o,g,c,n,d⟩,_⟩:=I.tuple h;exact .tup ⟨o,yL g h,c,n,d⟩ (HE I r e f)
theorem HE (I:Inv X Y σ H s):∀{v:List V} {d:List D} {u:List au},Reps X.K H O v d->gM d=true->n8 v u->HVs (T7 X.K H s.heap) u d
 |_,_,_,.nil,_,.nil=>.nil
 |_,_,_,.cons r t,e,.cons b c=>by have a:(rN _&&gM _)=true:=e;rw[aAP]at a;exact .cons (QW I r a.1 b) (HE I t a.2 c)
end
mutual
theorem OY (I:Inv X Y σ H s):∀{u:au} {d:D},HV (T7 X.K H s.heap) u d->∃v,RelV v u/\Rep X.K H O v d
 |_,_,.int i t=>⟨.int i,⟨t,rfl⟩,.int⟩
 |_,_,.tup (a:=a) ⟨o,g,c,n,f⟩ r=>by obtain⟨h,q⟩:=CT g;obtain⟨k,l,m⟩:=z6.ac0 (HR I r);obtain⟨p,w,⟨y,b,_,z,e⟩,_⟩:=I.tuple q;rw[bE _ _ _ _ _ g]at b;cases b;rw[f]at e;injection e with x _;subst x;have:k=h:=l.inj (by simpa using w);subst this;exact⟨.ref a,rfl,.tup q m⟩
theorem HR (I:Inv X Y σ H s):∀{u:List au} {d:List D},HVs (T7 X.K H s.heap) u d->z6 X.K H O u d
 |_,_,.nil=>.nil
 |_,_,.cons r t=>.cons (OY I r) (HR I t)
end
end
section
def a1f (X:Cx)(B:D->Bool)(U:List D->List D)(f:Ev->R D):TE:=λσ H Q=>∃h k O ρ,EnvOk X.K h k H O σ ρ/\match f ρ with
 |.ok (.lst b)=>(b.all B=true/\(U b).length<=63)/\∀S o e c a,Same H a->a S=none->a0x X.w o e->z6 X.K a O e c->c.Nodup->(∀d,d∈c↔d∈b)->Q (.ref S) (upd a S<|.frz o (.own S))
 |.ex x=>∀g,Same H g->XW X x g
 |_=>False
def WK {B:D->Bool}{U:List D->List D}(hB:∀{d},B d=true->rN d=true/\D8 d<8/\∃L,d=.tup L)(hU:∀{ds:List D},(∀d∈ds,B d=true)->∀d,d∈U ds↔d∈ds)(ha:PB X e f)(hh:X.calm=true)(hu:X.A.units+300<dA)(hg:Gl X "set":=by rfl)(hm:X.mg "set"=none:=by assumption)(hv:cy "set"=some (.type "set"):=by decide+kernel)(he:a5 [e] X.env=(false,dC e X.env)::a5 [] X.env:=by rfl)(M9:(dq y (a5 [] X.env)).any (·.1)=false:=by rfl):
  PE X (.Call (.Name "set" p) [e] [] y) (a1f X B U f):=by
 refine tR λY s σ H Q I H9 O0 O ρ E q=>?_;refine aAO (M6 I hg hm hv ?_ (by decide) (by decide));have lg:PA X [e] _:=K0 ha bB he;refine aBn (F6 (lg y Y s σ H (λvs c=>∃v ds,vs=[v]/\f ρ=.ok (.lst ds)/\Same H c/\B8 X.K c O v (.lst ds)) I ⟨H9,O0,O,ρ,E,?_⟩) λus g z9=>?_) he M9
 .cases b:f ρ with
  |ex z=>rw[b]at q;exact q
  |bad=>rw[b]at q;exact q.elim
  |ok d=>
   rw[b]at q;cases d with
   |lst ds=>exactλv c g r1=>⟨v,ds,rfl,rfl,g,r1⟩
   |_=>exact q.elim
 .obtain⟨vs,c,l,r1,v,ds,ev,ef,sm,rb⟩:=z9;subst ev;rw[ef]at q;obtain⟨⟨hp,si⟩,q⟩:=q;obtain⟨a,ws,rfl,hS,rr⟩:=rb.aa5;obtain⟨u,rfl,ru⟩:=vals1 r1;cases ru;obtain⟨h,rv,⟨oL,nL,gL,cL,dL,sL⟩,zL⟩:=l.list hS;have pt:∀d∈ds,B d=true:=aBu.mp hp;have hlen:h.toArray.size=ds.length:=by rw[aAn,<-rv.length,rr.length]
  have st:z6 X.K c O h ds:=z6.of rv rr;have C:∀(i:Nat) (v:au),h.toArray[i]?=some v->WG (T7 X.K c g.heap) v (ds.getD i .non):=λi v m=>by
   rw[aCN]at m;obtain⟨d,n,w,oh,rp⟩:=J3 st m;have qo:ds.getD i .non=d:=by rw[aAi,n];rfl
   rw[qo];have hpt:=pt d (aAo n);obtain⟨N,hd8,L,rfl⟩:=hB hpt;have hv:=QW l rp N oh;cases hv with
   |tup p r=>exact⟨_,_,rfl,rfl,hd8,.tup p r⟩
  have vd:∀i<h.toArray.size,D8 (ds.getD i .non)<8/\∃L,ds.getD i .non=.tup L:=λi m=>by
   have J:i<ds.length:=by rw[<-hlen];exact m
   have b:ds.getD i .non=ds[i]:=by rw[aAi,aAd J];rfl
   rw[b];exact(hB<|pt _<|aBE J).2
  refine AE (bE X.K c g.heap) (val:=λi=>ds.getD i .non) (U:=U ds) (l.ok.hd hh) ⟨oL,gL,cL,nL,sL⟩ C vd (λi m=>?_) (by lia) hu λh' tk bg jh rf kp=>?_
  .have J:i<ds.length:=by rw[<-hlen];exact m
   rw[hU pt];have b:ds.getD i .non=ds[i]:=by rw[aAi,aAd J];rfl
   show ds.getD i .non∈ds;rw[b];exact aBE J
  .obtain⟨⟨o,x,ep,t,N,hc,zl,hsl,n,k,msk,pr,led,pl⟩,nd⟩:=jh;have mem:∀d,d∈bg↔d∈ds:=λd=>by
    rw[rf];constructor
    .rintro⟨j,T,b⟩;have ui:j<ds.length:=by rw[<-hlen];exact T
     have e2:ds.getD j .non=ds[j]:=by rw[aAi,aAd ui];rfl
     rw[<-b,e2];exact aBE ui
    .intro n;obtain⟨j,T,b⟩:=aBj n;refine⟨j,by rw[hlen];exact T,?_⟩;show ds.getD j .non=d;rw[aAi,aAd T,<-b];rfl
   have I2:=l.laid (a:=g.heap.objs.size) (o:=.frz o (.own g.heap.objs.size)) (h':=h') (t':=tk) kp (aAj _) ⟨N,o,N⟩;refine⟨.ref g.heap.objs.size,_,I2,rfl,q g.heap.objs.size o (x.toList.map (·.2)) bg c sm (l.hok.fresh<|aAj _) ⟨⟨hc,zl,hsl⟩,x,ep,t,n,?_,pl,led,k.tab.asc,rfl⟩ ?_ nd mem⟩
   .have h1:=k.len;have h2:=k.room;simp only[aGs,aAP,beq_iff_eq,decide_eq_true_eq];exact⟨by simpa using h1,by show t.place.size+t.dummies.size<=t.mask;rw[k.tab.nod];simpa using h2⟩
   .have:∀{x:List (Int×au)} {ds:List D},Paired (EV<|T7 X.K c g.heap) x ds->z6 X.K c O (x.map (·.2)) ds:=λ{x ds} p=>by
     induction p with
     |nil=>exact .nil
     |cons r _ ih=>exact .cons (OY l r.1) ih
    exact this pr
def yY (h:cv) (v:au):List Int:=open Classical in if p:∃d,Y5 d=true/\HV h v d then flat p.choose else[]
def X9 (b:Y5 d=true)(a:HV h v d):yY h v=flat d:=by unfold yY;have q:∃d,Y5 d=true/\HV h v d:=⟨d,b,a⟩;rw[dif_pos q,HV.inj q.choose_spec.2 a]
def dQ (e:Y5 d=true)(c:HV h v d):∃b items,v=.ref b/\IsTup h b items/\IntsAre items.toList (flat d):=by
 rw[(iU e).2]at c;cases c with
 |tup p r=>
  refine⟨_,_,rfl,p,?_⟩;have:∀{a:List au} {l:List Int},HVs h a (l.map D.int)->IntsAre a l:=λ{a l} r=>by
   induction l generalizing a with
   |nil=>cases r;exact .nil
   |cons i l f=>
    cases r with
    |cons r t=>cases r;exact .cons _ _ (f t)
  exact this r
def DK {prog:be}{w:cq}{A:cp}{E:F5}{s:a9}{x y:au}{d e:D}{f:Bool}{Q:AD}(c:Y5 d=true)(g:Y5 e=true)(h:HV s.heap x d)(k:HV s.heap y e)(q:Q (HT.lexLt (flat d) (flat e)) s):av (bc prog w) A (keyLt' (TS.tupK f) x y) Q E s:=by obtain⟨b,l,rfl,m,n⟩:=dQ c h;obtain⟨r,a,rfl,o,p⟩:=dQ g k;exact TS.lt_ints f m o n p q
def qJ {prog:be}{w:cq}{A:cp}{E:F5}{s:a9}{vs:List au}{Q:SortKind->a9->Prop}(h:∀x∈vs,∃d,Y5 d=true/\HV s.heap x d)(y:2<=vs.length)(q:Q (TS.tupK true) s):av (bc prog w) A (keyKind' vs.toArray) Q E s:=by
 obtain⟨f,m⟩:∃f:au->au,∀x∈vs,∃b a k t,x=.ref b/\IsTup s.heap b a/\a[0]?=some (f x)/\f x=.int k t:=by
  refine⟨λx=>open Classical in if z:∃p,∃b a k t,x=.ref b/\IsTup s.heap b a/\a[0]?=some p/\p=aGJ k t then z.choose else .none,λx n=>?_⟩;obtain⟨d,B,H⟩:=h x n;obtain⟨b,a,rfl,I,c⟩:=dQ B H;have C:=(iU B).1;have z:∃p,∃g a k t,aDu b=.ref g/\IsTup s.heap g a/\a[0]?=some p/\p=aGJ k t:=by
   cases e:a.toList with
   |nil=>rw[e]at c;generalize flat d=l at c C;cases c;exact absurd rfl C
   |cons p L=>
    rw[e]at c;generalize flat d=l at c;cases c with
    |cons k t N=>exact⟨_,b,a,k,t,rfl,I,by rw[<-aAD,e];rfl,rfl⟩
  dsimp only;rw[dif_pos z];obtain⟨g,J,k,t,o,r,u,v⟩:=z.choose_spec;exact⟨g,J,k,t,o,r,u,v⟩
 refine TS.kind_tuples (T:= "int") f (λx n=>?_) (λz=>by rw[z]at y;simp at y) (by decide) q;obtain⟨b,a,k,t,o,r,u,v⟩:=m x n;exact⟨b,a,o,r,u,by rw[v];exact typeIs_int s k t⟩
def cO {K:ka}{H:Hp}{O:bb->Prop}{n b:List au}{ds:List D}{key:au->List Int}(st:z6 K H O n ds)(C:b.Perm n)(E:b.Pairwise λx y=>HT.lexLt (key y) (key x)=false)(I:∀u d,(∃v,RelV v u/\Rep K H O v d)->d∈ds->key u=flat d)(pt:∀d∈ds,Y5 d=true)(J:ds.Nodup):
  ∃a,z6 K H O b a/\a.Perm ds/\SH a:=by
 obtain⟨a,k,m⟩:=fF C st;refine⟨a,m,k,?_⟩;have L:a.Nodup:=k.nodup_iff.mpr J;have o:∀d∈a,Y5 d=true:=λd c=>pt d (k.mem_iff.mp c);have p:∀u d,(∃v,RelV v u/\Rep K H O v d)->d∈a->key u=flat d:=λu d h c=>I u d h (k.mem_iff.mp c);clear C k st J pt I;induction m with
 |nil=>exact .nil
 |@cons u d n ds r t s=>
  have w:=aAA.mp E;have A:=aAH.mp L;refine aAA.mpr ⟨λe f=>?_,s w.2 A.2 (λd c=>o d (.tail _ c)) λu d h c=>p u d h (.tail _ c)⟩;have:∃g∈n,∃v,RelV v g/\Rep K H O v e:=by
   clear s E w A L o p r;induction t with
   |nil=>cases f
   |cons r t s=>
    rcases aAe.mp f with rfl|f
    .exact⟨_,.head _,r⟩
    .obtain⟨g,B,q⟩:=s f;exact⟨g,.tail _ B,q⟩
  obtain⟨g,B,q⟩:=this;have l:=w.1 g B;rw[p g e q (.tail _ f),p u d r (.head _)]at l;cases z:HT.lexLt (flat d) (flat e)with
  |true=>rfl
  |false=>have:=zH (o _<|.head _) (o _<|.tail _ f) (TS.lex_total _ _ z l);subst this;exact absurd f A.1
def W9 {p p2 fm:Pos}{f:Ev->R D}(ha:PB X e f)(hh:X.calm=true)(hu:X.A.units+300<dA)(hg:Gl X "set":=by rfl)(hm:X.mg "set"=none:=by assumption)(hg2:Gl X "sorted":=by rfl)(ku:X.mg "sorted"=none:=by assumption)
  (hv:cy "set"=some (.type "set"):=by decide+kernel) (hv2:cy "sorted"=some (.builtin "sorted"):=by decide+kernel)
  (he:a5 [e] X.env=(false,dC e X.env)::a5 [] X.env:=by rfl) (M9:(dq fm (a5 [] X.env)).any (·.1)=false:=by rfl)
  (lu:a5 [.Call (.Name "set" p2) [e] [] fm] X.env=(false,dC (.Call (.Name "set" p2) [e] [] fm) X.env)::a5 [] X.env:=by rfl) (xi:(dq pos (a5 [] X.env)).any (·.1)=false:=by rfl):
  PF X (.Call (.Name "sorted" p) [.Call (.Name "set" p2) [e] [] fm] [] pos) (λρ=>(f ρ).bind zj):=by
 refine tR λY s σ H Q I H9 O0 O ρ E q=>?_;dsimp only at q;refine aAO (M6 I hg2 ku hv2 ?_ (by decide) (by decide));have lg:PA X [.Call (.Name "set" p2) [e] [] fm] _:=K0 (WK (p:=p2) (B:=Y5) (U:=F9) (λh=>⟨K3 h,IM h,_,(iU h).2⟩) A0 ha hh hu hg hm hv he M9) bB lu;refine aBx (F6 (lg pos Y s σ H (λvs H2=>∃S o es g c N,vs=[.ref S]/\H2=upd N S (.frz o (.own S))/\f ρ=.ok (.lst c)/\(c.all Y5=true/\(F9 c).length<=63)/\Same H N/\N S=none/\a0x X.w o es/\z6 X.K N O es g/\g.Nodup/\(∀d,d∈g↔d∈c)) I ⟨H9,O0,O,ρ,E,?_⟩)
  λus s1 z=>?_) lu xi
 .cases e1:f ρ with
  |ex z=>rw[e1]at q;exact q
  |bad=>rw[e1]at q;exact q.elim
  |ok d=>
   rw[e1,R.aa0]at q;cases d with
   |lst c=>
    simp only[zj]at q;by_cases hc:c.all Y5=true/\(F9 c).length<=63
    .exact⟨hc,λS o es g N sm hS so st nd m=>⟨S,o,es,g,c,N,rfl,rfl,rfl,hc,sm,hS,so,st,nd,m⟩⟩
    .rw[ja hc]at q;exact q.elim
   |_=>exact q.elim
 .obtain⟨vs,H2,I2,r1,S,o,es,g,c,N,ev,eH,ef,⟨hp,si⟩,sm,hS1,so,st,nd,m⟩:=z;subst ev eH;obtain⟨u,rfl,ru⟩:=vals1 r1;cases ru;rw[ef,R.aa0]at q;simp only[zj]at q;rw[i6 ⟨hp,si⟩]at q;have pt:∀d∈c,Y5 d=true:=aBu.mp hp;have yn:∀d∈g,Y5 d=true:=λd L=>pt d ((m d).mp L);have s12:Same N (upd N S<|.frz o (.own S)):=k7 hS1 _;have ma:=st.same s12;obtain⟨hc,ea,ep,t,L,hf,hpln,led,asc,ees⟩:=so;have goS:=(I2.hok S _ j7).1;have hS2:SI.IsSet s1.heap S ea ep t:=⟨o,goS,hc.1,L⟩;have hsl:(F9 c).Perm g:=by
   letI:DecidableEq D:=λa b=>aEb _
   exact(aCL (vG<|N5 c) nd).mpr λd=>by rw[A0 pt,m]
  have hsz:ea.size=g.length:=by have:=st.length;rw[<-ees]at this;simpa using this
  have h63':g.length<=63:=by rw[<-hsl.length_eq];exact si
  have wp:=SI.walkL_perm X.w S ea ep;have wpv:((SI.walkL X.w S ea ep).map (·.2)).Perm es:=by rw[<-ees];exact wp.map _
  have r:∀u∈(SI.walkL X.w S ea ep).map (·.2),∃d,d∈g/\Y5 d=true/\HV s1.heap u d:=λu hu=>by obtain⟨d,L,v,rv,rp⟩:=ma.get (wpv.mem_iff.mp hu);exact⟨d,L,yn d L,W2 I2 rp (K3<|yn d L) rv⟩
  refine TS.sorted_keys (vs:=(SI.walkL X.w S ea ep).map (·.2)) (f:=true) (key:=yY s1.heap) (C:=λs'=>∃h' T,s'={s1 with heap:=h',toks:=T}/\∀b o,s1.heap.get? b=some o->h'.get? b=some o)
   (λ{Q'} hq=>SI.collect_set (by simp[I2.ok.hd hh]) hS2 hf hpln (λnb=>by rw[led];simpa using nb) asc (by rw[hsz];exact aAr h63' (by decide)) λh' T k=>hq _ ⟨h',T,rfl,k⟩)
   (λs' ⟨h',T,J,k⟩ s6 k6 x hx y hy prog w A E hA {Q} qq=>?_) (λh2 s' ⟨h',T,J,k⟩ s6 k6 A {Q} qq=>?_) (by rw[aAf,wp.length_eq,aBl,hsz];lia) λs' gm h' l ⟨h1,T,J,k⟩ pm zo k2 hl ⟨n,gl⟩=>?_
  .subst J;obtain⟨d,_,pd,om⟩:=r x hx;obtain⟨d',_,pd',qe⟩:=r y hy;rw[X9 pd om,X9 pd' qe]at qq;exact DK pd pd' (om.keeps λb o e _=>k6 b o (k b o e)) (qe.keeps λb o e _=>k6 b o (k b o e)) qq
  .subst J;refine qJ (λx hx=>?_) h2 qq;obtain⟨d,_,pd,om⟩:=r x hx;exact⟨d,pd,om.keeps λb o e _=>k6 b o (k b o e)⟩
  .subst J;obtain⟨oi,st3,p2,sr⟩:=cO (key:=yY s1.heap) ma (pm.trans wpv) zo (by rintro u d ⟨v,rv,rp⟩ L;exact X9 (yn d L) (W2 I2 rp (K3<|yn d L) rv)) yn nd;have e2:oi=F9 c:=bM sr (N5 c) λd=>by rw[p2.mem_iff,m,A0 pt]
   subst e2;obtain⟨wv,oh,rr⟩:=st3.ac0;have I2':=I2.kept (h':=h1) (t':=T) k;have I3:=I2'.laid (a:=l) (o:=.lst wv) (h':=h') (t':=T) k2 hl ⟨by rw[rr.length];exact aAr si (by decide),gm,n,oh,gl⟩;exact⟨.ref l,_,I3,rfl,q wv _ l (sm.trans s12) (I2'.hok.fresh hl) rr⟩
end
end DL
namespace SZ
open PySem
abbrev Zs (h:cv)(z TI TO:bb)(a b:au):Prop:=h.get? z=some {cls:=.type "zip",dict:=none,data:=.fields #[a,b,.bool false,.ref TI,.ref TO],slots:=#[]}
def zM (b:au):Prop:=b=.none\/∃a:Nat,b=d3 a
section
def alive {Q:Option Obj->a9->Prop}(h:Q (s.heap.get? c) s):av (bc prog w) A (loadIfAlive c) Q E s:=λΓ p _=>by unfold loadIfAlive;rw[Sem.wp_loadIfAlive];simpa using h
def oT {Q:AD}(hz:Zs s.heap z TI TO b c)(k:zM b)(e:Q true s)(f:∀h' d,Zs h' z TI TO b d->Heap.SameBut z s.heap h'->Q false {s with heap:=h'}):av (bc prog w) A (aBW (.ref z)) Q E s:=by
 unfold aBW;refine aAa (aCQ hz rfl (x:=b) rfl ?_);rcases k with rfl|⟨a,rfl⟩
 .exact aAb e
 .show av _ _ (loadIfAlive (aEJ (a:Int))>>=_) _ _ _;refine aAa (alive ?_);by_cases g:(s.heap.get?<|aEJ (a:Int)).isNone=true
  .rw[i6 g];exact aAb e
  .rw[ja g];refine aAa (aCQ hz rfl (x:=c) rfl ?_);by_cases h:(c !=aDy true)=true
   .rw[i6 h];refine aAa (aCd hz (by simp) λh' l m=>aAb (f h' (.bool true) l m))
   .rw[ja h];exact aAb (f s.heap c hz ⟨rfl,λ_ _=>rfl⟩)
def RH {Q:F5}(D:ZipApart z TI TO n p U l2)(hz:Zs s.heap z TI TO f0 f1)(ho:zM f0)(vf:gh s.heap TI (.ref n) (.ref p))(uh:gh s.heap TO a b)(h1:s.heap.IsListIter n U k)(h2:s.heap.IsListIter p l2 k)(qc:s.heap.IsList U xs)(lh:s.heap.IsList l2 ys)(hx:xs[k]?=some x)(hy:ys[k]?=some y)(hQ:∀h' T Y B a' b',Zs h' z TI TO Y B->zM Y->gh h' TO a' b'->h'.IsListIter n U (k+1)->h'.IsListIter p l2 (k+1)->s.heap.objs.size<=T->gh h' T x y->
   (∀c o,c≠z->c≠TO->c≠n->c≠p->s.heap.get? c=some o->h'.get? c=some o)->Q (.ref T) {s with heap:=h'}):
  av (bc prog w) A (Builtin.«zip.__next__» ⟨[.ref z],[]⟩) (λfin s'=>∃v,fin=.done (.ret v)/\Q v s') E s:=by
 show av _ _ (field (.ref z) 2>>=_) _ _ _;refine aAa (aCQ hz rfl (x:=.bool false) rfl ?_);show av _ _ (field (.ref z) 3>>=_) _ _ _;refine aAa (aCQ hz rfl (x:=.ref TI) rfl ?_);refine aAa (aBR vf rfl ?_);show av _ _ (aBW (.ref z)>>=_) _ _ _;refine aAa (oT hz ho ?_ λr B yo d=>?_)
 .simp only[if_true];refine aAa (aDx ?_);refine aAa (aCQ hz rfl (x:=.ref TO) rfl ?_);refine aAa (aCd hz (by simp) λr yo d=>?_);replace yo:Zs r z TI TO .ellipsis f1:=yo;refine aAa ?_;simp only[aEu,aEH,aCW,aEg];refine aAa (aAa<|wpAny_onRaise ?_);show av _ _ (aBS (.ref n)>>=_) _ _ _;refine aAa (aDk (h1.extBut d.extBut D.i1z) (qc.extBut d.extBut D.l1z) hx λjb C g=>aAb ?_);have t:gh jb TO a b:=g.extBut _ _ D.TOi1 (d.extBut _ _ D.TOz uh);refine aAa (aBR t rfl ?_);refine aAa (wpAny_updateSeq_pair t λaA h O=>?_);replace h:gh aA TO x b:=h;refine aAa (aEf<|aAb ?_);refine aAa (aAa<|wpAny_onRaise ?_);show av _ _ (aBS (.ref p)>>=_) _ _ _;refine aAa (aDk (((h2.extBut d.extBut D.i2z).extBut g.extBut D.i12.symm).extBut O.extBut D.TOi2.symm)
   (((lh.extBut d.extBut D.l2z).extBut g.extBut D.l2i1).extBut O.extBut D.l2TO) hy λH I l=>aAb ?_)
  have zu:gh H TO x b:=l.extBut _ _ D.TOi2 h;refine aAa (aBR zu rfl ?_);refine aAa (wpAny_updateSeq_pair zu λf zv m=>?_);replace zv:gh f TO x y:=zv;refine aAa (aEf<|aAb<|aAb ?_);refine aAa (aBR zv rfl ?_);refine aAa (aGc ?_);have J:f.objs.size=s.heap.objs.size:=by rw[m.1,l.1,O.1,g.1,d.1]
  have hz4:Zs f z TI TO .ellipsis f1:=m.extBut _ _ D.TOz.symm (l.extBut _ _ D.i2z.symm<|O.extBut _ _ D.TOz.symm<|g.extBut _ _ D.i1z.symm yo);have hk3:∀c o,c≠z->c≠TO->c≠n->c≠p->s.heap.get? c=some o->f.get? c=some o:=λc o q c2 c3 c4 e=>m.extBut _ _ c2 (l.extBut _ _ c4<|O.extBut _ _ c2<|g.extBut _ _ c3<|d.extBut _ _ q e)
  have h11:f.IsListIter n U (k+1):=((C.extBut O.extBut D.TOi1.symm).extBut l.extBut D.i12).extBut m.extBut D.TOi1.symm;have h21:f.IsListIter p l2 (k+1):=I.extBut m.extBut D.TOi2.symm;have u:z<f.objs.size:=aAh hz4;show av _ _ (aDJ (.ref z) (.ref f.objs.size)>>=_) _ _ _;refine aAa ?_;unfold aDJ;have hz6:Zs (f.push {cls:=.type "tuple",data:=.seq #[x,y]}) z TI TO .ellipsis f1:=aAc _ hz4;refine aAa (aCd hz6 (by simp) λaC L hs8=>?_);replace L:Zs aC z TI TO (d3 f.objs.size) f1:=L;refine aCd L (by simp) λaB N hs9=>?_;replace N:Zs aB z TI TO (d3 f.objs.size) (.bool false):=N;have up:∀c o,c≠z->f.get? c=some o->aB.get? c=some o:=λc o q e=>hs9.extBut _ _ q (hs8.extBut _ _ q<|aAc _ e);have hT0:gh aB f.objs.size x y:=hs9.extBut _ _ (aCA u) (hs8.extBut _ _ (aCA u)<|aAq _ rfl);refine aAb ⟨_,rfl,?_⟩;exact hQ aB f.objs.size _ _ x y N (.inr ⟨_,rfl⟩) (up _ _ D.TOz zv) (h11.at λo e=>up _ o D.i1z e) (h21.at λo e=>up _ o D.i2z e) (aEo J.symm) hT0 λc o q c2 c3 c4 e=>up c o q (hk3 c o q c2 c3 c4 e)
 .simp only[aAs,if_false];refine aAa ?_;show av _ _ (forIn (#[.ref n,.ref p]:Array au) _ _) _ _ _;rw[<-aCs];simp only[aCW,aEg];refine aAa (aAa<|aAN ?_);show av _ _ (aBS (.ref n)>>=_) _ _ _;refine aAa (aDk (h1.extBut d.extBut D.i1z) (qc.extBut d.extBut D.l1z) hx λjb C g=>aAb ?_);refine aAb ?_;refine aAa (aAa<|aAN ?_);show av _ _ (aBS (.ref p)>>=_) _ _ _;refine aAa (aDk ((h2.extBut d.extBut D.i2z).extBut g.extBut D.i12.symm) ((lh.extBut d.extBut D.l2z).extBut g.extBut D.l2i1) hy λH I l=>aAb ?_);refine aAb (aAb ?_);have J:H.objs.size=s.heap.objs.size:=by rw[l.1,g.1,d.1]
  have hz7:Zs H z TI TO f0 B:=l.extBut _ _ D.i2z.symm (g.extBut _ _ D.i1z.symm yo);have zu:gh H TO a b:=l.extBut _ _ D.TOi2 (g.extBut _ _ D.TOi1<|d.extBut _ _ D.TOz uh);have h12:H.IsListIter n U (k+1):=C.extBut l.extBut D.i12;show av _ _ (newTuple [x,y]>>=_) _ _ _;refine aAa (aGc ?_);refine aAb ⟨_,rfl,?_⟩;exact hQ _ H.objs.size _ _ a b (aAc _ hz7) ho (aAc _ zu) (h12.at λo e=>aAc _ e) (I.at λo e=>aAc _ e) (aEo J.symm) (aAq _ rfl)
   λc o q c2 c3 c4 e=>aAc _ (l.extBut _ _ c4<|g.extBut _ _ c3<|d.extBut _ _ q e)
def UY {Q:Fin->a9->Prop}(B:A.handled=none)(D:ZipApart z TI TO h n C H)(hz:Zs s.heap z TI TO T I)(U:zM T)(Y:gh s.heap TI (.ref h) (.ref n))(uh:gh s.heap TO a b)
  (J:s.heap.IsListIter h C k) (h2:s.heap.IsListIter n H k) (L:s.heap.IsList C xs) (lh:s.heap.IsList H ys) (N:xs[k]?=none)
  (hE:∀h' e,(∀c o,c≠z->c≠TO->c≠h->c≠n->s.heap.get? c=some o->h'.get? c=some o)->(∃o,h'.get? e=some o/\o.cls=.type "StopIteration")->E (.ref e) {s with heap:=h'}):
  av (bc prog w) A (Builtin.«zip.__next__» ⟨[.ref z],[]⟩) Q E s:=by
 show av _ _ (field (.ref z) 2>>=_) _ _ _;refine aAa (aCQ hz rfl (x:=.bool false) rfl ?_);show av _ _ (field (.ref z) 3>>=_) _ _ _;refine aAa (aCQ hz rfl (x:=.ref TI) rfl ?_);refine aAa (aBR Y rfl ?_);show av _ _ (aBW (.ref z)>>=_) _ _ _;refine aAa (oT hz U ?_ λd f1' p f=>?_)
 .simp only[if_true];refine aAa (aDx ?_);refine aAa (aCQ hz rfl (x:=.ref TO) rfl ?_);refine aAa (aCd hz (by simp) λd p f=>?_);replace p:Zs d z TI TO .ellipsis I:=p;refine aAa ?_;simp only[aEu,aEH,aCW,aEg];refine aAa (aAa<|wpAny_onRaise ?_);show av _ _ (aBS (.ref h)>>=_) _ _ _;refine aAa (wpAny_nextOf_list_end B (J.extBut f.extBut D.i1z) (L.extBut f.extBut D.l1z) N λt e q u=>?_);obtain⟨oe,g,l⟩:=u;have m:Zs t z TI TO .ellipsis I:=q _ _ D.i1z.symm p;have v:e≠z:=λx=>by subst x;rw[m]at g;cases g;simp at l
  exact aCd m (by simp) λaA _ O=>hE aA e (λc o r _ y _ x=>O.extBut _ _ r (q _ _ y<|f.extBut _ _ r x)) ⟨oe,O.extBut _ _ v g,l⟩
 .simp only[aAs,if_false];refine aAa ?_;show av _ _ (forIn (#[.ref h,.ref n]:Array au) _ _) _ _ _;rw[<-aCs];simp only[aCW,aEg];refine aAa (aAa<|aAN ?_);show av _ _ (aBS (.ref h)>>=_) _ _ _;exact aAa (wpAny_nextOf_list_end B (J.extBut f.extBut D.i1z) (L.extBut f.extBut D.l1z) N λt e q u=>hE t e (λc o r _ y _ x=>q _ _ y (f.extBut _ _ r x)) u)
end
def MR (z TI TO c d e f:bb)(xs k:Array au)(i:Nat)(h:cv):Prop:=
 (∃g l,Zs h z TI TO g l/\zM g)/\gh h TI (.ref c) (.ref d)/\(∃a b,gh h TO a b)/\h.IsListIter c e i/\h.IsListIter d f i/\h.IsList e xs/\h.IsList f k
section
variable{s:a9}
def MR.type (h:MR z TI TO b c d e xs f i s.heap):s.TypeIs (.ref z) "zip":=by obtain⟨⟨g,k,a,_⟩,_⟩:=h;exact⟨_,a,rfl⟩
def MR.keeps (x:MR z TI TO c d f g xs l i h)(k:∀b o,b∈[z,TI,TO,c,d,f,g]->h.get? b=some o->h'.get? b=some o):MR z TI TO c d f g xs l i h':=by obtain⟨⟨m,n,p,q⟩,r,⟨a,b,t⟩,u,v,w,y⟩:=x;exact⟨⟨m,n,k z _ (by simp) p,q⟩,k TI _ (by simp) r,⟨a,b,k TO _ (by simp) t⟩,u.at λo e=>k c o (by simp) e,v.at λo e=>k d o (by simp) e,w.at λo e=>k f o (by simp) e,y.at λo e=>k g o (by simp) e⟩
def RX {Q:Option au->a9->Prop}(D:ZipApart z TI TO h k n p)(hl:xs.size=d.size)(st:MR z TI TO h k n p xs d i s.heap)(C:i<xs.size)(H:∀h' T x y,xs[i]?=some x->d[i]?=some y->MR z TI TO h k n p xs d (i+1) h'->s.heap.objs.size<=T->gh h' T x y->(∀c o,c∉[z,TO,h,k]->s.heap.get? c=some o->h'.get? c=some o)->Q (some (.ref T)) {s with heap:=h'}):
  av (bc prog w) A (ff (.ref z)) Q E s:=by
 have q:=st.type;obtain⟨⟨f0,f1,I,J⟩,r,⟨a,b,L⟩,N,O,t,u⟩:=st;have v:xs[i]?=some xs[i]:=aAz C;have B:d[i]?=some (d[i]'(by lia)):=aAz (by lia);unfold ff;refine aAa (aDY (aCb (name:=aCB "__next__") q aEc
  (aBp aEc q F.entry_zip_next (RH D I J r L N O t u v B λh' T l m U Y e1 e2 e3 e4 e5 e6 e7 g=>aAb ?_)<|F.args_zip_next_1 _)))
 refine H h' T _ _ v B ⟨⟨l,m,e1,e2⟩,g _ _ D.TIz D.TITO D.TIi1 D.TIi2 r,⟨U,Y,e3⟩,e4,e5,t.at λo e=>g _ o D.l1z D.l1TO D.l1i1 D.l1i2 e,u.at λo e=>g _ o D.l2z D.l2TO D.l2i1 D.l2i2 e⟩ e6 e7 λc o f e=>?_;simp only[aAe,aAG,or_false,not_or]at f;exact g c o f.1 f.2.1 f.2.2.1 f.2.2.2 e
def OW {Q:Option au->a9->Prop}(k:A.handled=none)(D:ZipApart z TI TO f g l m)(st:MR z TI TO f g l m xs I xs.size s.heap)
  (n:∀h',(∀c o,c∉[z,TO,f,g]->s.heap.get? c=some o->h'.get? c=some o)->Q none {s with heap:=h'}):av (bc prog w) A (ff (.ref z)) Q E s:=by
 have h:=st.type;obtain⟨⟨J,L,p,q⟩,r,⟨a,b,t⟩,u,v,x,y⟩:=st;unfold ff;refine aAa (aDY (aCb (name:=aCB "__next__") h aEc
  (aBp aEc h F.entry_zip_next (UY (by simpa using k) D p q r t u v x y (aBM<|aAj _) λh' e B C=>?_)<|F.args_zip_next_1 _)))
 obtain⟨o,H,d⟩:=C;refine aAa (aDf (T:= "StopIteration") (b:=true) ⟨o,H,d⟩ aGh ?_);refine aAb (n _ λc o d e=>?_);simp only[aAe,aAG,or_false,not_or]at d;exact B c o d.1 d.2.1 d.2.2.1 d.2.2.2 e
def Pairs (h0:cv)(xs a B:Array au)(i:Nat)(h:cv)(off:List bb):Prop:=B.size=i/\∀(j:Nat) (v:au),B[j]?=some v->∃T x y,v=.ref T/\xs[j]?=some x/\a[j]?=some y/\gh h T x y/\T∉off/\h0.get? T=none
def NS (hh:A.handled=none)(D:ZipApart z TI TO g l O Q)(hl:xs.size=U.size)(hn:xs.size<=sizeLine)(S:bb)(qi:S∉[z,TI,TO,g,l,O,Q])(res:au)(h0:cv):
  ∀(k i:Nat) (s:a9) (B:Array au) (c:Nat),xs.size-i=k->i<=xs.size->(∀b o,b∉[z,TO,g,l,S]->h0.get? b=some o->s.heap.get? b=some o)->MR z TI TO g l O Q xs U i s.heap->s.heap.get? S=some {cls:=.type "list",dict:=none,data:=.seq B c,slots:=#[]}->Pairs h0 xs U B i s.heap [z,TO,g,l,S]->
  (∀h' L Y,(∀b o,b∉[z,TO,g,l,S]->s.heap.get? b=some o->h'.get? b=some o)->h'.get? S=some {cls:=.type "list",dict:=none,data:=.seq L Y,slots:=#[]}->Pairs h0 xs U L xs.size h' [z,TO,g,l,S]->R (.ok (.ret res)) {s with heap:=h'})->
  fu (bc prog w) A (.builtin "list.extend.loop" ⟨[.ref S,.ref z,res],[]⟩) R s:=by
 have C:S∉[z,TO,g,l]:=λh=>qi (by simp only[aAe,aAG,or_false]at h⊢;rcases h with h|h|h|h<;>simp[h]);have m:∀b,b∉[z,TO,g,l,S]->b∉[z,TO,g,l]:=λb h q=>h (by simp only[aAe,aAG,or_false]at q⊢;rcases q with q|q|q|q<;>simp[q]);intro k;induction k with
 |zero=>
  intro i s B c hk hi p N E n hR;have og:i=xs.size:=by lia
  subst og;refine aBC F.entry_extend_loop ?_;rw[aBg aDc _];show av _ A.in1 (ff (.ref z)>>=_) _ _ s;refine aAa (OW (by simpa using hh) D N λh' kp=>?_);refine aAb (hR h' B c (λb o d e=>kp b o (m b d) e) (kp S _ C E) ⟨n.1,λj v t=>?_⟩);obtain⟨T,x,y,e1,e2,e3,e4,u,e6⟩:=n.2 j v t;exact⟨T,x,y,e1,e2,e3,kp T _ (m T u) e4,u,e6⟩
 |succ k ih=>
  intro i s B c hk hi p N E n hR;have ao:i<xs.size:=by lia
  refine aBC F.entry_extend_loop ?_;rw[aBg aDc _];show av _ A.in1 (ff (.ref z)>>=_) _ _ s;refine aAa (RX D hl N ao λh' T x y hx hy lb hT hP kp=>?_);have jh:=kp S _ C E;have f:∀b o,s.heap.get? b=some o->T≠b:=λb o e q=>absurd (aAv (aAh e) hT) (by rw[q];exact aBo _);obtain⟨⟨f0,f1,hz,_⟩,_,⟨a,b,uh⟩,⟨o1,g1,_⟩,⟨o2,g2,_⟩,_⟩:=id N;have H:T∉[z,TO,g,l,S]:=by simp only[aAe,aAG,or_false,not_or];exact⟨f _ _ hz,f _ _ uh,f _ _ g1,f _ _ g2,f _ _ E⟩
  show av _ A.in1 (ik S (·.push (.ref T))>>=_) _ _ _;refine aAa ?_;have I:∀b o,b≠S->h'.get? b=some o->(h'.update S (aBI (·.push (.ref T)))).get? b=some o:=λb o d e=>(aAE _ _<|aCi d).trans e;have neS:∀b,b∈[z,TI,TO,g,l,O,Q]->b≠S:=λb d q=>qi (q▸d);refine aCf jh rfl (aAb ⟨aBT aDc _,ih (i+1) _ (B.push<|.ref T) _ (by lia) ao (λb o d e=>I b o (λq=>d (by simp[q])) (kp b o (m b d)<|p b o d e)) (lb.keeps λb o d e=>I b o (neS b d) e) (aBh _ jh rfl) ⟨by rw[Array.size_push,n.1],λj v t=>?_⟩ λh'' L Y kp' xg r=>?_⟩)
   (by rw[n.1];lia) (by show(B.push<|.ref T).size<=sizeLine+1;rw[Array.size_push,n.1];lia)
  .rw[Array.getElem?_push]at t;split at t
   .rename_i q;cases t;rw[n.1]at q;subst q;refine⟨T,x,y,rfl,hx,hy,I T _ (f _ _ E) hP,H,?_⟩;cases q0:h0.get? T with
    |none=>rfl
    |some o=>exact absurd rfl (f T o<|p T o H q0)
   .obtain⟨J,x',y',e1,e2,e3,e4,u,e6⟩:=n.2 j v t;have n5:J≠S:=λq=>u (by simp[q]);exact⟨J,x',y',e1,e2,e3,I J _ n5 (kp J _ (m J u) e4),u,e6⟩
  .refine hR h'' L Y (λb o d e=>kp' b o d (I b o (λq=>d (by simp[q]))<|kp b o (m b d) e)) xg r
end
section
def fE {Q:F5}(St:cv->Prop)(Y:∀d:a9,St d.heap->d.TypeIs (.ref I) T)(J:∀h h',St h->(∀b o,b≠s.heap.objs.size->h.get? b=some o->h'.get? b=some o)->St h')(v:I≠s.heap.objs.size)
  (n1:(aCr T==aCr "list")=false) (n2:(aCr T==aCr "tuple")=false) (n3:∀{M:Model} {A:cp} {E:F5} {s:a9} {Q:Fin->a9->Prop} {a b:Sem Fin},(room=true->av M A a Q E s)->(room=false->av M A b Q E s)->av M A (if(room||["set", "frozenset", "dict", "dict_keys", "dict_values", "dict_items"].any (aCr T==aCr ·))=true then a else b) Q E s)
  (l:∀(d:a9) (Q:F5) (E:F5),St d.heap->Q (.ref I) d->av (bc prog w) A.in1.in1 (pyIter (.ref I)) Q E d)
  (hint:∀(d:a9) (Q:AD) (E:F5),St d.heap->Q room d->av (bc prog w) A.in1.in1 (aCI (.ref I)) Q E d) (jn:St s.heap)
  (f:∀(t:cv) (c:Nat) (R:Result->a9->Prop),(∀b o,s.heap.get? b=some o->t.get? b=some o)->St t->t.get? s.heap.objs.size=some {cls:=.type "list",dict:=none,data:=.seq #[] c,slots:=#[]}->(∀s',Q (.ref s.heap.objs.size) s'->R (.ok (.ret .none)) s')->
   fu (bc prog w) A.in1 (.builtin "list.extend.loop" ⟨[.ref s.heap.objs.size,.ref I,.none],[]⟩) R {s with heap:=t}):
  av (bc prog w) A (call (.type "list") [.ref I]) Q E s:=by
 refine callType_codes (Q₁:=λm L=>m=.ref s.heap.objs.size/\L={s with heap:=s.heap.push {cls:=.type "list",data:=.seq #[]}}) F.called_list (F.typeCall_list_1 _) F.entry_list_init
  (code_list_new _ ⟨rfl,rfl⟩) λm L n=>?_
 obtain⟨rfl,rfl⟩:=n;have u:(s.heap.push {cls:=.type "list",data:=.seq #[]}).get? s.heap.objs.size=some {cls:=.type "list",data:=.seq #[]}:=aAq _ rfl;have N:∀b o,s.heap.get? b=some o->b≠s.heap.objs.size:=λb o e=>aAm (aAh e);refine⟨⟨_,u,rfl⟩,F.args_list_init_2 _ _,?_⟩;show av _ A.in1.in1 (do let x<-aCJ (.ref s.heap.objs.size);Builtin.List.listUpdate (.ref s.heap.objs.size) (λ_=>#[]);letGo x.toList.reverse;aCe (.ref s.heap.objs.size) (.ref I) .none) _ _ _;refine aAa ?_;unfold aCJ;refine aAa (aBR u rfl<|aAb ?_);show av _ A.in1.in1 (ik s.heap.objs.size (λ_=>#[])>>=λ_=>letGo (#[]:Array au).toList.reverse>>=λ_=>aCe (.ref s.heap.objs.size) (.ref I) .none) _ _ _;refine aAa (aCf u rfl ?_);have k:=aBh (aBI<|λ_=>(#[]:Array au)) u rfl;refine aAa (aEf ?_);generalize y:(s.heap.push {cls:=.type "list",data:=.seq #[]}).update s.heap.objs.size (aBI<|λ_=>(#[]:Array au))=g at*
 have z:∀b o,s.heap.get? b=some o->g.get? b=some o:=λb o e=>by rw[<-y];exact(aAE _ _<|aCi<|N b o e).trans (aAc _ e)
 have p:St g:=J s.heap g jn λb o _ e=>z b o e;have B:aCY (.ref s.heap.objs.size) (.ref I)=false:=by simp[aCY,aCi v]
 have C:Shared.TypeIs {s with heap:=g} (.ref I) T:=Y {s with heap:=g} p;unfold aCe;refine aAa (aDR C ?_);simp only[B,n1,n2,Bool.or_false,aAs,if_false];refine aAa (l _ _ _ p ?_);refine aAa (aAN<|hint _ _ _ p ?_);refine n3 (λ_=>?_) (λ_=>?_)
 .show av _ A.in1.in1 (rule "list.extend.makes-room">>=λ_=>aFK (.ref s.heap.objs.size)>>=λ_=>again (.builtin "list.extend.loop" ⟨[.ref s.heap.objs.size,.ref I,.none],[]⟩)) _ _ _;refine aAa (aDx ?_);refine aAa ?_;show av _ A.in1.in1 (ik s.heap.objs.size (·.push .none)>>=λ_=>ik s.heap.objs.size (·.pop)) _ _ _;refine aAa (aCf k rfl ?_);have r:=aBh (aBI (·.push Value.none)) k rfl;refine aCf (hz:=by seq_fits) r rfl ?_;have H:=aBh (aBI (·.pop)) r rfl;have O:∀b o,b≠s.heap.objs.size->g.get? b=some o->((g.update s.heap.objs.size (aBI (·.push Value.none))).update s.heap.objs.size (aBI (·.pop))).get? b=some o:=
   λb o U e=>(aAE _ _<|aCi U).trans ((aAE _ _<|aCi U).trans e)
  exact aAb ⟨aBT aDc _,f _ _ _ (λb o e=>O b o (N b o e) (z b o e)) (J g _ p O) H λs' q=>⟨rfl,q⟩⟩
 .exact aAb ⟨aBT aDc _,f _ _ _ z p k λs' q=>⟨rfl,q⟩⟩
def JS:typeLookup (.type "zip") "__len__"=pure none:=by rw[aDv,aCq];kernel_rfl
def DR:typeLookup (.type "zip") "__length_hint__"=pure none:=by rw[aDv,aCq];kernel_rfl
def OM {Q:F5}(y:A.handled=none)(D:ZipApart z TI TO f g l m)(C:xs.size=n.size)(H:xs.size<=sizeLine)(st:MR z TI TO f g l m xs n 0 s.heap)(I:∀h' B c,(∀b o,b∉[z,TO,f,g]->s.heap.get? b=some o->h'.get? b=some o)->h'.get? s.heap.objs.size=some {cls:=.type "list",dict:=none,data:=.seq B c,slots:=#[]}->Pairs s.heap xs n B xs.size h' [z,TO,f,g,s.heap.objs.size]->Q (.ref s.heap.objs.size) {s with heap:=h'}):
  av (bc prog w) A (call (.type "list") [.ref z]) Q E s:=by
 have lt:∀b∈[z,TI,TO,f,g,l,m],b≠s.heap.objs.size:=λb d=>by
  obtain⟨⟨J,L,r,_⟩,N,⟨a,b',O⟩,⟨o1,U,_⟩,⟨o2,Y,_⟩,⟨o3,g3,_⟩,⟨o4,g4,_⟩⟩:=st;simp only[aAe,aAG,or_false]at d;rcases d with rfl|rfl|rfl|rfl|rfl|rfl|rfl
  .exact aAm (aAh r)
  .exact aAm (aAh N)
  .exact aAm (aAh O)
  .exact aAm (aAh U)
  .exact aAm (aAh Y)
  .exact aAm (aAh g3)
  .exact aAm (aAh g4)
 refine fE (T:= "zip") (room:=true) (MR z TI TO f g l m xs n 0) (λp h=>h.type) (λh h' x k=>x.keeps λb o d e=>k b o (lt b d) e) (lt z (by simp)) (by decide) (by decide) (λt h2=>by rw[i6 (by decide)];exact t rfl)
  (λp Q E x q=>?_) (λp Q E x q=>?_) st λt c R u oM hS hR=>?_
 .obtain⟨⟨J,L,r,_⟩,_⟩:=id x;refine aEe x.type F.slot_zip_iter (aBp F.slot_zip_iter x.type F.entry_zip_iter ?_ (F.args_zip_iter_1 _));show av _ _ (ret<|.ref z) _ _ p;exact aAb ⟨_,rfl, "zip",_,x.type,aEc.lookup,q⟩
 .unfold aCI;refine aAa (aBB x.type JS ?_);show av _ _ (specialOf (aDu z) (aCB "__length_hint__")>>=_) _ _ _;exact aAa (aBB x.type DR<|aAb q)
 .refine NS (by simpa using y) D C H s.heap.objs.size (λh=>lt _ h rfl) .none s.heap xs.size 0 _ #[] c (by lia) (aBk _) (λb o _ e=>u b o e) oM hS ⟨rfl,λj v h=>by simp at h⟩ λh' ir c' kp jh hP=>hR _ (I h' ir c' (λb o d e=>kp b o ?_ (u b o e)) jh hP);have:=aAm (aAh e);simp only[aAe,aAG,or_false,not_or]at d⊢;exact⟨d.1,d.2.1,d.2.2.1,d.2.2.2,this⟩
def LJ:typeLookup (.type "list_reverseiterator") "__len__"=pure none:=by rw[aDv,aCq];kernel_rfl
def NA:typeLookup (.type "list_reverseiterator") "__length_hint__"=pure (some (.builtin "list_reverseiterator.__length_hint__")):=by rw[aDv,aCq];kernel_rfl
def MP {Q:F5}(H:A.handled=none)(I:l≠r)(J:xs.size<=sizeLine)(t:s.heap.IsRevIter r l ((xs.size:Int)-1))(u:s.heap.IsList l xs)(L:∀h' tk c,(∀b o,b≠r->s.heap.get? b=some o->h'.get? b=some o)->h'.get? s.heap.objs.size=some {cls:=.type "list",dict:=none,data:=.seq xs.reverse c,slots:=#[]}->Q (.ref s.heap.objs.size) {s with heap:=h',toks:=tk}):
  av (bc prog w) A (call (.type "list") [.ref r]) Q E s:=by
 have m:r≠s.heap.objs.size:=by obtain⟨o,g,_⟩:=t;exact aAm (aAh g)
 have v:l≠s.heap.objs.size:=by obtain⟨o,g,_⟩:=u;exact aAm (aAh g)
 refine fE (T:= "list_reverseiterator") (room:=false) (λh=>h.IsRevIter r l ((xs.size:Int)-1)/\h.IsList l xs) (λy h=>h.1.typeIs) (λh h' x k=>⟨x.1.at λo e=>k r o m e,x.2.at λo e=>k l o v e⟩) m (by decide) (by decide)
  (λN O=>by rw[ja (by decide)];exact O rfl) (λy Q E x q=>wpAny_pyIter_revIter x.1 q) (λy Q E x q=>?_) ⟨t,u⟩ λN c R U oM Y hR=>?_
 .have n:=x.1.typeIs;unfold aCI;refine aAa (aBB n LJ ?_);show av _ _ (specialOf (aDu r) (aCB "__length_hint__")>>=_) _ _ _;refine aAa (aBB n NA ?_)
  (generalize hid:("list_reverseiterator.__length_hint__":String)=a;(fail_if_success (clear hid a));wp_delta;rw[show splitId a=some ("list_reverseiterator", "__length_hint__")from by subst hid;decide+kernel];subst hid)
  refine aAa (aDf (b:=true) n (by rw[aFh];kernel_rfl) ?_);exact aAb q
 .have W:=(Walks.listRev (prog:=prog) (w:=w) (A:=A.in1.in1) (by simp[H]) r l I xs).toS;refine codeAny_extend_loopS W J s.heap.objs.size (by simp only[aAe,aAG,or_false,not_or];exact⟨aCi m,aCi v⟩) .none xs.size 0 _ #[] c (by lia) (aBk _) ⟨aBk _,by simpa using oM.1,oM.2⟩ Y (ItemsOf.nil _) λd z c' f jh p=>hR _ ?_;have ea:z=xs.reverse:=by
   apply Array.ext';apply aDw;intro i;rw[aAD,aAD];by_cases B:i<xs.size
   .have C:i<z.size:=by rw[p.1];exact B
    have:=p.2 i _ (aAz C);rw[aAz C,Array.getElem?_reverse B,this]
   .rw[aBM (by rw[p.1];lia),aBM (by simp;lia)]
  subst ea;have g0:d.gens=s.gens:=f.gens;have d0:d.drawn=s.drawn:=f.drawn;have o0:d.os=s.os:=f.os;obtain⟨h',g',d',ym,os'⟩:=d;subst g0 d0 o0;refine L h' ym c' (λb o hb e=>?_) jh;exact f.heap b o (by simp only[aAe,aAG,or_false,not_or];exact⟨aAm (aAh e),hb⟩) (U b o e)
end
end SZ
namespace DL
open PySem PySem.Spec L2
open PyProof.Rows hiding St
section
variable [Tabs]
section
def a0l:D->R (List D)
 |.lst a=>.ok a.reverse
 |_=>.bad
def DX (ha:PB X e f)(hh:X.calm=true)(hg:Gl X "reversed":=by rfl)(hm:X.mg "reversed"=none:=by assumption)(C:Gl X "list":=by rfl)(ku:X.mg "list"=none:=by assumption)(hv:cy "reversed"=some (.type "reversed"):=by decide+kernel)(J:cy "list"=some (.type "list"):=by decide+kernel)(he:a5 [e] X.env=(false,dC e X.env)::a5 [] X.env:=by rfl)(M9:(dq m (a5 [] X.env)).any (·.1)=false:=by rfl)(lu:a5 [.Call (.Name "reversed" L) [e] [] m] X.env=(false,dC (.Call (.Name "reversed" L) [e] [] m) X.env)::a5 [] X.env:=by rfl)(xi:(dq k (a5 [] X.env)).any (·.1)=false:=by rfl)(N:dq k (a5 [] X.env)=[]:=by rfl):
  PF X (.Call (.Name "list" p) [.Call (.Name "reversed" L) [e] [] m] [] k) (λρ=>(f ρ).bind a0l):=by
 refine tR λY s σ H Q I H9 O0 O ρ E q=>?_;dsimp only at q;refine aAO (M6 I C ku J ?_ (by decide) (by decide));refine aBn ?_ lu xi;rw[lu];show av _ _ (spliced ((false,dC (.Call (.Name "reversed" L) [e] [] m) X.env)::dq k (a5 [] X.env))) _ _ s;refine aFb (aAO (M6 I hg hm hv ?_ (by decide) (by decide)));have lg:PA X [e] _:=K0 ha bB he;refine aBn (F6 (lg m Y s σ H (λl n=>∃v w,l=[v]/\f ρ=.ok (.lst w)/\Same H n/\B8 X.K n O v (.lst w)) I ⟨H9,O0,O,ρ,E,?_⟩) λB h z9=>?_) he M9
 .cases T:f ρ with
  |ex z=>rw[T]at q;exact q
  |bad=>rw[T]at q;exact q.elim
  |ok d=>
   rw[T,R.aa0]at q;cases d with
   |lst w=>exactλv n h U=>⟨v,w,rfl,rfl,h,U⟩
   |_=>exact aAk q
 .obtain⟨l,n,x,U,v,w,ev,ef,sm,rb⟩:=z9;subst ev;rw[ef,R.aa0]at q;obtain⟨a,ws,rfl,hS,rr⟩:=rb.aa5;obtain⟨u,rfl,ru⟩:=vals1 U;cases ru;obtain⟨g,rv,⟨oL,nL,gL,cL,dL,sL⟩,zL⟩:=x.list hS;have hl:h.heap.IsList a g.toArray:=⟨oL,gL,cL,nL,sL⟩;refine call_reversed_list hl ?_;rw[N];refine aFo ?_;have ge:a≠h.heap.objs.size:=aAm (aAh gL);have I2:=x.kept (h':=h.heap.push (revObj a<|(g.toArray.size:Int)-1)) (t':=h.toks) λb u e=>aAc _ e;refine SZ.MP (s:={h with heap:=h.heap.push (revObj a<|(g.toArray.size:Int)-1)}) (x.ok.hd hh) ge (by rw[aAn,<-rv.length];exact zL) ⟨_,aAq _ rfl,rfl,rfl⟩ (hl.push _) λh' tk c kp gl=>?_;have kk:∀b u,h.heap.get? b=some u->h'.get? b=some u:=λb u e=>kp b u (aAm<|aAh e) (aAc _ e);have y:h.heap.objs.size<=(h.heap.push<|revObj a<|(g.toArray.size:Int)-1).objs.size:=by rw[aBJ];lia
  have A:n8 ws.reverse g.reverse:=by
   have:∀{l:List V} {B:List au},n8 l B->n8 l.reverse B.reverse:=λ{l B} r=>by
    induction r with
    |nil=>exact .nil
    |cons r t ih=>rw[aAK,aAK];exact ih.append (.cons r .nil)
   exact this rv
  have I3:=x.laid (a:=(h.heap.push<|revObj a<|(g.toArray.size:Int)-1).objs.size) (o:=.lst ws.reverse) (h':=h') (t':=tk) kk y ⟨by rw[aBV];exact zL,g.reverse,c,A,by rw[gl];simp⟩;exact⟨.ref _,_,I3,rfl,q ws.reverse n _ sm (x.hok.fresh y) rr.reverse⟩
def _root_.L2.Inv.ae0 (I:Inv X Y σ H s)(k:∀b u,s.heap.get? b=some u->h'.get? b=some u)(a:Same H Hn)(d:∀b u,H b=none->Hn b=some u->s.heap.get? b=none/\ObjOk X.prog X.w Hn h' b u):
  Inv X Y σ Hn {s with heap:=h',toks:=t'}:=by
 refine I.un ⟨λb o e _ _ _=>k b o e,λb o e _ _ _=>⟨o.slots,k b o e⟩,λb o e n _=>?_,λb o e _=>⟨o,k b o e⟩,λb g e=>a _ _ e,λb o u e=>a _ _ e,λb h e=>a _ _ e⟩ λb u e=>?_
 .cases q:Hn b with
  |none=>rfl
  |some u=>rw[(d b u n q).1]at e;cases e
 .cases q:H b with
  |none=>exact(d b u q e).2
  |some f=>have:=a b f q;rw[e]at this;cases this;exact(I.hok b u q).ab7 (λc v _ z=>k c v z) (λc z=>a _ _ z) λc u _ z=>a _ _ z
def lW (xs c:List D):List D:=List.zipWith (λa b=>D.tup [a,b]) xs c
def XN:List D->R (List D)
 |[.lst a,.lst b]=>if a.length=b.length then .ok (lW a b)else .bad
 |_=>.bad
def LS {K:ka}{h:Hp}{O:bb->Prop}{h0 h':cv}{l:bb}(hf:∀b,h0.get? b=none->h b=none):∀{xs f:List D} {m p B:List au},z6 K h O m xs->z6 K h O p f->xs.length=f.length->
  (∀(j:Nat) (v:au),B[j]?=some v->∃T x y,v=.ref T/\m[j]?=some x/\p[j]?=some y/\gh h' T x y/\T≠l/\h0.get? T=none)->B.length=xs.length->
  ∃(vs:List V) (Hn:Hp),n8 vs B/\Same h Hn/\(∀b u,h b=none->Hn b=some u->h0.get? b=none/\b≠l/\∃ws its,u=.tup ws/\ws.length<=2/\n8 ws its/\IsTup h' b its.toArray)/\Reps K Hn O vs (lW xs f):=by
 intro xs f m p B;induction B generalizing xs f m p with
 |nil=>
  intro s t z _ A;cases xs with
  |nil=>cases f with
   |nil=>exact⟨[],h,.nil,Same.refl _,λb u n q=>(by rw[n]at q;cases q),.nil⟩
   |cons _ _=>cases z
  |cons _ _=>cases A
 |cons v B ih=>
  intro s t z hP A;cases s with
  |nil=>cases A
  |@cons u d m xs rx s=>
   cases t with
   |nil=>cases z
   |@cons J d' p f ry t=>
    obtain⟨T,x,y,rfl,ex,ey,hp,nl,r⟩:=hP 0 v rfl;cases ex;cases ey;obtain⟨vs,Hn,r1,k,L,rr⟩:=ih s t (by simpa using z) (λj v hj=>by obtain⟨T,x,y,e1,N,e3,e4⟩:=hP (j+1) v (by simpa using hj);exact⟨T,x,y,e1,by simpa using N,by simpa using e3,e4⟩) (by simpa using A)
    obtain⟨C,Q,c⟩:=rx;obtain⟨E,U,e⟩:=ry;have v2:n8 [C,E] [u,J]:=.cons Q (.cons U .nil);cases q:Hn T with
    |none=>
     have H:Same Hn (upd Hn T<|.tup [C,E]):=k7 q _;refine⟨.ref T::vs,upd Hn T (.tup [C,E]),.cons rfl r1,k.trans H,λb w n I=>?_,.cons (.tup (Z6.of j7) (.cons ((c.same k).same H) (.cons ((e.same k).same H) .nil))) (rr.same H)⟩;by_cases hb:b=T
     .subst hb;rw[j7]at I;cases I;exact⟨r,nl,_,_,rfl,by simp,v2,⟨_,hp,rfl,0,rfl⟩⟩
     .rw[m8 hb]at I;exact L b w n I
    |some w=>
     obtain⟨_,_,ws,its,rfl,_,vw,⟨o,g,_,n,dd⟩⟩:=L T w (hf T r) q;have Y:h'.get? T=some {cls:=.type "tuple",data:=.seq #[u,J]}:=hp;rw[Y]at g;cases g;have N:its=[u,J]:=by have:=jk (λd=>match d with|Data.seq a _=>a.toList|_=>[]) dd;simpa using this.symm
     subst N;have:ws=[C,E]:=vw.inj v2;subst this;exact⟨.ref T::vs,Hn,.cons rfl r1,k,L,.cons (.tup (Z6.of q) (.cons (c.same k) (.cons (e.same k) .nil))) rr⟩
def DQ {e1 e2:df}{p p2 N:Pos}{U f2:Ev->R D}(ha1:PB X e1 U)(ha2:PB X e2 f2)(hh:X.calm=true)(hg:Gl X "zip":=by rfl)(hm:X.mg "zip"=none:=by assumption)(hg2:Gl X "list":=by rfl)(ku:X.mg "list"=none:=by assumption)
  (hv:cy "zip"=some (.type "zip"):=by decide+kernel) (hv2:cy "list"=some (.type "list"):=by decide+kernel)
  (he1:a5 [e2] X.env=(false,dC e2 X.env)::a5 [] X.env:=by rfl) (he:a5 [e1,e2] X.env=(false,dC e1 X.env)::a5 [e2] X.env:=by rfl) (M9:(dq N (a5 [e2] X.env)).any (·.1)=false:=by rfl)
  (lu:a5 [.Call (.Name "zip" p2) [e1,e2] [] N] X.env=(false,dC (.Call (.Name "zip" p2) [e1,e2] [] N) X.env)::a5 [] X.env:=by rfl) (xi:(dq w (a5 [] X.env)).any (·.1)=false:=by rfl) (hnl:dq w (a5 [] X.env)=[]:=by rfl):
  PF X (.Call (.Name "list" p) [.Call (.Name "zip" p2) [e1,e2] [] N] [] w) (λρ=>(t5 U (t5 f2 T8) ρ).bind XN):=by
 refine tR λY s σ H Q I H9 O0 O ρ E q=>?_;dsimp only at q;refine aAO (M6 I hg2 ku hv2 ?_ (by decide) (by decide));refine aBn ?_ lu xi;rw[lu];show av _ _ (spliced ((false,dC (.Call (.Name "zip" p2) [e1,e2] [] N) X.env)::dq w (a5 [] X.env))) _ _ s;refine aFb (aAO (M6 I hg hm hv ?_ (by decide) (by decide)));have lg:cj X [e1,e2] (t5 U<|t5 f2 T8):=o9 ha1 (o9 ha2 w8 he1) he;refine aBn (F6 (lg N Y s σ H (λr t=>∃v1 v2 f g,r=[v1,v2]/\t5 U (t5 f2 T8) ρ=.ok [.lst f,.lst g]/\f.length=g.length/\Same H t/\B8 X.K t O v1 (.lst f)/\B8 X.K t O v2 (.lst g)) I ⟨H9,O0,O,ρ,E,?_⟩) λus d z9=>?_) he M9
 .cases e1:t5 U (t5 f2 T8) ρ with
  |ex z=>rw[e1]at q;exact q
  |bad=>rw[e1]at q;exact q.elim
  |ok ds=>
   rw[e1,R.aa0]at q;match ds,q with
   |[.lst f,.lst g],q=>
    simp only[XN]at q;by_cases hc:f.length=g.length
    .intro r t d A;cases A with
     |cons ra A=>cases A with
      |cons rb A=>cases A with
       |nil=>exact⟨_,_,f,g,rfl,rfl,hc,d,ra,rb⟩
    .rw[ja hc]at q;exact aAk q
 .obtain⟨r,t,I1,A,v1,v2,f,g,ev,ef,C,sm,rb1,rb2⟩:=z9;subst ev;rw[ef,R.aa0]at q;simp only[XN]at q;rw[i6 C]at q;obtain⟨a,wx,rfl,hSx,rx⟩:=rb1.aa5;obtain⟨b,wy,rfl,hSy,ry⟩:=rb2.aa5;obtain⟨u1,u2,rfl,ru1,ru2⟩:=vals2 A;cases ru1;cases ru2;obtain⟨J,h,⟨oX,nX,gX,cX,dX,sX⟩,zX⟩:=I1.list hSx;obtain⟨L,rvy,⟨oY,nY,gY,cY,dY,sY⟩,zY⟩:=I1.list hSy;have hlx:d.heap.IsList a J.toArray:=⟨oX,gX,cX,nX,sX⟩;have hly:d.heap.IsList b L.toArray:=⟨oY,gY,cY,nY,sY⟩;refine call_zip_2 hlx hly λk z1 z2 z3 z4 z5 zsz k1=>?_;rw[hnl];refine aFo ?_;have lx:J.length=f.length:=by rw[<-h.length,rx.length]
  have ly:L.length=g.length:=by rw[<-rvy.length,ry.length]
  have I2:=I1.kept (h':=k) (t':=d.toks) k1;have D:=zipApart_new (n:=d.heap.objs.size) (aAh gX) (aAh gY);refine SZ.OM (s:={d with heap:=k}) (I1.ok.hd hh) D (by rw[aAn,aAn,lx,ly,C]) (by rw[aAn,<-h.length];exact zX) ⟨⟨_,_,z1,.inl rfl⟩,z2,⟨_,_,z3⟩,z4,z5,hlx.at λo e=>k1 _ o e,hly.at λo e=>k1 _ o e⟩ λh' B c kp gl hP=>?_;have k12:∀b u,d.heap.get? b=some u->h'.get? b=some u:=λb u e=>kp b u (by have m:=aAh e;simp only[aAe,aAG,or_false,not_or];exact⟨aAm (aAv m<|aFG _ _),aAm (aAv m<|aFG _ _),aAm m,aAm (aAv m<|aFG _ _)⟩) (k1 b u e)
  have sx:z6 X.K t O J f:=z6.of h rx;have sy:z6 X.K t O L g:=z6.of rvy ry;obtain⟨r,Hn,rva,smn,oa,rr⟩:=LS (h0:=k) (h':=h') (l:=k.objs.size) (λb m=>by
   cases q:t b with
   |none=>rfl
   |some u=>exact absurd m ((I2.hok b u q).live)) (B:=B.toList) sx sy C (λj v hj=>by
   obtain⟨T,x,y,e1,e2,e3,e4,e5,e6⟩:=hP.2 j v (by rw[<-aAD];exact hj);exact⟨T,x,y,e1,by simpa using e2,by simpa using e3,e4,λz=>e5 (by simp[z]),e6⟩) (by rw[aBl,hP.1,aAn,lx])
  have hls:Hn k.objs.size=none:=by
   cases q:Hn k.objs.size with
   |none=>rfl
   |some u=>have:=(oa _ u (I2.hok.fresh<|aAj _) q).2.1;exact absurd rfl this
  have hlen:r.length<=sizeLine:=by rw[rva.length,aBl,hP.1,aAn,<-h.length];exact zX
  have s3:Same Hn (upd Hn k.objs.size<|.lst r):=k7 hls _;have I3:=I1.ae0 (Hn:=upd Hn k.objs.size (.lst r)) (h':=h') (t':=d.toks) k12 (smn.trans s3) (λb u n qb=>by
   by_cases m:b=k.objs.size
   .subst m;rw[j7]at qb;cases qb;refine⟨aEy (by rw[zsz];lia),hlen,B.toList,c,rva,by rw[gl]⟩
   .rw[m8 m]at qb;obtain⟨h0b,_,ws,its,rfl,l2,vw,tt⟩:=oa b u n qb;refine⟨?_,aAr l2 (by decide),its,vw,tt⟩;cases z:d.heap.get? b with
    |none=>rfl
    |some o=>rw[k1 b o z]at h0b;cases h0b)
  exact⟨.ref _,_,I3,rfl,q r Hn _ (sm.trans smn) hls rr⟩
end
mutual
def mR:D->Nat
 |.tup a=>M3 a+1
 |_=>1
def M3:List D->Nat
 |[]=>0
 |x::a=>mR x+M3 a
end
theorem fH:∀xs a:List D,M3 (xs++a)=M3 xs+M3 a
 |[],a=>by simp[M3]
 |x::xs,a=>by rw[aBb,M3,M3,fH xs a];lia
section
variable{prog:be} {w:cq}
def PHe (prog:be)(w:cq)(h:cv)(v:au)(d:D):Prop:=∀(A:cp) (E:F5) (s:a9) (Q:Int->a9->Prop),s.heap=h->A.units+8*D8 d<dA->Q (p7 d) {s with toks:=s.toks+mR d}->av (bc prog w) A (pyHash v) Q E s
mutual
theorem SM:∀{v:au} {d:D},HV h v d->PHe prog w h v d
 |_,_,.int i t=>λA E s Q z B q=>(intKind prog w).pyHash (k:=i) (intKind_is _ _ _ _) q
 |_,_,.tup (a:=a) (items:=items) (ds:=ds) p r=>λA E s Q z B q=>by
  have fs:=GJ r;subst z;obtain⟨o,C,J,n,L⟩:=p;have g:s.TypeIs (.ref a) "tuple":=⟨o,C,J⟩;have N:A.units<dA:=by lia
  rw[D8]at B;unfold pyHash;first|unfold pyHashByItsType|skip
  first|refine aAa (wpAny_cRoomFor_or (.inr N) ?_)|skip
  refine aAa (aBB g PySem.F.slot_tuple_hash.lookup ?_);show av _ _ (if(some (aGr "tuple.__hash__")==some Value.none)=true then _ else _) Q E s;rw[ja (by rw[aFE];exact aAY)];refine aAa (aBB g PySem.F.slot_tuple_hash.lookup ?_);show av _ _ (callSpecialIfBoundUnlessNone? (.ref a) "__hash__" _>>=_) Q E s;refine aAa (aDp g PySem.F.slot_tuple_hash<|aBp PySem.F.slot_tuple_hash g PySem.F.entry_tuple_hash ?_ (PySem.F.args_tuple_hash_1 _));show av _ _ (aDA (.ref a)>>=_) _ _ s;refine aAa (wpAny_tupleItemsOf C L ?_);refine aAa ?_;rw[<-aCs];refine aCv _
   (λrest (b:Array Int) u=>∃done left,ds=done++left/\Paired (PHe prog w s.heap) rest left/\b.toList=done.map p7/\u={s with toks:=s.toks+M3 done})
   _ ?_ ?_ _ _ ⟨[],ds,rfl,fs,rfl,rfl⟩
  .rintro x rest b u ⟨done,left,e,y,l,rfl⟩;cases y with
   |@cons _ d _ c O H=>
    refine aAa (O _ _ _ _ rfl ?_ ?_)
    .have:D8 d<=C6 ds:=by rw[e];exact xX (j:=done.length) (by simp)
     rw[y7];lia
    have I:s.toks+M3 done+mR d=s.toks+M3 (done++[d]):=by rw[fH];simp[M3];lia
    first
     |exact aAb ⟨done++[d],c,by simp[e],H,by simp[l],by rw[<-I]⟩
     |exact aAa (aAb (aAb ⟨done++[d],c,by simp[e],H,by simp[l],by rw[<-I]⟩))
  .rintro b u ⟨done,left,e,y,l,rfl⟩;cases y;rw[aCH]at e;subst e;show av _ _ (retInt<|aAM b.toList) _ _ _;rw[l];refine wpAny_ret_mkInt ?_;show av _ _ (if(decide (-(2:Int)^63<=aAM (ds.map p7))&&decide (aAM (ds.map p7)<2^63))=true then _ else _) Q E _;have f:=q;rw[p7,iI,mR]at f;unfold reduceHash at f;by_cases m:(decide (-(2:Int)^63<=aAM (ds.map p7))&&decide (aAM (ds.map p7)<2^63))=true
   .rw[i6 m];rw[i6 m]at f;exact aAb f
   .rw[ja m];rw[ja m]at f;exact aAa (aDx<|aAb f)
theorem GJ:∀{v:List au} {d:List D},HVs h v d->Paired (PHe prog w h) v d
 |_,_,.nil=>.nil
 |_,_,.cons r t=>.cons (SM r) (GJ t)
end
end
theorem oU:∀{n:Nat} {d:D},V9 n d=true->rN d=true/\D8 d<=n
 |n,.int i,_=>⟨rfl,by simp[D8]⟩
 |0,.tup c,h=>by simp[V9]at h
 |n+1,.tup c,h=>by
  have g:c.all (V9 n)=true:=by simpa[V9]using h
  have e:∀a:List D,a.all (V9 n)=true->gM a=true/\C6 a<=n:=λa=>by
   induction a with
   |nil=>intro _;exact⟨rfl,aBk _⟩
   |cons y a k=>intro f;simp only[aGq,aAP]at f;obtain⟨l,p⟩:=oU f.1;obtain⟨m,q⟩:=k f.2;exact⟨by show(rN y&&gM a)=true;rw[l,m];rfl,by show max (D8 y) (C6 a)<=n;lia⟩
  obtain⟨o,r⟩:=e c g;exact⟨o,by show C6 c+1<=n+1;lia⟩
 |n,.non,h=>by cases n<;>simp[V9]at h
 |n,.dct,h=>by cases n<;>simp[V9]at h
 |n,.bl b,h=>by cases n<;>simp[V9]at h
 |n,.str x,h=>by cases n<;>simp[V9]at h
 |n,.lst c,h=>by cases n<;>simp[V9]at h
mutual
theorem HV.ab9 (k:∀b o,h.get? b=some o->(∃its n,o.data=.seq its n)->h'.get? b=some o):∀{v:au} {d:D},HV h v d->HV h' v d
 |_,_,.int i t=>.int i t
 |_,_,.tup p r=>.tup (by obtain⟨o,e,c,n,d⟩:=p;exact⟨o,k _ _ e ⟨_,n,d⟩,c,n,d⟩) (HVs.ab9 k r)
theorem HVs.ab9 (k:∀b o,h.get? b=some o->(∃its n,o.data=.seq its n)->h'.get? b=some o):∀{v:List au} {d:List D},HVs h v d->HVs h' v d
 |_,_,.nil=>.nil
 |_,_,.cons r t=>.cons (HV.ab9 k r) (HVs.ab9 k t)
end
instance decD:DecidableEq D:=λa b=>aEb _
def tT (prog:be) (w:cq):HeapKind prog w D where
 is:=λh d a=>HV h (.ref a) d/\D8 d<8
 hash:=p7
 draws:=mR
 room:=λA=>A.units+128<dA
 inj:=λx y=>HV.inj x.1 y.1
 keeps:=λ{h v k a d o B C} x l m p=>⟨x.1.ab9<|by rintro b H e ⟨r,n,q⟩;exact(p.2 b (λz=>by subst z;rw[l]at e;cases e;rw[m]at q;cases q)).trans e,x.2⟩
 pyHash:=λ{A E s k a Q} t c q=>SM c.1 A E s Q rfl (by have:=c.2;lia) q
 eqBool:=λ{A E s x y a b Q} t f g q=>by
  have u:=GD (A:=A) f.1 g.1 (by have:=f.2;lia);refine u prog w E Q ?_;have e:x5 x y=decide (x=y):=by
   by_cases h:x=y
   .subst h;rw[U1,decide_eq_true rfl]
   .rw[decide_eq_false h];cases z:x5 x y with
    |false=>rfl
    |true=>exact absurd (kA f.1.ok g.1.ok z) h
  rw[e];exact q
 quiet:=λ{A E s k a Q} c q=>jR 8 c.1 c.2 _ A E s Q rfl q
open Classical in
def aH (U:List (D×D)) (k v:D):List (D×D):=if k∈U.map (·.1)then U.map (λp=>if p.1=k then(p.1,v)else p)else U++[(k,v)]
def uO (U:List (D×D))(k v:D)(h:(U.map (·.1)).Nodup):((aH U k v).map (·.1)).Nodup:=by
 unfold aH;split
 .rw[aBw];have:((λx=>x.1)∘λp:D×D=>if p.1=k then(p.1,v)else p)=λp=>p.1:=by funext p;simp only[Function.comp];split<;>rfl
  rw[this];exact h
 .rename_i n;rw[aBF,aCD];refine⟨h,by simp,λa d b c=>?_⟩;simp at c;subst c;exactλe=>n (e▸d)
section
theorem GV (I:Inv X Y σ H s):∀{es:List ij} {U:List (D×D)},nW X.K H O es U->∃xs:List (D×bb×au),es=xs.map (entryOfKey (tT X.prog X.w))/\xs.map (·.1)=U.map (·.1)/\(∀x∈xs,(tT X.prog X.w).is s.heap x.1 x.2.1)/\
  Paired (λ(x:D×bb×au) (p:D×D)=>x.1=p.1/\Rep X.K H O (.ref x.2.1) p.1/\(∃v,RelV v x.2.2/\Rep X.K H O v p.2)/\V9 7 p.1=true) xs U
 |_,_,.nil=>⟨[],rfl,rfl,λx h=>(by cases h),.nil⟩
 |e::_,p::_,.cons ⟨⟨a,c,d⟩,g,f,k⟩ t=>by
  obtain⟨xs,l,m,n,o⟩:=GV I t;obtain⟨ok,r⟩:=oU k;refine⟨(p.1,a,e.val)::xs,?_,by rw[aAu,aAu,m],λx b=>?_,.cons ⟨rfl,d,g,k⟩ o⟩
  .rw[aAu,<-l];congr 1;obtain⟨q,u,y⟩:=e;simp only at c f;subst c f;rfl
  .rcases aAe.mp b with rfl|b
   .exact⟨W2 I d ok rfl,by show D8 p.1<8;lia⟩
   .exact n x b
theorem IS {P:be}{w:cq}{K:ka}{H:Hp}{O:bb->Prop}:∀{xs:List (D×bb×au)} {U:List (D×D)},Paired (λ(x:D×bb×au) (p:D×D)=>x.1=p.1/\Rep K H O (.ref x.2.1) p.1/\(∃v,RelV v x.2.2/\Rep K H O v p.2)/\V9 7 p.1=true) xs U->nW K H O (xs.map (entryOfKey (tT P w))) U
 |_,_,.nil=>.nil
 |_,_,.cons ⟨e,a,b,k⟩ t=>.cons ⟨⟨_,rfl,a⟩,b,by rw[<-e];rfl,k⟩ (IS t)
def dU {xs:List (D×bb×au)}{k:D}:(atKey xs k).isSome=true↔k∈xs.map (·.1):=by unfold atKey;rw[Option.isSome_map,List.find?_isSome];simp only[decide_eq_true_eq,aAp]
def HD (I:Inv X Y σ H s)(h:H a=some (.ext λh=>h.get? a=some o))(d:MK a o es)(r:nW X.K H O es U)(c:(U.map (·.1)).Nodup):
  ∃xs,s.heap.DictOfH (tT X.prog X.w) a xs/\xs.map (·.1)=U.map (·.1)/\Paired (λ(x:D×bb×au) (p:D×D)=>x.1=p.1/\Rep X.K H O (.ref x.2.1) p.1/\(∃v,RelV v x.2.2/\Rep X.K H O v p.2)/\V9 7 p.1=true) xs U:=by
 obtain⟨xs,e,b,f,k⟩:=GV I r;obtain⟨_,l,m,n,q,t⟩:=d;have g:s.heap.get? a=some o:=(I.hok a _ h).1;exact⟨xs,⟨o,m,n,g,l,q,by rw[t,e],f,by rw[b];exact c⟩,b,k⟩
def KL {K:ka}{xs:List (D×bb×au)}{U:List (D×D)}{k d:D}{b:bb}{u:au}{v:V}(f:Paired (λ(x:D×bb×au) (p:D×D)=>x.1=p.1/\Rep K H O (.ref x.2.1) p.1/\(∃v,RelV v x.2.2/\Rep K H O v p.2)/\V9 7 p.1=true) xs U)(a:xs.map (·.1)=U.map (·.1))
  (m:Rep K H O (.ref b) k) (kk:V9 7 k=true) (g:RelV v u) (l:Rep K H O v d):
  Paired (λ(x:D×bb×au) (p:D×D)=>x.1=p.1/\Rep K H O (.ref x.2.1) p.1/\(∃v,RelV v x.2.2/\Rep K H O v p.2)/\V9 7 p.1=true) (storedH xs k b u) (aH U k d):=by
 unfold storedH aH;by_cases h:k∈U.map (·.1)
 .rw[i6 h,i6 (dU.mpr (by rw[a];exact h))];clear a h;induction f with
  |nil=>exact .nil
  |@cons x p xs U r t c=>
   rw[aAu,aAu];refine .cons ?_ c;unfold putAt;by_cases e:p.1=k
   .rw[i6 (r.1.trans e),i6 e];exact⟨r.1,r.2.1,⟨v,g,l⟩,r.2.2.2⟩
   .rw[ja (λz=>e (r.1.symm.trans z)),ja e];exact r
 .rw[ja h,ja (λz=>h (by rw[<-a];exact dU.mp z))];clear a h;induction f with
  |nil=>exact .cons ⟨rfl,m,⟨v,g,l⟩,kk⟩ .nil
  |cons r t c=>exact .cons r c
end
section
variable{K:Type} [DecidableEq K] {knd:HeapKind prog w K}
def sR {Q:AD}(f:knd.room A.in1)(b:knd.is s.heap k a)(g:(d==gW)=false)(c:s.heap.DictOfH knd d xs)
  (h:Q (atKey xs k).isSome {s with toks:=s.toks+knd.draws k}):av (bc prog w) A (contains (.ref d) (.ref a)) Q E s:=by
 unfold contains;try with_reducible refine aAN ?_
 refine aAa (aBB c.typeIs aFe.lookup ?_);show av _ _ (if(some (aGr "dict.__contains__")==some Value.none)=true then _ else _) _ E s;rw[ja (by rw[aFE];exact aAY)];refine aAa (wpAny_callSpecialUnlessNone?_slot (name:=aCB "__contains__") c.typeIs aFe
  (aBp aFe c.typeIs entry_dict_contains ?_ (args_dict_contains _ _)))
 show av _ _ (dictGet d (.ref a)>>=_) _ _ s;refine aAa (wpAny_dictGet_heap f b c ?_);cases e:atKey xs k with
 |some p=>rw[e]at h;show av _ _ (ret<|.bool true) _ _ _;exact aAb ⟨_,rfl,aBO h⟩
 |none=>rw[e]at h;show av _ _ (Builtin.Dict.pendingKey? d (.ref a)>>=_) _ _ _;exact aAa (wpAny_pendingKey_other g<|aAb ⟨_,rfl,aBO h⟩)
end
def IV:D->Bool
 |.tup _=>true
 |_=>false
open Classical in
def rQ (i:Nat) (ρ:Ev) (k:D):R Bool:=match ρ[i]? with
 |some (.d U)=>if V9 7 k=true/\IV k=true then .ok (!decide (k∈U.map (·.1)))else .bad
 |_=>.bad
section
def rB {K:ka}{H:Hp}{O:bb->Prop}{v:V}{k:D}(r:Rep K H O v k)(h:IV k=true):∃a,v=.ref a:=by
 cases r with
 |tup h r=>exact⟨_,rfl⟩
 |_=>cases h
def KU (i:Nat){x:Str}{p:Pos}{f:Ev->R D}(ha:PD X e f)(hu:X.A.units+130<dA)(hN:X.N[i]?=some x:=by rfl)(hv:BZ X.env.scope x:=by first|exact aCK rfl|exact aBU (aCK rfl)|exact aBU (aBU rfl))
  (hd:(x==kc)=false:=by decide) (fg:(x==kd)=false:=by decide) (hm:il .NotIn (.Name x p)=false:=by first|rfl|with_unfolding_all rfl):
  LV X (.Compare e [.NotIn] [.Name x p] pos) (λρ=>(f ρ).bind (rQ i ρ)):=by
 refine tR λY s σ H Q I H9 O0 O ρ E q=>?_;dsimp only at q;refine wpAny_isTrue_Compare1 (MQ (ta:=tD X f) (tb:=a0b i) ha (R7 hN hv hd fg) (R:=λy x g=>∃a b o m U k,x=.ref a/\y=.ref b/\g a=some (.ext λh=>h.get? a=some o)/\MK a o m/\nW X.K g O m U/\(U.map (·.1)).Nodup/\Rep X.K g O (.ref b) k/\V9 7 k=true/\Q (!(open Classical in decide (k∈U.map (·.1)))) g) I ⟨H9,O0,O,ρ,E,?_⟩ λu w s2 y x g B ry rx h=>?_) hm
 .cases C:f ρ with
  |ex z=>rw[C]at q;exact q
  |bad=>rw[C]at q;exact q.elim
  |ok k=>
   rw[C,R.aa0]at q;intro v H1 sm r;unfold rQ at q;cases J:ρ[i]? with
   |none=>rw[J]at q;exact aAk q
   |some sl=>
    rw[J]at q;cases sl with
    |d U=>
     dsimp only at q;by_cases l:V9 7 k=true/\IV k=true
     .rw[i6 l]at q;obtain⟨a,o,m,h1,_,_,L,n,T,h7⟩:=(E.grow sm).slot i _ J;obtain⟨b,rfl⟩:=rB r l.2;exact⟨_,h1,a,b,o,m,U,k,rfl,rfl,L,n,T,h7,r,l.1,q H1 sm⟩
     .rw[ja l]at q;exact aAk q
    |_=>exact aAk q
 .obtain⟨a,b,o,m,U,k,rfl,rfl,L,n,T,h7,rk,l,qq⟩:=h;cases ry;cases rx;obtain⟨xs,hD,ua,hp⟩:=HD B L n T h7;obtain⟨ok,dp⟩:=oU l;show av _ _ (contains (.ref a) (.ref b)>>=λc=>pure (aDy (!c))) _ _ s2;refine aAa (sR (knd:=tT X.prog X.w) (by show X.A.in1.units+128<dA;rw[y7];lia) ⟨W2 B rk ok rfl,by lia⟩ n.1 hD (aAb ?_));refine aBO ⟨g,B.tok _,?_⟩;have e3:(atKey xs k).isSome=(open Classical in decide (k∈U.map (·.1))):=by
   by_cases t:k∈U.map (·.1)
   .rw[decide_eq_true t];exact dU.mpr (by rw[ua];exact t)
   .rw[decide_eq_false t];cases z:(atKey xs k).isSome with
    |false=>rfl
    |true=>exact absurd (by rw[<-ua];exact dU.mp z) t
  rw[e3];exact qq
def AW (i:Nat)(w:X.N.Nodup)(y:X.N[i]?=some x:=by rfl)(A:Loc X.env.scope x:=by first|exact aCK rfl|exact aBU rfl)(B:eQ (.Dict [] [] c) (some (.Name x f)) g.line X.env=pure false:=by rfl)(C:X.fn x=true\/X.env.scope.names.lookup x=some .local:=by first|exact .inl rfl|exact .inr rfl|assumption):qQ X (.Assign [.Name x f] (.Dict [] [] c) g) (λρ=>.ok (.nx (ρ.set i (.d [])))):=by
 rintro T U Y s σ H D I ⟨O,ρ,E,fk,q⟩;refine aFn (wpAny_Dict_empty ?_) B;have t:(s.heap.push {cls:=.type "dict",data:=.dict #[]}).get? s.heap.objs.size=some {cls:=.type "dict",data:=.dict #[]}:=aAq _ rfl;have l:=I.hok.fresh (aAj s.heap.objs.size);have m:=I.laid (a:=s.heap.objs.size) (o:=.ext λh=>h.get? s.heap.objs.size=some {cls:=.type "dict",data:=.dict #[]}) (h':=s.heap.push {cls:=.type "dict",data:=.dict #[]}) (t':=s.toks) (λ_ _ q=>aAc _ q) (aAj _)
  ⟨t,⟨_,t⟩,λh1 h2 e k=>k _ e⟩
 have J:=SU m (j7 (H:=H) (a:=s.heap.objs.size));have p:gW<s.heap.objs.size:=aGE (by decide) (I.mod.glob.keeps I.bk).lt;refine U8 m w y A (show RelV (.ref s.heap.objs.size) _ from rfl) (λs3 L=>⟨_,_,L,?_⟩) C;have v:=E.ae1 (u:=.ext λh=>h.get? s.heap.objs.size=some {cls:=.type "dict",data:=.dict #[]}) (sl:=.d []) i l J trivial λQ=>⟨s.heap.objs.size,_,[],rfl,.inr rfl,Q,j7,⟨by simp[aCA p],⟨rfl,rfl,rfl⟩,#[],0,rfl,rfl⟩,.nil,aDh⟩;exact q _ _ _ v (wA m _ v.trk) λb o r n=>⟨by rw[m8 (u7 r l)];exact r,λz=>z.elim n (u7 r l)⟩
def a2l (X:Cx):UZ:=λx y v H Q=>∃O a b o e U k d,x=.ref a/\y=.ref b/\H a=some (.ext λh=>h.get? a=some o)/\MK a o e/\nW X.K H O e U/\(U.map (·.1)).Nodup/\e.length<=sizeLine/\Rep X.K H O (.ref b) k/\V9 7 k=true/\Rep X.K H O v d/\
 ∀f c,MK a f c->nW X.K H O c (aH U k d)->Q (upd H a<|.ext λh=>h.get? a=some f)
def VS (hu:X.A.units+130<dA):jq X (a2l X):=by
 intro Y s σ H x y v ov iv u Q I rx ry ru z;obtain⟨O,a,b,o,es,U,k,d,E,ey,m,n,h6,h7,hz,J,L,rv,q⟩:=z;subst E ey;cases rx;cases ry;obtain⟨xs,N,ua,hp⟩:=HD I m n h6 h7;obtain⟨ok,dp⟩:=oU L;have c:xs.length<=sizeLine:=by
  obtain⟨_,E,ea,ep,hd,he⟩:=n;obtain⟨o2,qh,ep2,T,_,f,lu,_⟩:=N;have g:s.heap.get? a=some o:=(I.hok a _ m).1;rw[g]at T;cases T;rw[hd]at f;cases f;have:=jk aFt (he.symm.trans lu);rw[aAf]at this
  lia
 refine wpAny_setItem_heap (knd:=tT X.prog X.w) (by show X.A.in1.units+128<dA;rw[y7];lia) ⟨W2 I J ok rfl,by lia⟩ N (λh' p hs=>?_) c;obtain⟨l,r,t,B,C,qo,xo,is',xr⟩:=p;have I1:=I.write (x:=a) (e:=a) (o:=.ext λh=>h.get? a=some l) (h':=h') (t':=s.toks+mR k) (by rw[m];trivial) (.inl rfl) (λb u hb e=>(hs.2 b hb).trans e) ⟨l,B⟩ ⟨B,⟨l,B⟩,λh1 h2 e k=>k _ e⟩;exact⟨_,I1,q l _ ⟨n.1,C,r,t,qo,rfl⟩ (by rw[xo];exact IS (KL hp ua J L ru rv))⟩
def vJ (i:Nat) (ρ:Ev) (k d:D):R Out:=match ρ[i]? with
 |some (.d U)=>if V9 7 k=true/\IV k=true/\U.length<=sizeLine then .ok (.nx (ρ.set i<|.d (aH U k d)))else .bad
 |_=>.bad
def jC (i:Nat){x:Str}{k:df}{f g:Ev->R D}{p ps:Pos}(he:PD X e f)(c:PD X k g)(hu:X.A.units+130<dA)(hN:X.N[i]?=some x:=by rfl)(hv:BZ X.env.scope x:=by first|exact aCK rfl|exact aBU (aCK rfl)|exact aBU (aBU rfl))(hd:(x==kc)=false:=by decide)
  (fg:(x==kd)=false:=by decide) (ha:∀v,hV (.Subscript (.Name x p) k ps) X.env v=(do
   let t<-fo [v] (dC (.Name x p) X.env)
   let B<-fo [v,t] (dC k X.env)
   standAt ps
   fo [v,t,B] (setItem t B v)
   release [v,t,B] []):=by intro _;rfl)
  (hs:gn [.Subscript (.Name x p) k ps] e C.line X.env=pure false:=by rfl) (hw:gr [.Subscript (.Name x p) k ps] e X.env=pure none:=by rfl) (u:(ee [.Subscript (.Name x p) k ps] X.env).map (·.2)=[hV (.Subscript (.Name x p) k ps) X.env]:=by rfl):
  qQ X (.Assign [.Subscript (.Name x p) k ps] e C) (λρ=>(f ρ).bind λd=>(g ρ).bind λl=>vJ i ρ l d):=λY O0=>
 CD (FG he (NC (R7 hN hv hd fg) c (VS hu) ha) hs hw u) λD σ H O ρ E fk q=>⟨Y,O0,O,ρ,E,by
  cases I:f ρ with
  |ex z=>rw[I]at q;exactλH' s=>q H' (E.same.trans s)
  |bad=>rw[I]at q;exact q
  |ok d=>
   rw[I,R.aa0]at q;intro v H1 s1 r1;have J:=E.grow s1;cases w:g ρ with
   |ex z=>rw[w]at q;exact(q H<|E.same.trans<|Same.refl _).elim
   |bad=>rw[w]at q;exact aAk q
   |ok l=>
    rw[w,R.aa0]at q;unfold vJ at q;cases y:ρ[i]? with
    |none=>rw[y]at q;exact aAk q
    |some sl=>
     rw[y]at q;cases sl with
     |d U=>
      dsimp only at q;by_cases c:V9 7 l=true/\IV l=true/\U.length<=sizeLine
      .rw[i6 c]at q;obtain⟨a,o,es,u,h2,h3,L,h5,h6,h7⟩:=J.slot i _ y;refine⟨_,u,Y,O0,O,ρ,J,?_⟩;rw[w];intro kv H2 n r2;have E2:=J.grow n;obtain⟨b,rfl⟩:=rB r2 c.2.1;have Q:nW X.K H2 O es U:=h6.mono λr=>r.same n;refine⟨O,a,b,o,es,U,l,d,rfl,rfl,n _ _ L,h5,Q,h7,by rw[h6.length];exact c.2.2,r2,c.1,r1.same n,λo' T d' r'=>?_⟩;obtain⟨E3,k3⟩:=E2.ae2 (sl':=.d (aH U l d)) (u':=.ext λh=>h.get? a=some o') y trivial u (n _ _ L) trivial trivial λhO h0 m=>⟨a,o',T,rfl,h2,h3,j7,d',r'.mono λr=>r.upd (n _ _ L) trivial h2,uO U l d h7⟩;exact q _ _ _ E3 fk (((Kp.of s1).trans (Kp.of n)).trans k3)
      .rw[ja c]at q;exact aAk q
     |_=>exact aAk q⟩
end
end
section
variable [Tabs]
def _root_.L2.Inv.ae8 {Y:Q6}{σ:St}{H:Hp}{s:a9}{h':cv}{t':Nat}{L:List bb}{T:bb}{vs:List V}(I:Inv X Y σ H s)(k:∀b o,b∉L->s.heap.get? b=some o->h'.get? b=some o)
  (g:∀b∈L,nT X Y H b) (h:s.heap.objs.size<=T) (hz:vs.length<=sizeLine) {its:List au} (t:n8 vs its) (w:IsTup h' T its.toArray):Inv X Y σ (upd H T (.tup vs)) {s with heap:=h',toks:=t'}:=by
 have l:H T=none:=I.hok.fresh h;have ne:∀b u,H b=some u->b≠T:=λb u e z=>by rw[z,l]at e;cases e
 have d:Same H (upd H T<|.tup vs):=k7 l _;have p:∀b u,H b=some u->b∉L:=λb u e z=>by rw[(g b z).1]at e;cases e
 refine I.step (g':=s.gens) (d':=s.drawn) (ch:=L) (λb f=>?_) (λb o _ _ a e _=>k b o a e) (λb o _ _ a e _=>⟨o.slots,k b o a e⟩) (λb o _ e n=>?_)
  (λb o a e=>⟨o,k b o a e⟩) (λb _ e=>d _ _ e) (λb _ _ e=>d _ _ e) (λb _ e=>d _ _ e) (λm x=>?_) (λb u e=>?_) I.bare
 .obtain⟨_,y,_,A,B,C⟩:=g b f;exact⟨A,y,B,C⟩
 .rw[m8 (aAm<|aAv (aAh e) h)];exact n
 .obtain⟨o,E,J,N,r⟩:=x;exact⟨o,E,J,k _ o (λz=>(g _ z).2.1 rfl) N,r⟩
 .by_cases f:b=T
  .subst f;rw[j7]at e;cases e;exact⟨hz,its,t,w⟩
  .rw[m8 f]at e;refine(I.hok b u e).ab7 (λc v a q=>k c v ?_ q) (λ_ q=>d _ _ q) λ_ _ _ q=>d _ _ q;rcases a with z|z
   .rw[z];exact p b u e
   .exact p c _ z
def _root_.L2.Inv.ae6 {Y:Q6}{σ:St}{H:Hp}{s:a9}{h':cv}{t':Nat}{L:List bb}(I:Inv X Y σ H s)(k:∀b o,b∉L->s.heap.get? b=some o->h'.get? b=some o)
  (d:∀b∈L,nT X Y H b):Inv X Y σ H {s with heap:=h',toks:=t'}:=by
 have f:∀b u,H b=some u->b∉L:=λb u e z=>by rw[(d b z).1]at e;cases e
 refine I.step (g':=s.gens) (d':=s.drawn) (ch:=L) (λb g=>?_) (λb o _ _ a e _=>k b o a e) (λb o _ _ a e _=>⟨o.slots,k b o a e⟩) (λ_ _ _ _ n=>n)
  (λb o a e=>⟨o,k b o a e⟩) (λb _ e=>e) (λb _ _ e=>e) (λb _ e=>e) (λm h=>?_) (λb u e=>?_) I.bare
 .obtain⟨_,l,_,p,t,w⟩:=d b g;exact⟨p,l,t,w⟩
 .obtain⟨o,x,y,A,r⟩:=h;exact⟨o,x,y,k _ o (λz=>(d _ z).2.1 rfl) A,r⟩
 .refine(I.hok b u e).ab7 (λc v a q=>k c v ?_ q) (λ_ q=>q) λ_ _ _ q=>q;rcases a with z|z
  .rw[z];exact f b u e
  .exact f c _ z
def lq {h:cv}{i a:bb}{k:Nat}(x:h.IsListIter i a k):∃o,h.get? i=some o/\∀v,o.data≠.cell v:=by obtain⟨o,e,c,d⟩:=x;exact⟨o,e,λv z=>by rw[d]at z;cases z⟩
def Ite (K:ka)(a:bb):It:=
 ⟨λi H=>∃b x,P9 K H a b/\b[i]?=some x,
  λi H v c=>∃T,v=.ref T/\H T=none/\∀b,P9 K H a b->∃x,b[i]?=some x/\c=upd H T (.tup [.int i,x]),
  λi H=>∃b,P9 K H a b/\b.length<=i⟩
def tnE (e it a:bb)(i:Nat)(h:cv):Prop:=(∃b,IsEnum h e it (i:Int) b)/\h.IsListIter it a i
def LR {P:be}{w:cq}{K:ka}{el:List df}{c}{tp:Pos}{e it a:bb}(D:e≠it):Turn P w K (.Tuple el c tp) (Ite K a) [e,it] e (tnE e it a)where
 mem:=by simp
 obj:=λi h ⟨⟨f,B⟩,C⟩ c d=>by
  simp only[aAe,aAG,or_false]at d;rcases d with rfl|rfl
  .exact⟨_,B,λv z=>nomatch z⟩
  .exact lq C
 keep:=λi h p ⟨⟨f,B⟩,C⟩ k=>⟨⟨f,k _ (by simp) _ B⟩,C.at λo e=>k _ (by simp) o e⟩
 item:=by
  intro X J L N d i Y s σ H E I r st O;subst J L N;obtain⟨xs,x,t,ex⟩:=O;obtain⟨Q,g,T,zx⟩:=I.list t;obtain⟨u,hu,ru⟩:=g.get ex;obtain⟨⟨f,y⟩,A⟩:=st;refine wpAny_pyNext_enum_item y A T.isList (x:=u) (by simpa using hu) D λp q0 q1 hp hsz U=>?_;refine⟨.ref s.heap.objs.size,rfl,wpAny_letOwnedTupleGo_enum (s:={s with heap:=p,toks:=s.toks+1}) q0 λh2 z2 sb=>?_⟩;have l:e<s.heap.objs.size:=aAh y;have n:it<s.heap.objs.size:=by obtain⟨o,e,_⟩:=A;exact aAh e
  have up:∀c o,c≠e->p.get? c=some o->h2.get? c=some o:=λc o d e=>sb.extBut c o d e;have hTf:s.heap.objs.size∉[e,it]:=λm=>by
   simp only[aAe,aAG,or_false]at m;rcases m with m|m
   .rw[<-m]at l;exact absurd l (aBo _)
   .rw[<-m]at n;exact absurd n (aBo _)
  have kk:∀c o,c∉[e,it]->s.heap.get? c=some o->h2.get? c=some o:=λc o d e=>by simp only[aAe,aAG,or_false,not_or]at d;exact up c o d.1 (U c o d.1 d.2 e)
  refine⟨.ref s.heap.objs.size,upd H s.heap.objs.size (.tup [.int i,x]),I.ae8 (t':=s.toks+1) kk r (aAj _) (by show 2<=sizeLine;decide) (its:=[.int i s.toks,u]) (.cons ⟨_,rfl⟩ (.cons ru .nil)) ⟨_,up _ _ (aCA l) hp,rfl,0,rfl⟩,rfl,
   ⟨_,rfl,I.hok.fresh (aAj _),λxs' hx'=>⟨x,by rw[I.ab2 hx' t];exact ex,rfl⟩⟩,⟨⟨u,?_⟩,q1.at λo e=>up _ o (aCi D) e⟩,λb hb=>?_⟩
  .have:((i+1:Nat):Int)=(i:Int)+1:=by lia
   rw[this];exact z2
  .rw[m8 (λq:b=s.heap.objs.size=>hTf (q▸hb))];exact(r b hb).1
 done:=by intro X J L N d i Y s σ H E I r st O;subst J L N;obtain⟨xs,t,hl⟩:=O;obtain⟨Q,g,T,zx⟩:=I.list t;obtain⟨⟨f,y⟩,A⟩:=st;have hlx:=g.length;refine wpAny_pyNext_enum_end (I.ok.hd d) y A T.isList (by simp;lia) λp U=>⟨rfl,I.ae6 (t':=s.toks) (λc o d e=>?_) r⟩;simp only[aAe,aAG,or_false,not_or]at d;exact U c o d.2 e
 self:=by rintro _ _ _ _ _ ⟨⟨_,st⟩,_⟩ h;exact wpAny_pyIter_enum st h
def IL (xs:List D):List D:=List.zipWith (λ(k:Nat) d=>D.tup [.int (k:Int),d]) (aAQ xs.length) xs
def NL:List D->R (List D)
 |[.lst a]=>.ok (IL a)
 |_=>.bad
def lR (xs:List D)(i:Nat):(IL xs)[i]?=xs[i]?.map λd=>D.tup [.int (i:Int),d]:=by
 unfold IL;rw[List.getElem?_zipWith];by_cases h:i<xs.length
 .rw[List.getElem?_range h];cases xs[i]?<;>rfl
 .rw[aEq (by simpa using h),aEq (by lia:xs.length<=i)];rfl
def QQ {el:List df}{c}{tp:Pos}{e1:df}{p:Pos}{h:Ev->R D}(u:PD X e1 h)(hg:Gl X "enumerate":=by rfl)(hm:X.mg "enumerate"=none:=by assumption)(hv:cy "enumerate"=some (.type "enumerate"):=by decide+kernel)
  (L:a5 [e1] X.env=(false,dC e1 X.env)::a5 [] X.env:=by rfl) (M9:(dq l (a5 [] X.env)).any (·.1)=false:=by rfl):
  YN X (.Tuple el c tp) (.Call (.Name "enumerate" p) [e1] [] l) (λρ=>(t5 h T8 ρ).bind NL):=by
 rintro Y s σ H Rr I ⟨H9,O0,O,ρ,E,fk,q⟩;dsimp only at q;refine aAO (M6 I hg hm hv ?_ (by decide) (by decide));have lg:LY X [e1] (t5 h T8):=f8 u o7 L;refine aBn (F6 (lg l Y s σ H (λv g=>∃v1 b,v=[v1]/\t5 h T8 ρ=.ok [.lst b]/\Same H g/\Rep X.K g O v1 (.lst b)) I ⟨H9,O0,O,ρ,E,?_⟩) λus m w=>?_) L M9
 .cases e1:t5 h T8 ρ with
  |ex z=>rw[e1]at q;exact q
  |bad=>rw[e1]at q;exact q.elim
  |ok ds=>
   rw[e1,R.aa0]at q;match ds,q with
   |[.lst b],q=>
    intro v g m n;cases n with
    |cons ra n=>cases n with
     |nil=>exact⟨_,b,rfl,rfl,m,ra⟩
 .obtain⟨v,g,t,n,v1,b,y,ef,sm,A⟩:=w;subst y;rw[ef,R.aa0]at q;simp only[NL]at q;cases A with
  |@lst a B _ r nx N=>
  obtain⟨u1,rfl,C⟩:=vals1 n;cases C;obtain⟨itx,rvx,px,zX⟩:=t.list r;refine call_enumerate_list px.isList λQ U z2 zsz k1=>?_;have I2:=t.kept (h':=Q) (t':=m.toks) k1;refine wpAny_pyIter_enum (s:={m with heap:=Q}) U ⟨_,_,_,Ite X.K a,g,rfl,I2,LR (Nat.succ_ne_self _),⟨⟨_,U⟩,z2⟩,λc hc=>?_,q _ g sm λH2 O2 k hK hO hO2 i=>?_⟩
  .have yb:m.heap.objs.size<=c:=by simp only[aAe,aAG,or_false]at hc;rcases hc with rfl|rfl<;>lia
   exact t.ae7 yb (t.hok.fresh yb)
  .obtain⟨n2x,f⟩:=k.lst nx r λo q=>hK a o q;have J:=k.ac0 hO hK N;refine⟨λd e=>?_,λe=>⟨B,f,?_⟩⟩
   .rw[lR]at e;cases e1:b[i]? with
    |none=>rw[e1]at e;cases e
    |some dx=>rw[e1]at e;cases e;obtain⟨vx,g1,g2⟩:=J.get e1;refine⟨⟨B,vx,f,g1⟩,λx H' w=>?_⟩;obtain⟨T,y,hT,hh⟩:=w;obtain⟨x1,q1,rfl⟩:=hh B f;rw[g1]at q1;cases q1;subst y;have s2:Same H2 (upd H2 T<|.tup [.int i,vx]):=k7 hT _;exact⟨s2,.tup (Z6.of j7) (.cons .int (.cons (g2.same s2) .nil))⟩
   .rw[N.length];rw[lR]at e;cases e1:b[i]? with
    |none=>exact aBQ.mp e1
    |some dx=>rw[e1]at e;cases e
end
end DL
namespace MM
open PySem
def MY (prog:be)(w:cq)(A:cp)(op:CmpOp)(c:cv->Prop)(P:Nat->au->Prop)(d:Nat->Nat->Bool):Prop:=
 ∀i j a b (s:a9) (Q:F5) (E:F5),c s.heap->P i a->P j b->Q (.bool (d i j)) s->av (bc prog w) A (richCompare op a b) Q E s
section
def KP (W:WalksS prog w A.in1 I fp r G n P St){N:cv->Prop}(hH:∀i s,St i s->N s.heap)(p:Nat->Nat->Bool)(xm:MY prog w A.in1 .Lt N P p)(S:bb)(O:S∉fp):
  ∀(k j:Nat) (s:a9) (d:au) (c:Nat),n-(j+1)=k->j+1<=n->St (j+1) s->P (eR p j) d->
  s.heap.get? S=some {cls:=.type "list",dict:=none,data:=.seq #[d,d] c,slots:=#[]}->
  (∀v s',P (eR p (n-1)) v->Moved (S::r) G s s'->R (.ok (.ret v)) s')->fu (bc prog w) A (.builtin "min.loop" ⟨[.ref I,.none,.ref S],[]⟩) R s:=by
 have t:S∉r:=λh=>O (W.sub _ h);have z:∀b∈r,b∈S::r:=λb a=>aAg _ a;have Q:(toString "min"++toString ".loop":String)= "min.loop":=by decide
 have g:∀{b:bb},b∉S::r->S≠b:=λa h=>a (by rw[h];exact aAW);intro k;induction k with
 |zero=>
  intro j s d c hk hj B f u y;have T:j+1=n:=by omega
  refine aBC aFH ?_;rw[aBg aCM _];show av _ A.in1 (seqItems? (.ref S)>>=_) _ _ s;refine aAa (aBR u rfl ?_);show av _ A.in1 (tryCatch (ff<|.ref I) _>>=_) _ _ s;refine aAa (aFi<|W.done s _ _ (T▸B) λs' q=>?_);have x:=q.heap S _ t u;show av _ A.in1 (ik S (λ_=>#[])>>=_) _ _ _;refine aAa ?_;refine aCf x rfl (aAa<|aEf<|aAb ?_);exact y d _ (by rw[<-T];exact f) ((q.mono z).then_heap (tk:=s'.toks) (aAj _) λb o a e=>(aAE _ _<|g a).trans e)
 |succ k U=>
  intro j s d c hk hj B f u y;have C:j+1<n:=by omega
  refine aBC aFH ?_;rw[aBg aCM _];show av _ A.in1 (seqItems? (.ref S)>>=_) _ _ s;refine aAa (aBR u rfl ?_);show av _ A.in1 (tryCatch (ff<|.ref I) _>>=_) _ _ s;refine aAa (aFi<|W.item (j+1) s _ _ C B λv s' Y E q=>?_);have x:=q.heap S _ t u;show av _ A.in1 (tryCatch (fo [v,v]<|richCompare .Lt v d>>=_) _>>=_) _ _ _;refine aAa (aFi<|aAN<|aAa<|xm (j+1) (eR p j) v d _ _ _ (hH _ _ E) Y f ?_);refine aAa (aAN<|aBO ?_);refine aAa (aEf<|aAb ?_);cases a:p (j+1) (eR p j)with
  |true=>
   simp only[if_true];refine aAa ?_;refine aCf x rfl (aAa<|aEf ?_);rw[Q];refine aAb ⟨aBT aCM _,U (j+1) _ v _ (by omega) C (W.frame _ s' _ s'.toks E (aAj _) λb H o e=>?_) (by simp only[eR,a,if_true];exact Y) (aBh _ x rfl)
    λJ l m L=>?_⟩
   .exact(aAE _ _ (λh:S=b=>O (by rw[h];exact H))).trans e
   .exact y J l m (aFx W.gtrans ((q.mono z).then_heap (aAj _) λb o a e=>(aAE _ _<|g a).trans e) L)
  |false=>simp only[aAs,if_false];refine aAa (aEf ?_);rw[Q];refine aAb ⟨aBT aCM _,U (j+1) _ d c (by omega) C E (by simp only[eR,a,aAs,if_false];exact f) x λJ l m L=>?_⟩;exact y J l m (aFx W.gtrans (q.mono z) L)
def CS (W:WalksS prog w A.in1 I z a G n P St){r:cv->Prop}(B:∀i s,St i s->r s.heap)(g:Nat->Nat->Bool)(C:MY prog w A.in1 .Lt r P g)(S:bb)(k:S∉z)(t:0<n)(E:St 0 s)(u:s.heap.get? S=some {cls:=.type "list",dict:=none,data:=.seq #[] c,slots:=#[]})(H:∀v s',P (eR g (n-1)) v->Moved (S::a) G s s'->R (.ok (.ret v)) s'):fu (bc prog w) A (.builtin "min.loop" ⟨[.ref I,.none,.ref S],[]⟩) R s:=by
 have l:S∉a:=λh=>k (W.sub _ h);have J:∀b∈a,b∈S::a:=λb d=>aAg _ d;have L:(toString "min"++toString ".loop":String)= "min.loop":=by decide
 have f:∀{b:bb},b∉S::a->S≠b:=λd h=>d (by rw[h];exact aAW);refine aBC aFH ?_;rw[aBg aCM _];show av _ A.in1 (seqItems? (.ref S)>>=_) _ _ s;refine aAa (aBR u rfl ?_);show av _ A.in1 (tryCatch (ff<|.ref I) _>>=_) _ _ s;refine aAa (aFi<|W.item 0 s _ _ t E λv s' N O x=>?_);have y:=x.heap S _ l u;show av _ A.in1 (ik S (λ_=>#[v,v])>>=_) _ _ _;refine aAa ?_;refine aCf y rfl ?_;rw[L];refine aAb ⟨aBT aCM _,KP W B g C S k _ 0 _ v _ rfl t (W.frame _ s' _ s'.toks O (aAj _) λb m o e=>?_) N (aBh _ y rfl) λQ p q T=>?_⟩
 .exact(aAE _ _ (λh:S=b=>k (by rw[h];exact m))).trans e
 .exact H Q p q (aFx W.gtrans ((x.mono J).then_heap (aAj _) λb o d e=>(aAE _ _<|f d).trans e) T)
def call_minH {E:F5}{Q:F5}(h:av (bc prog w) A.in1 (pyIter x) (λit a=>∃I c f G n P St g d,it=.ref I/\WalksS prog w A.in1 I c f G n P St/\St 0 a/\(∀b∈c,b<a.heap.objs.size)/\0<n/\(∀i s,St i s->g s.heap)/\MY prog w A.in1 .Lt g P d/\
   ∀v s',P (eR d (n-1)) v->Moved f G a s'->Q v s') E s):
  av (bc prog w) A (call (.builtin "min") [x]) Q E s:=by
 have l:(toString "min"++toString ".loop":String)= "min.loop":=by decide
 refine call_function_tree F.kind_min F.plain_min F.entry_min (F.args_min1 _) ?_;show av _ A.in1 (aEL "min" ["key", "default"] 0 ⟨[],[]⟩>>=_) _ _ s;refine aAa (aGn (show aEL "min" ["key", "default"] 0 ⟨[],[]⟩=pure [none,none]from rfl) ?_);refine aAa (aAb ?_);refine aAa (aCE h (λit a m=>?_) λ_ _ e=>e);obtain⟨I,c,f,G,n,P,St,g,d,rfl,W,p,q,r,t,u,y⟩:=m;refine aAa (aAX ?_);have z:a.heap.objs.size∉c:=λk=>aBo _ (q _ k);rw[l];refine aAb ⟨aBT aCM _,CS W t d u a.heap.objs.size z r (W.frame 0 a _ a.toks p (aAj _) λb _ o e=>aAc _ e) (aAq _ rfl) λv s' B k=>?_⟩;exact y v s' B (Moved.drop_new (tk:=a.toks) k<|aAj _)
end
def walks_more {P:Nat->au->Prop}{St:Nat->cv->Prop}(W:Walks prog w A I m g n P St)(more:Q6)(q:∀p∈more,p.1∉g):
  Walks prog w A I (m++more.map (·.1)) g n P (λi h=>St i h/\∀p∈more,h.get? p.1=some p.2)where
 sub:=λb d=>aBf _ (W.sub b d)
 frame:=λi h f st k=>⟨W.frame i h f st.1 λb d o e=>k b (aBf _ d) o e,λp a=>k p.1 (aAC _<|aBs a) _ (st.2 p a)⟩
 item:=λi s Q E r st c=>W.item i s Q E r st.1 λv f t u x l=>c v f t u ⟨x,λp a=>l p.1 p.2 (q p a) (st.2 p a)⟩ l
 done:=λs Q E st c=>W.done s Q E st.1 c
 self:=λi s Q E st c=>W.self i s Q E st.1 c
end MM
namespace DL
open PySem PySem.Spec L2
open PyProof.Rows hiding St
section
variable [Tabs]
section
def JA {x:Str}{a:bb}{b:Option bb}{its:Array au}{n:Nat}{sl:Array (Option au)}{ns:List Int}(c:X.mg x=some (.ref a))(d:X.K.lookup a=some ⟨.type "tuple",b,.seq its n,sl⟩)(e:n8 (ns.map V.int) its.toList)(hz:its.size<=sizeLine)(f:Gl X x:=by rfl)(g:(x==kc)=false:=by decide):
 PD X (.Name x h) (YZ (.tup (ns.map D.int))):=xZ (WI f c (show RelV (.ref a) _ from rfl) g) λH O=>.tup (.inr ⟨_,its,n,d,rfl,rfl,hz,e⟩) (Reps.ints ns)
def MG:D->D->R D
 |.non,.non=>.ok (.bl true)
 |_,.non=>.ok (.bl false)
 |_,_=>.bad
def NE:oE X (ez .Is) MG:=by
 intro H O x y d e Q h c f q;refine⟨_,kj,?_⟩;cases e with
 |non=>
  refine⟨f.ac1,?_⟩;cases d with
  |non=>rw[c.ac1];exact q _ H (Same.refl _) .bl
  |bl b=>rw[c.blI];exact q _ H (Same.refl _) .bl
  |int i=>rw[c.aa6];exact q _ H (Same.refl _) .bl
  |str z=>rw[c.ac4];exact q _ H (Same.refl _) .bl
  |tup g=>obtain⟨a,_,rfl,_⟩:=c.tupI;exact q _ H (Same.refl _) .bl
  |lst g=>obtain⟨a,_,rfl,_⟩:=c.aa5;exact q _ H (Same.refl _) .bl
  |dct=>obtain⟨a,_,rfl,_⟩:=c.af9;exact q _ H (Same.refl _) .bl
 |_=>cases d<;>exact aAk q
def NF (g:PD X e f)(h:eQ e none a.line X.env=pure false:=by rfl):qQ X (.Expr e a) (λρ=>(f ρ).bind λ_=>.ok (.nx ρ)):=λk l=>
 CD (oV g h) λD σ H O ρ E m q=>⟨k,l,O,ρ,E,by
  cases b:f ρ with
  |ok d=>rw[b]at q;exactλv c s r=>q _ c O (E.grow s) m (Kp.of s)
  |ex x=>rw[b]at q;exactλc s=>q c (E.same.trans s)
  |bad=>rw[b]at q;exact q⟩
def fD:List D->Option (List Bool)
 |[]=>some []
 |.bl b::a=>(fD a).map (b::·)
 |_::_=>none
theorem rF:∀{ds:List D} {bs:List Bool},fD ds=some bs->ds=bs.map D.bl
 |[],bs,h=>by cases h;rfl
 |.bl b::ds,bs,h=>by
  unfold fD at h;cases e:fD ds with
  |none=>rw[e]at h;cases h
  |some l=>rw[e]at h;have a:b::l=bs:=aAl h;subst a;rw[rF e];rfl
 |.non::_,_,h|.int _::_,_,h|.str _::_,_,h|.tup _::_,_,h|.lst _::_,_,h|.dct::_,_,h=>by cases h
def anyR:List D->R D
 |[.lst a]=>match fD a with
  |some bs=>.ok (.bl (bs.any id))
  |none=>.bad
 |_=>.bad
def DT {K:ka}{H:Hp}{O:bb->Prop}{ws:List V}{bs:List Bool}{its:List au}(r:Reps K H O ws (bs.map D.bl))(v:n8 ws its):its=bs.map aDy:=by
 induction bs generalizing ws its with
 |nil=>cases r;cases v;rfl
 |cons b bs a=>
  cases r with
  |cons r t=>
   cases v with
   |cons c d=>cases r;have:_=aDy b:=c;rw[this,a t d];rfl
def JW (bs:List Bool):(aAQ bs.length).any (λi=>bs.getD i false)=bs.any id:=by
 rw[aCV,aEr,aEr];constructor
 .rintro⟨i,a,e⟩;have c:i<bs.length:=by simpa using a
  refine⟨bs[i],aBE c,?_⟩;simpa[aAi,aAd c]using e
 .rintro⟨b,d,e⟩;obtain⟨i,a,rfl⟩:=aBj d;exact⟨i,by simpa using a,by simpa[aAi,aAd a]using e⟩
def ZL (y:X.calm=true):fM X (.builtin "any") anyR:=by
 intro H O h A Q fr r q;match A,q with
 |[.lst k],q=>
  obtain⟨v,rfl,z⟩:=KJ r;obtain⟨p,ws,rfl,B,l⟩:=z.aa5;simp only[anyR]at q;cases e:fD k with
  |none=>rw[e]at q;exact q.elim
  |some bs=>
   rw[e]at q;rw[rF e]at l;refine⟨λh m n=>h=[.ref p]/\m=H/\n=Q,λY s σ m k us n I C ⟨J,L,N⟩=>?_,rfl,rfl,rfl⟩;subst J L N;obtain⟨u,rfl,T⟩:=vals1 C;cases T;obtain⟨a,f,⟨U,nL,t,cL,dL,sL⟩,zL⟩:=I.list B;have w:=DT l f;have x:s.heap.IsList p a.toArray:=⟨U,t,cL,nL,sL⟩;refine call_any_walk (aDz x ⟨s.heap.objs.size,_,_,a.toArray.size,_,_,λi=>bs.getD i false,rfl,Walks.list (by simp[I.ok.hd y]) s.heap.objs.size p (aAm<|aAh t) a.toArray,⟨⟨_,aAq _ rfl,rfl,rfl⟩,x.push _⟩,λi v s' Q E c d=>?_,λh' tk kp=>?_⟩)
   .have c:a.toArray[i]?=some v:=c;have d:Q (bs.getD i false) s':=d;rw[aCN,w,aAF]at c;cases g:bs[i]? with
    |none=>rw[g]at c;cases c
    |some b=>rw[g]at c;have:aDy b=v:=aAl c;subst this;rw[aAi,g]at d;exact aBO d
   .have I2:=I.kept (h':=h') (t':=tk) λb o e=>kp b o (by simp only[aAT];exact aAm (aAh e)) (aAc _ e);refine⟨.bl (bs.any id),_,I2,?_,q _ _ (Same.refl _) .bl⟩;show aDy _=aDy _;rw[aAn,w,aAf,JW]
end
def jw (ds:List D)(i j:Nat):Bool:=HT.lexLt (flat<|ds.getD i .non) (flat<|ds.getD j .non)
def QM:List D->R D
 |[.lst a]=>if a≠[]/\a.all Y5=true then .ok (a.getD (eR (jw a) (a.length-1)) .non)else .bad
 |_=>.bad
def wF (h:cv)(its:List au):List (bb×Obj):=its.filterMap λv=>match v with
 |.ref b=>(h.get? b).map λo=>(b,o)
 |_=>none
def FM (a:aDu b∈its)(e:h.get? b=some o):(b,o)∈wF h its:=
 aBZ.mpr ⟨_,a,by show(h.get? b).map _=_;rw[e];rfl⟩
def jG (a:p∈wF h its):h.get? p.1=some p.2:=by
 obtain⟨v,_,e⟩:=aBZ.mp a;cases v with
 |ref b=>
  have e:(h.get? b).map (λo=>(b,o))=some p:=e;cases q:h.get? b with
  |none=>rw[q]at e;cases e
  |some o=>rw[q]at e;cases e;exact q
 |_=>cases e
section
def XC (hc:X.calm=true)(hu:X.A.units+300<dA):fM X (.builtin "min") QM:=by
 intro H O vs ds Q fr r q;match ds,q with
 |[.lst xs],q=>
  obtain⟨v,rfl,z⟩:=KJ r;obtain⟨p,ws,rfl,h1,h2⟩:=z.aa5;simp only[QM]at q;by_cases x:xs≠[]/\xs.all Y5=true
  .rw[i6 x]at q;obtain⟨af,x⟩:=x;have pt:∀d∈xs,Y5 d=true:=aBu.mp x;refine⟨λvs N Q'=>vs=[.ref p]/\N=H/\Q'=Q,λY s σ N xs' us Q' I rv z9=>?_,rfl,rfl,rfl⟩;obtain⟨e1,e2,e3⟩:=z9;subst e1 e2 e3;obtain⟨u,rfl,ru⟩:=vals1 rv;cases ru;obtain⟨f,y,⟨oL,nL,T,cL,dL,sL⟩,zL⟩:=I.list h1;have hl:s.heap.IsList p f.toArray:=⟨oL,T,cL,nL,sL⟩;have st:z6 X.K N O f xs:=z6.of y h2;have l:f.toArray.size=xs.length:=by rw[aAn,<-y.length,h2.length]
   have ue:0<xs.length:=aDN.mpr af;have W:=MM.walks_more (Walks.list (prog:=X.prog) (w:=X.w) (A:=X.A.in1) (by simp[I.ok.hd hc]) s.heap.objs.size p (aAm<|aAh T) f.toArray) (wF s.heap f)
    (λq t=>by simp only[aAT];exact aAm (aAh<|jG t))
   refine MM.call_minH (aDz hl ⟨s.heap.objs.size,_,_,_,f.toArray.size,_,_,λh=>∀q∈wF s.heap f,h.get? q.1=some q.2,jw xs,rfl,W.toS,⟨⟨⟨_,aAq _ rfl,rfl,rfl⟩,hl.push _⟩,λq t=>aAc _ (jG t)⟩,λb k=>?_,by rw[l];exact ue,λi s h=>h.2,λi j vi vj m Q2 E2 hh B hj t=>?_,λv m E J=>?_⟩)
   .rw[aBJ];rcases aAL.mp k with k|k
    .rcases aAe.mp k with rfl|k
     .exact aDK _
     .rcases aAe.mp k with rfl|k
      .exact aBK (aAh T)
      .cases k
    .obtain⟨q,t,rfl⟩:=aAp.mp k;exact aBK (aAh<|jG t)
   .have one:∀i v,f.toArray[i]?=some v->∃b a,v=.ref b/\IsTup m.heap b a/\IntsAre a.toList (flat<|xs.getD i .non):=λi v B=>by
     rw[aCN]at B;obtain⟨d,L,w,U,rp⟩:=J3 st B;have qo:xs.getD i .non=d:=by rw[aAi,L];rfl
     rw[qo];have C:=pt d (aAo L);obtain⟨b,a,rfl,⟨o,g,c,n,dd⟩,hia⟩:=dQ C (W2 I rp (K3 C) U);exact⟨b,a,rfl,⟨o,hh _ (FM (aAo B) g),c,n,dd⟩,hia⟩
    obtain⟨b,a,rfl,t1,i1⟩:=one i vi B;obtain⟨b',xh,rfl,t2,i2⟩:=one j vj hj;exact HT.lt_tupInts t1 t2 i1 i2 (by rw[y7];lia) t
   .have E:f.toArray[eR (jw xs) (f.toArray.size-1)]?=some v:=E;rw[aCN,l]at E;obtain⟨d,L,w,U,rp⟩:=J3 st E;have qo:xs.getD (eR (jw xs)<|xs.length-1) .non=d:=by rw[aAi,L];rfl
    rw[qo]at q;have I2:=I.kept (h':=m.heap) (t':=m.toks) λb o e=>J.heap b o (by simp only[aAT];exact aAm (aAh e)) (aAc _ e);have es:m={s with heap:=m.heap,toks:=m.toks}:=by have g1:=J.gens;have g2:=J.drawn;have g3:=J.os;cases m;simp only at g1 g2 g3;subst g1 g2 g3;rfl
    rw[es];exact⟨w,_,I2,U,q _ _ (Same.refl _) rp⟩
  .rw[ja x]at q;exact q.elim
def VB (h:SH ds)(n:Nat)(a:n<ds.length):eR (jw ds) n=0:=by
 induction n with
 |zero=>rfl
 |succ k b=>
  have e:=b (by lia);unfold eR;rw[e];have:jw ds (k+1) 0=false:=by
   unfold jw;rw[aAi,aAi,aAd a,aAd (by lia:0<ds.length)];have:=aCm.mp h 0 (k+1) (by lia) a (by lia);cases q:HT.lexLt (flat<|(some ds[k+1]).getD .non) (flat ((some (ds[0]'(by lia))).getD .non))with
   |false=>rfl
   |true=>have z:HT.lexLt (flat (ds[0]'(by lia))) (flat (ds[0]'(by lia)))=true:=TS.lex_trans _ _ _ this q;rw[TS.lex_irrefl]at z;cases z
  rw[this];rfl
end
end
section
variable [Tabs]
end
end DL
namespace DL
open PySem PySem.Spec L2
open PyProof.Rows hiding St sub_tuple_tuple sub_list_list sub_tuple_list sub_list_tuple
section
open PySem.MeetsSeq PySem.MeetsSeq2 PySem.MeetsSeq3 PySem.AutoSeq1
def OI (l:bb)(xs:Array au)(n:Nat)(b:bb)(a:Array au)(n2:Nat)(sl:Array (Option au))(f:¬(!xs.isEmpty&&aCU (xs.size+a.size))=true)(h:xs.size<=sizeLine)(k:xs.size+a.size<=sizeLine+1):
  Meets (Builtin.«list.extend» ⟨[.ref l,.ref b],[]⟩) (λ_ R s=>s.heap.get? l=some ⟨.type "list",none,.seq xs n,#[]⟩/\s.heap.get? b=some ⟨.type "list",none,.seq a n2,sl⟩/\R (.ok (.ret Value.none)) {s with heap:=s.heap.update l (aBI λx=>x++a),toks:=s.toks}):=
 .of_wp λc w A R s q=>by
  obtain⟨p,g,d,r,os⟩:=s;obtain⟨e,m,o⟩:=q;have t:=idx_int;have u:=sub_tuple_tuple;have v:=sub_list_list;have y:=sub_tuple_list;have B:=sub_list_tuple;have z:(xs++a).size<=sizeLine+1:=by rw[Array.size_append];exact k
  wp_walk using(aCf e rfl (hz:=h) (_hz':=z)),aEF e,aEF m
  exact⟨_,rfl,o⟩
end
section
def yk (K:ka):V->List V->Hp->VK->Prop:=λx d H Q=>∃l b a c,x=.ref l/\d=[.ref b]/\H l=some (.lst a)/\P9 K H b c/\a.length+c.length<=sizeLine/\Q .non (upd H l<|.lst (a++c))
def gz:MtM X "list.extend" (yk X.K):=by
 intro Y s σ H x N v O Q I t w h;obtain⟨l,b,T,U,rfl,rfl,g,y,hz,q⟩:=h;cases t;obtain⟨u,rfl,A⟩:=w.one;cases A;obtain⟨z,a,n,r,hl,e⟩:=I.af2 g;obtain⟨d,k,⟨⟨B,vp,C,E⟩,J,L,m,o,p⟩,z2⟩:=I.list y;simp only at m o p;subst m o p;have lh:=k.length;have f:a.toArray.size+d.toArray.size<=sizeLine:=by rw[aAn,aAn];lia
 have c:¬(!a.toArray.isEmpty&&aCU (a.toArray.size+d.toArray.size))=true:=by rw[NV f,aGd];exact aAY
 refine call_meets F.slot_list_extend ⟨_,e,rfl⟩ F.entry_list_extend (F.args_list_extend_2 _ _) (OI l a.toArray n b d.toArray J E c (by rw[aAn];lia) (by lia)) ⟨e,L,?_⟩;refine⟨.non,_,I.af3 (its':=a++d) g e (by simp) (r.append k) ?_,rfl,q⟩;rw[aAx]
 lia
end
variable [Tabs]
section
def ER (i:Nat)(B:PD X e f)(I:X.N[i]?=some x:=by rfl)(J:BZ X.env.scope x:=by first|exact aCK rfl|exact aBU (aCK rfl)|exact aBU (aBU rfl))(L:(x==kc)=false:=by decide)(Q:(x==kd)=false:=by decide)(T:gs (.Name x p) "extend" X.env (dC (.Name x p) X.env)=dC (.Name x p) X.env:=by rfl)(Y:((dq g (a5 [e] X.env)).all (λx=>!x.1)&&(backToKw g (keywordEach [] X.env)).all (λx=>x.1.isSome)
   &&decide ([e].length+([]:List Keyword).length+(if([]:List Keyword).isEmpty then 0 else 1)<30))=true:=by rfl) (dg:(b.endLine==g.line)=true:=by rfl) (s:a5 [e] X.env=(false,dC e X.env)::a5 [] X.env:=by rfl) (ju:(dq g (a5 [] X.env)).any (·.1)=false:=by rfl) (wo:eQ (.Call (.Attribute (.Name x p) "extend" b) [e] [] g) none n.line X.env=pure false:=by rfl):
  qQ X (.Expr (.Call (.Attribute (.Name x p) "extend" b) [e] [] g) n) (λρ=>(f ρ).bind (ay i ρ)):=λH9 O0=>
 CD (oV (YB PySem.F.plainAttrs_list PySem.F.slot_list_extend PySem.F.type_list_extend gz (R7 I J L Q) (f8 B o7 s) T Y dg s ju) wo) λD σ H O ρ E fk q=>by
 cases k:f ρ with
 |ok d=>
  rw[k,R.aa0]at q;unfold ay at q;cases h:ρ[i]? with
  |none=>rw[h]at q;exact aAk q
  |some t=>
   rw[h]at q;cases t with
   |x C=>exact aAk q
   |c m φ=>exact aAk q
   |d U=>exact aAk q
   |no=>exact aAk q
   |v d=>exact aAk q
   |o xs=>
    cases d with
    |lst ys=>
     dsimp only at q;split at q
     .rename_i hz;obtain⟨a,u,w,h2,h3,y,z⟩:=E.own i xs h;refine⟨_,w,.inl ⟨rfl,u,P9.of y⟩,H9,O0,O,ρ,E,?_⟩;show JB X H O ((f ρ).bind λd=>(R.ok []).bind λds=>.ok (d::ds)) _;rw[k];intro us H1 l r;cases r with
      |cons r rn=>
       cases rn;have E1:=E.grow l;cases r with
       |lst hb nb A=>refine⟨a,_,u,_,rfl,rfl,l _ _ y,hb,by rw[z.length,A.length];exact hz,?_⟩;obtain⟨E2,k2⟩:=E1.write h w ((z.same l).append A);exact q σ _ O E2 fk ((Kp.of l).trans k2)
     .exact aAk q
    |_=>exact aAk q
 |ex x=>
  rw[k]at q;cases h:ρ[i]? with
  |none=>exact(q H E.same).elim
  |some t=>exact(q H E.same).elim
 |bad=>rw[k]at q;exact aAk q
end
end DL
namespace TS
open PySem PyProof.Rows HT
section
def ID (A:cp)(s:a9)(x y:au)(b:Bool):Prop:=∀(a:be) (w:cq) (E:F5) (Q:AD),Q b s->av (bc a w) A (oneLt' false x y) Q E s
def lt_two {Q:AD}(e:IsTup s.heap l #[p,r])(g:IsTup s.heap b #[a,c])(h:f=false)(k:SeqAt.EqAt A s p a e1)(m:e1=false->ID A s p a b1)(t:e1=true->SeqAt.EqAt A s r c e2)(u:e1=true->e2=false->ID A s r c b2)(q:Q (bif e1 then(bif e2 then false else b2)else b1) s):av (bc prog w) A (keyLt' (tupK f) (.ref l) (.ref b)) Q E s:=by
 obtain⟨o,v,z,n,x⟩:=e;obtain⟨B,y,C,H,d⟩:=g;subst h;rw[vI];refine aAa (aEn v x<|aAa<|aEn y d ?_);show av _ _ (forIn [((p,a),0),((r,c),1)] _ _>>=_) _ _ _;rw[aCW];refine aAa (aAa ?_);refine aAa (k _ _ _ _ ?_);cases e1 with
 |false=>refine aAa (m rfl _ _ _ _ ?_);exact aAb (aAb<|aAb q)
 |true=>
  refine aAb ?_;dsimp only;rw[aCW];refine aAa ?_;refine aAa (t rfl _ _ _ _ ?_);cases e2 with
  |false=>refine aAa (u rfl rfl _ _ _ _ ?_);exact aAb (aAb<|aAb q)
  |true=>refine aAb ?_;dsimp only;rw[aEg];exact aAb (aAb q)
def SW (h:∀(prog:be) (w:cq) (E:F5) (Q:F5),Q (.bool b) s->av (bc prog w) A (richCompare .Lt x y) Q E s):ID A s x y b:=λprog w E Q q=>by rw[oneLt'_eq];simp only[aAs,if_false];exact aAa (h prog w _ _<|aBO q)
def oneLt_tup (c:IsTup s.heap l items)(d:IsTup s.heap b e)(f:IntsAre items.toList ns)(g:IntsAre e.toList h)(k:A.units<dA):ID A s (.ref l) (.ref b) (HT.lexLt ns h):=
 SW λa w E Q q=>HT.lt_tupInts c d f g k q
end
end TS
namespace DL
open PySem PySem.Spec L2
open PyProof.Rows hiding St
section
def wT (k:D->List Int)(d:D):List D->List D
 |[]=>[d]
 |x::a=>if HT.lexLt (k d) (k x)=true then d::x::a else x::wT k d a
def pM (k:D->List Int)(ds:List D):List D:=ds.foldr (wT k) []
def tK (k:D->List Int)(ds:List D):Prop:=ds.Pairwise λx y=>HT.lexLt (k x) (k y)=true
theorem lC (k:D->List Int)(d:D):∀xs:List D,(wT k d xs).Perm (d::xs)
 |[]=>.refl _
 |x::xs=>by
  unfold wT;split
  .exact .refl _
  .exact((lC k d xs).cons x).trans (.swap d x xs)
theorem Y7 (k:D->List Int):∀ds:List D,(pM k ds).Perm ds
 |[]=>.refl _
 |d::ds=>(lC k d (pM k ds)).trans ((Y7 k ds).cons d)
theorem AA:∀{xs:List D},tK k xs->(∀x∈xs,k x≠k d)->tK k (wT k d xs)
 |[],_,_=>aDU _ _
 |x::xs,h,n=>by
  have b:=aAA.mp h;unfold wT;split
  .rename_i lt;refine aAA.mpr ⟨λy a=>?_,h⟩;rcases aAe.mp a with rfl|a
   .exact lt
   .exact TS.lex_trans _ _ _ lt (b.1 y a)
  .rename_i c;refine aAA.mpr ⟨λy a=>?_,AA b.2 λz e=>n z (.tail _ e)⟩;rcases aAe.mp ((lC k d xs).mem_iff.mp a)with rfl|a
   .cases q:HT.lexLt (k x) (k y)with
    |true=>rfl
    |false=>exact absurd (TS.lex_total _ _ q (by simpa using c)) (n x<|.head _)
   .exact b.1 y a
theorem lF:∀{ds:List D},(ds.map k).Nodup->tK k (pM k ds)
 |[],_=>.nil
 |d::ds,h=>by rw[aAu,aAH]at h;refine AA (lF h.2) λx a e=>h.1 ?_;rw[<-e];exact aBs ((Y7 k ds).mem_iff.mp a)
theorem gC:∀{xs a:List D},tK k xs->tK k a->xs.Perm a->xs=a
 |[],a,_,_,p=>(List.nil_perm.mp p).symm
 |x::xs,[],_,_,p=>by have:=p.length_eq;simp at this
 |x::xs,y::a,f,g,p=>by
  have d:=aAA.mp f;have e:=aAA.mp g;have b:x=y:=by
   rcases aAe.mp (p.mem_iff.mp<|.head _)with q|q
   .exact q
   .rcases aAe.mp (p.mem_iff.mpr<|.head _)with c|c
    .exact c.symm
    .have:=TS.lex_trans _ _ _ (e.1 x q) (d.1 y c);rw[TS.lex_irrefl]at this;cases this
  subst b;rw[gC d.2 e.2 ((List.perm_cons x).mp p)]
def UE [Tabs]{R:au->D->Prop}{key:au->List Int}{k:D->List Int}{a:List au}{ds:List D}(st:Paired R a ds)(o:a.Pairwise λx y=>HT.lexLt (key y) (key x)=false)(p:(ds.map k).Nodup)(c:∀u d,R u d->d∈ds->key u=k d):tK k ds:=by
 induction st with
 |nil=>exact .nil
 |@cons u d a ds r t q=>
  have f:=aAH.mp p;have g:=aAA.mp o;refine aAA.mpr ⟨λe s=>?_,q g.2 f.2 λu d h v=>c u d h (.tail _ v)⟩;obtain⟨j,b,rfl⟩:=aBj s;have m:j<a.length:=by rw[t.length];exact b
  obtain⟨A,n,w⟩:=J3 t (aAd m);rw[aAd b]at n;cases n;have l:=g.1 a[j] (aBE m);rw[c _ _ w (.tail _ (aBE b)),c u d r (.head _)]at l;cases z:HT.lexLt (k d) (k ds[j])with
  |true=>rfl
  |false=>exact absurd (aAp.mpr ⟨ds[j],aBE b,(TS.lex_total _ _ z l).symm⟩) f.1
def uj:D->Bool
 |.tup [p,.lst _]=>Y5 p
 |_=>false
def V2:D->List Int
 |.tup (p::_)=>flat p
 |_=>[]
def aj (h:uj d=true):∃p r,d=.tup [p,.lst r]/\Y5 p=true/\V2 d=flat p:=by
 unfold uj at h;split at h
 .exact⟨_,_,rfl,h,rfl⟩
 .cases h
def sfR:D->R (List D)
 |.lst a=>if a.all uj=true/\(a.map V2).Nodup/\a.length<=63 then .ok (pM V2 a)else .bad
 |_=>.bad
variable [Tabs]
def FV (h:cv)(u:au)(l:List Int):Prop:=∃b p r d,u=.ref b/\IsTup h b #[p,r]/\Y5 d=true/\HV h p d/\flat d=l
def FV.inj (x:FV h u l)(y:FV h u m):l=m:=by obtain⟨b,p,r,d,rfl,⟨o,g,_,n,q⟩,_,s,rfl⟩:=x;obtain⟨v,w,z,A,e,⟨B,c,_,C,f⟩,_,a,rfl⟩:=y;cases e;rw[g]at c;cases c;rw[q]at f;injection f with t _;have k:=jk aFO t;simp only[aEM]at k;obtain⟨rfl,_⟩:=k;rw[HV.inj s a]
def IX (h:cv) (u:au):List Int:=open Classical in if p:∃l,FV h u l then p.choose else[]
def kL (x:FV h u l):IX h u=l:=by unfold IX;rw[dif_pos ⟨l,x⟩];exact FV.inj (Exists.choose_spec (⟨l,x⟩:∃l,FV h u l)) x
section
def NY (I:Inv X Y σ H s)(r:Rep X.K H O v d)(h:uj d=true)(e:RelV v u):FV s.heap u (V2 d):=by
 obtain⟨p,ring,rfl,c,f⟩:=aj h;cases r with
 |tup q a=>
  cases e;obtain⟨g,b,k,_⟩:=I.tuple q;cases a with
  |cons l a=>
   cases a with
   |cons m a=>
    cases a;cases b with
    |cons v1 b=>
     cases b with
     |cons n b=>cases b;exact⟨_,_,_,p,rfl,k,c,W2 I l (K3 c) v1,f.symm⟩
end
section
def CJ (ha:PB X e f)(hh:X.calm=true)(hu:X.A.units+300<dA)(hg:Gl X "sorted":=by rfl)(hm:X.mg "sorted"=none:=by assumption)(hv:cy "sorted"=some (.builtin "sorted"):=by decide+kernel)(he:a5 [e] X.env=(false,dC e X.env)::a5 [] X.env:=by rfl)(M9:(dq pos (a5 [] X.env)).any (·.1)=false:=by rfl):
  PF X (.Call (.Name "sorted" p) [e] [] pos) (λρ=>(f ρ).bind sfR):=by
 refine tR λY s σ H Q I H9 O0 O ρ E q=>?_;dsimp only at q;refine aAO (M6 I hg hm hv ?_ (by decide) (by decide));have lg:PA X [e] _:=K0 ha bB he;refine aBx (F6 (lg pos Y s σ H (λvs H1=>∃v t,vs=[v]/\f ρ=.ok (.lst t)/\Same H H1/\B8 X.K H1 O v (.lst t)) I ⟨H9,O0,O,ρ,E,?_⟩) λus J z9=>?_) he M9
 .cases e1:f ρ with
  |ex z=>rw[e1]at q;exact q
  |bad=>rw[e1]at q;exact q.elim
  |ok d=>
   rw[e1,R.aa0]at q;cases d with
   |lst t=>exactλv H1 J r1=>⟨v,t,rfl,rfl,J,r1⟩
   |_=>exact aAk q
 .obtain⟨vs,H1,I1,r1,v,t,ev,ef,sm,rb⟩:=z9;subst ev;rw[ef,R.aa0]at q;obtain⟨a,ws,rfl,hS,rr⟩:=rb.aa5;obtain⟨u,rfl,ru⟩:=vals1 r1;cases ru;obtain⟨m,rv,⟨oL,nL,gL,cL,dL,sL⟩,zL⟩:=I1.list hS;have hl:J.heap.IsList a m.toArray:=⟨oL,gL,cL,nL,sL⟩;simp only[sfR]at q;by_cases hc:t.all uj=true/\(t.map V2).Nodup/\t.length<=63
  .rw[i6 hc]at q;obtain⟨jv,nd,si⟩:=hc;have fc:∀d∈t,uj d=true:=aBu.mp jv;have st:z6 X.K H1 O m t:=z6.of rv rr;have hlen:m.length=t.length:=st.length;have B:∀u∈m,∃i d,m[i]?=some u/\t[i]?=some d/\FV J.heap u (V2 d):=λu hu=>by obtain⟨i,hi,rfl⟩:=aBj hu;obtain⟨d,hd,w,oh,rp⟩:=J3 st (aAd hi);exact⟨i,d,aAd hi,hd,NY I1 rp (fc d<|aAo hd) oh⟩
   have keq:∀u∈m,∀u'∈m,IX J.heap u=IX J.heap u'->u=u':=λu hu u' ba e=>by
    obtain⟨i,d,hi,hd,fv⟩:=B u hu;obtain⟨j,d',hj,qo,fv'⟩:=B u' ba;rw[kL fv,kL fv']at e;have eij:i=j:=by obtain⟨li,ei⟩:=aAy.mp hd;obtain⟨lj,ej⟩:=aAy.mp qo;refine(aFC (xs:=t.map V2) (i:=i) (j:=j) (h₀:=by simpa using li) (h₁:=by simpa using lj) nd).mp ?_;rw[aEv,aEv,ei,ej];exact e
    subst eij;rw[hi]at hj;cases hj;rfl
   refine TS.sorted_keys (vs:=m) (f:=false) (key:=IX J.heap) (C:=λs'=>∃h',s'={J with heap:=h'}/\∀b o,J.heap.get? b=some o->h'.get? b=some o)
    (λ{Q'} hq=>collect_list hl (hq _ ⟨_,rfl,λb o e=>?_⟩) (by rw[hlen];exact aAr si (by decide)))
    (λs' ⟨h',U,k⟩ s6 k6 x hx y hy prog w A E hA {Q} qq=>?_) (λh2 s' ⟨h',U,k⟩ s6 k6 A {Q} qq=>?_) (by rw[hlen];lia) λs' gm h' l ⟨h1,U,k⟩ pm zo k2 hl ⟨n,gl⟩=>?_
   .exact(aAE _ _<|aCi<|aAm<|aAh e).trans (aAc _ e)
   .subst U;have kk:∀b o,J.heap.get? b=some o->s6.heap.get? b=some o:=λb o e=>k6 b o (k b o e);obtain⟨i,d,hi,hd,fv⟩:=B x hx;obtain⟨j,d',hj,qo,fv'⟩:=B y hy;have kx:=kL fv;have ky:=kL fv';have eqk:=keq x hx y hy;rw[kx,ky]at qq;rw[kx,ky]at eqk;obtain⟨b,p1,r1,d1,rfl,⟨o,g,c,n,dd⟩,N,hv1,e1⟩:=fv;obtain⟨b',p2,r2,d2,rfl,⟨o',g',c',n',zi⟩,hp2,hv2,e2⟩:=fv';have L:HV s6.heap p1 d1:=hv1.keeps λb o e _=>kk b o e;have hv2':HV s6.heap p2 d2:=hv2.keeps λb o e _=>kk b o e;have hA':A.units+8<dA:=by lia
    obtain⟨c1,i1,rfl,t1,ia1⟩:=dQ N L;obtain⟨c2,i2,rfl,t2,ia2⟩:=dQ hp2 hv2';rw[<-e1,<-e2]at qq eqk;refine TS.lt_two (e1:=x5 d1 d2) (e2:=true) (b1:=HT.lexLt (flat d1) (flat d2)) (b2:=false) ⟨o,kk _ _ g,c,n,dd⟩ ⟨o',kk _ _ g',c',n',zi⟩ rfl (GD L hv2' (by have:=IM N;lia)) (λ_=>TS.oneLt_tup t1 t2 ia1 ia2 (by lia)) (λeq=>?_) (λ_ z=>by cases z) ?_
    .have ed:=kA (K3 N) (K3 hp2) eq;have er:=eqk (by rw[ed]);cases er;rw[g]at g';cases g';rw[dd]at zi;injection zi with e3 _;have e4:=jk aFO e3;simp only[aEM]at e4;rw[e4.2.1];exact aEa _
    .cases z:x5 d1 d2 with
     |false=>exact qq
     |true=>have ed:=kA (K3 N) (K3 hp2) z;rw[ed,TS.lex_irrefl]at qq;exact qq
   .subst U;have kk:∀b o,J.heap.get? b=some o->s6.heap.get? b=some o:=λb o e=>k6 b o (k b o e);have sg:∀x∈m,∃p,∃b r,x=.ref b/\IsTup s6.heap b r/\r[0]?=some p/\s6.TypeIs p "tuple":=λx hx=>by obtain⟨i,d,hi,hd,fv⟩:=B x hx;obtain⟨b,p1,r1,d1,rfl,⟨o,g,c,n,dd⟩,N,hv1,e1⟩:=fv;have L:HV s6.heap p1 d1:=hv1.keeps λb o e _=>kk b o e;obtain⟨c1,i1,rfl,⟨o1,g1,cc1,_⟩,ia1⟩:=dQ N L;exact⟨_,b,_,rfl,⟨o,kk _ _ g,c,n,dd⟩,rfl,⟨o1,g1,cc1⟩⟩
    obtain⟨gf,hgf⟩:∃gf:au->au,∀x∈m,∃b r,x=.ref b/\IsTup s6.heap b r/\r[0]?=some (gf x)/\s6.TypeIs (gf x) "tuple":=by refine⟨λx=>open Classical in if z:x∈m then(sg x z).choose else .none,λx hx=>?_⟩;dsimp only;rw[dif_pos hx];exact(sg x hx).choose_spec
    exact TS.kind_tuples (T:= "tuple") gf hgf (λz=>by rw[z]at h2;simp at h2) (by decide) qq
   .subst U;obtain⟨oi,p2,ma⟩:=fF pm st;have hk:∀u d,(∃v,RelV v u/\Rep X.K H1 O v d)->d∈t->IX J.heap u=V2 d:=by rintro u d ⟨v,rv,rp⟩ hd;exact kL (NY I1 rp (fc d hd) rv)
    have uf:(oi.map V2).Nodup:=(p2.map V2).nodup_iff.mpr nd;have sr:tK V2 oi:=UE (R:=λu d=>∃v,RelV v u/\Rep X.K H1 O v d) ma zo uf λu d h hd=>hk u d h (p2.mem_iff.mp hd);have e2:oi=pM V2 t:=gC sr (lF nd) (p2.trans (Y7 V2 t).symm);subst e2;obtain⟨wv,oh,ko⟩:=z6.ac0 ma;have I2':=I1.kept (h':=h1) (t':=J.toks) k;have I3:=I2'.laid (a:=l) (o:=.lst wv) (h':=h') (t':=J.toks) k2 hl ⟨by rw[ko.length,(Y7 V2 t).length_eq];exact aAr si (by decide),gm,n,oh,gl⟩;exact⟨.ref l,_,I3,rfl,q wv _ l sm (I2'.hok.fresh hl) ko⟩
  .rw[ja hc]at q;exact q.elim
end
end
section
def rX:List Int->Int
 |[]=>0
 |a::l=>l.foldl max a
def sJ:List Int->Int
 |[]=>0
 |a::l=>l.foldl min a
theorem X3:∀(l:List Int) (a:Int),(l.foldl max a=a\/l.foldl max a∈l)/\a<=l.foldl max a/\∀b∈l,b<=l.foldl max a
 |[],a=>⟨.inl rfl,aCt _,λb h=>by cases h⟩
 |c::l,a=>by
  obtain⟨d,g,f⟩:=X3 l (max a c);rw[aDs];refine⟨?_,by lia,λb e=>?_⟩
  .rcases d with d|d
   .rw[d];rcases aGC a c with q|q
    .exact .inr (by rw[Int.max_eq_right q];exact .head _)
    .exact .inl (Int.max_eq_left q)
   .exact .inr (.tail _ d)
  .rcases aAe.mp e with rfl|e
   .lia
   .exact f b e
theorem W8:∀(l:List Int) (a:Int),(l.foldl min a=a\/l.foldl min a∈l)/\l.foldl min a<=a/\∀b∈l,l.foldl min a<=b
 |[],a=>⟨.inl rfl,aCt _,λb h=>by cases h⟩
 |c::l,a=>by
  obtain⟨d,g,f⟩:=W8 l (min a c);rw[aDs];refine⟨?_,by lia,λb e=>?_⟩
  .rcases d with d|d
   .rw[d];rcases aGC a c with q|q
    .exact .inl (Int.min_eq_left q)
    .exact .inr (by rw[Int.min_eq_right q];exact .head _)
   .exact .inr (.tail _ d)
  .rcases aAe.mp e with rfl|e
   .lia
   .exact f b e
def AN (h:ns≠[]):rX ns∈ns:=by
 cases ns with
 |nil=>exact absurd rfl h
 |cons a l=>
  rcases(X3 l a).1 with q|q
  .show l.foldl max a∈_;rw[q];exact .head _
  .exact .tail _ q
def wE (h:a∈ns):a<=rX ns:=by
 cases ns with
 |nil=>cases h
 |cons b l=>
  rcases aAe.mp h with rfl|h
  .exact(X3 l a).2.1
  .exact(X3 l b).2.2 a h
def zN (h:ns≠[]):sJ ns∈ns:=by
 cases ns with
 |nil=>exact absurd rfl h
 |cons a l=>
  rcases(W8 l a).1 with q|q
  .show l.foldl min a∈_;rw[q];exact .head _
  .exact .tail _ q
def xD (h:a∈ns):sJ ns<=a:=by
 cases ns with
 |nil=>cases h
 |cons b l=>
  rcases aAe.mp h with rfl|h
  .exact(W8 l a).2.1
  .exact(W8 l b).2.2 a h
def GI:List D->R D
 |[.lst b]=>match kD b with
  |some a=>if a≠[]then .ok (.int (rX a))else .bad
  |none=>.bad
 |_=>.bad
def IN:List D->R D
 |[.lst b]=>match kD b with
  |some a=>if a≠[]then .ok (.int (sJ a))else .bad
  |none=>.bad
 |_=>.bad
variable [Tabs]
section
def yB (c:IntsAre its ns)(e:its.toArray=intItems b):∀i,i3 b i=ns.getD i 0:=λi=>by have a:=nums_intItems b;rw[<-e]at a;have d:=c.numsOf;rw[show its.toArray.toList=its from rfl,d]at a;rw[a];unfold i3;rw[aAi,aAF,<-aAD]
def GE (A:X.calm=true):fM X (.builtin "max") GI:=by
 intro H O h B Q fr r q;match B,q with
 |[.lst C],q=>
  obtain⟨v,rfl,z⟩:=KJ r;obtain⟨p,ws,rfl,k,l⟩:=z.aa5;simp only[GI]at q;cases e:kD C with
  |none=>rw[e]at q;exact q.elim
  |some c=>
   rw[e]at q;dsimp only at q;by_cases d:c≠[]
   .rw[i6 d]at q;rw[lD e]at l;rw[mI l]at k;refine⟨λh m n=>h=[.ref p]/\m=H/\n=Q,λY s σ m E us n I J ⟨L,N,T⟩=>?_,rfl,rfl,rfl⟩;subst L N T;obtain⟨u,rfl,U⟩:=vals1 J;cases U;obtain⟨its,r',pl,hz⟩:=I.list k;have f:=DL.Y1 r';obtain⟨a,g⟩:=f.allInts.items;have o:=pl.isList;rw[g]at o;have w:a.size=c.length:=by have:=jk Array.size g;rw[aAn,f.length]at this;simpa[intItems]using this.symm
    have ue:0<c.length:=aDN.mpr d;refine max_intList (I.ok.hd A) o (by lia) λv h' tk hv hk=>?_;obtain⟨t,rfl⟩:=intItems_at hv;obtain⟨g1,x⟩:=argBest_gt (i3 a) (a.size-1);have em:i3 a (eR (λi j=>decide (i3 a i>i3 a j))<|a.size-1)=rX c:=by
     generalize eR (λi j=>decide (i3 a i>i3 a j)) (a.size-1)=b at g1 x;have m1:i3 a b∈c:=by rw[yB f g,aAi,aAd (by lia)];exact aBE _
     have m2:=wE m1;obtain⟨j,hj,ej⟩:=aBj (AN d);have y:=x j (by lia);rw[yB f g j,aAi,aAd hj]at y;have m4:c[j]<=i3 a b:=y
     lia
    rw[em];exact⟨.int (rX c),_,I.kept hk,⟨t,rfl⟩,q _ _ (Same.refl _) .int⟩
   .rw[ja d]at q;exact q.elim
def GZ (A:X.calm=true):fM X (.builtin "min") IN:=by
 intro H O h B Q fr r q;match B,q with
 |[.lst C],q=>
  obtain⟨v,rfl,z⟩:=KJ r;obtain⟨p,ws,rfl,k,l⟩:=z.aa5;simp only[IN]at q;cases e:kD C with
  |none=>rw[e]at q;exact q.elim
  |some c=>
   rw[e]at q;dsimp only at q;by_cases d:c≠[]
   .rw[i6 d]at q;rw[lD e]at l;rw[mI l]at k;refine⟨λh m n=>h=[.ref p]/\m=H/\n=Q,λY s σ m E us n I J ⟨L,N,T⟩=>?_,rfl,rfl,rfl⟩;subst L N T;obtain⟨u,rfl,U⟩:=vals1 J;cases U;obtain⟨its,r',pl,hz⟩:=I.list k;have f:=DL.Y1 r';obtain⟨a,g⟩:=f.allInts.items;have o:=pl.isList;rw[g]at o;have w:a.size=c.length:=by have:=jk Array.size g;rw[aAn,f.length]at this;simpa[intItems]using this.symm
    have ue:0<c.length:=aDN.mpr d;refine min_intList (I.ok.hd A) o (by lia) λv h' tk hv hk=>?_;obtain⟨t,rfl⟩:=intItems_at hv;obtain⟨g1,x⟩:=argBest_lt (i3 a) (a.size-1);have em:i3 a (eR (λi j=>decide (i3 a i<i3 a j))<|a.size-1)=sJ c:=by
     generalize eR (λi j=>decide (i3 a i<i3 a j)) (a.size-1)=b at g1 x;have m1:i3 a b∈c:=by rw[yB f g,aAi,aAd (by lia)];exact aBE _
     have m2:=xD m1;obtain⟨j,hj,ej⟩:=aBj (zN d);have y:=x j (by lia);rw[yB f g j,aAi,aAd hj]at y;have m4:i3 a b<=c[j]:=y
     lia
    rw[em];exact⟨.int (sJ c),_,I.kept hk,⟨t,rfl⟩,q _ _ (Same.refl _) .int⟩
   .rw[ja d]at q;exact q.elim
def NP (K:ka)(mg:fL)(x:Str)(ns:List Int):Prop:=∃a c b n d,mg x=some (.ref a)/\K.lookup a=some ⟨.type "tuple",c,.seq b n,d⟩/\n8 (ns.map V.int) b.toList/\b.size<=sizeLine
omit [Tabs]in
def ZP {K:ka}{mg:fL}{x:Str}{a:bb}{b:Option bb}{n:Nat}{sl:Array (Option au)}{i j k:Int}{t u v:Tok}(c:mg x=some (.ref a))(d:K.lookup a=some ⟨.type "tuple",b,.seq #[.int i t,.int j u,.int k v] n,sl⟩):NP K mg x [i,j,k]:=
 ⟨a,b,_,n,sl,c,d,.cons ⟨t,rfl⟩ (.cons ⟨u,rfl⟩ (.cons ⟨v,rfl⟩ .nil)),show 3<=sizeLine by decide⟩
def xF (c:NP X.K X.mg x ns)(b:Gl X x:=by rfl)(d:(x==kc)=false:=by decide):PD X (.Name x e) (YZ (.tup (ns.map D.int))):=by obtain⟨a,m,f,n,o,g,h,k,l⟩:=c;exact JA g h k l b d
end
end
section
variable [Tabs]
section
variable{K:ka}
structure FunC (K:PySem.W.Frag)(x qual:Str)(st:Stmt)(f:Addr)(fd:FuncData)(cd:Addr):Prop where
 ex:∃(oc:Value) (od:Option Addr) (kV doc pm:Value) (an:Option Addr) (ct:Value) (osl:Array (Option Value)),
  fd=PySem.W.fnOf x qual (G8 st) (u9 st) (c7 st) .none kV doc pm an (.ref cd) ct/\K.lookup f=some ⟨oc,od,.func fd,osl⟩/\PySem.W.codeIn K (.ref cd) qual=true
 kp:PySem.W.keepIn K (.ref f)=true
omit [Tabs]in
def FunC.fn {x qual:Str}{st:dm}{f:bb}{fd:d9}{cd:bb}(F:FunC K x qual st f fd cd):Fun K x qual st f fd:=
 let⟨c,d,kV,a,e,g,h,b,k,l,m⟩:=F.ex
 ⟨⟨c,d,kV,a,e,g,.ref cd,h,b,k,l,m⟩,F.kp⟩
omit [Tabs]in
def UX {x qual:Str}{st:dm}{f cd:bb}{h:au}{m d:Option bb}{b:Array (Option au)}{kV a g T ct:au}(l:K.lookup f=some ⟨h,m,.func (PySem.W.fnOf x qual (G8 st) (u9 st) (c7 st) .none kV a g d T ct),b⟩)
  (e:T=.ref cd) (c:PySem.W.codeIn K T qual=true) (k:PySem.W.keepIn K (.ref f)=true):FunC K x qual st f (PySem.W.fnOf x qual (G8 st) (u9 st) (c7 st) .none kV a g d T ct) cd:=by
 subst e;exact⟨⟨h,m,kV,a,g,d,ct,b,rfl,l,c⟩,k⟩
def a3j {x qual:Str}{st:dm}{f cd:bb}{fd:d9}{N ps:List Str}{k:Nat}{m:List D->R D}{F:Ev->R Out}(l:FunC K x qual st f fd cd)(S:FnScope N ps (c7 st))
  (n:∀(A:cp) (a:List Env) (s:a9) (H:Hp) (E:XK),Room k (A.deeper (envOfC qual (c7 st) s.heap.objs.size f (.ref cd)))->dH (WV P w K mg base N qual (c7 st) f (.ref cd) A a s H E) (u9 st) F)
  (p:∀ds d,ds.length=ps.length->m ds=.ok d->N6 (F (j6 N ds))=.ok d):FnOk P w K mg base wN (k+1) f fd ps (tw K ps.length m):=by
 obtain⟨Y,od,kV,t,pm,an,ct,u,rfl,lk,v⟩:=l.ex;refine YF lk v S (by rintro y H Q E ⟨O,ds,d,r,c,_⟩;rw[r.length];exact c) λA a s H y Q E z B=>?_;obtain⟨O,ds,d,r,c,C,I,J,e,q⟩:=B;refine⟨_,xQ.nox (n A a s H E z H O),O,_,uR r C I,J,?_⟩;have h:=p ds d c e;cases g:F (j6 N ds)with
 |ok o=>
  rw[g]at h;cases o with
  |rt L=>have b:R.ok L=R.ok d:=h;injection b with b;subst b;exact q
  |nx ρ=>have b:R.ok D.non=R.ok d:=h;injection b with b;subst b;exactλah T O' U _ _=>q .non T U.same .non
  |bk ρ=>cases h
  |ct ρ=>cases h
 |ex x=>rw[g]at h;cases h
 |bad=>rw[g]at h;cases h
def VC {x qual:Str}{st:dm}{f cd:bb}{fd:d9}{N ps:List Str}{k:Nat}{m:List D->R D}{F:Ev->R Out}(c:FunC K x qual st f fd cd)(S:FnScope N ps (c7 st))(b:Binds K fd ps [])(e:mg x=some (.ref f))
  (g:∀(A:cp) (a:List Env) (s:a9) (H:Hp) (E:XK),Room k (A.deeper (envOfC qual (c7 st) s.heap.objs.size f (.ref cd)))->dH (WV P w K mg base N qual (c7 st) f (.ref cd) A a s H E) (u9 st) F)
  (h:∀ds d,ds.length=ps.length->m ds=.ok d->N6 (F (j6 N ds))=.ok d):u8 P w K mg base (k+1) x ps.length m:=
 ⟨f,fd,ps,a3j c S g h,b,c.kp,e⟩
def WS (P:be)(w:cq)(K:ka)(mg:fL)(base:cv)(k c:Nat)(x:Str)(M:D->(List D->R D)->(List D->R D)->R D):Prop:=
 ∃g b a,FnOk P w K mg base wN k g b a (spF K (LX P w K mg base c 1) M)/\Binds K b a []/\PySem.W.keepIn K (.ref g)=true/\mg x=some (.ref g)/\a.length=3
def WW {x qual:Str}{st:dm}{f:bb}{fd:d9}{N ps:List Str}{k c:Nat}{M:D->(List D->R D)->(List D->R D)->R D}{F:Ev->R Out}(e:Fun K x qual st f fd)(S:FnScope N ps (c7 st))(g:ps.length=3)(b:Binds K fd ps [])(n:mg x=some (.ref f))
  (o:∀(T:au) (A:cp) (a:List Env) (s:a9) (H:Hp) (E:XK),Room k (A.deeper (envOfC qual (c7 st) s.heap.objs.size f T))->dH (WV P w K mg base N qual (c7 st) f T A a s H E) (u9 st) F)
  (p:∀h l m d,M h l m=.ok d->N6 (F (kZ N (LX P w K mg base c 1) h l m))=.ok d):WS P w K mg base (k+1) c x M:=
 ⟨f,fd,ps,fnF e S g o p,b,e.kp,n,g⟩
end
section
def BS (i:Nat){Φ:(List D->R D)->Hp->(bb->Prop)->bb->Prop}(a:LX X.prog X.w X.K X.mg X.base k n=Φ)(c:LY X (e::es) f)(d:JM f n)(g:Room k X.A)(h:X.N[i]?=some x:=by rfl)(l:BZ X.env.scope x:=by first|exact aCK rfl|exact aBU (aCK rfl)|exact aBU (aBU rfl))(m:(x==kc)=false:=by decide)(o:(x==kd)=false:=by decide)(q:a5 (e::es) X.env=(false,dC e X.env)::a5 es X.env:=by rfl)(M9:(dq b (a5 es X.env)).any (·.1)=false:=by rfl):
  PD X (.Call (.Name x p) (e::es) [] b) (callC Φ i f):=by
 subst a;exact QB i c d g h l m o q M9
def FT (s:NstOk X k n1)(t:NstOk X k n2)(u:ClosOk X n1 clos1)(v:ClosOk X n2 clos2)(z:∀x b,(x,b)∈clos1++clos2->X.env.cells.lookup x=some b)(B:jX X.mg X.base)(C:X.env.code=.ref c)(E:PySem.W.codeHdIn X.K c H=true)(l:(H,tb)∈Tabs.tbs)(m:(n1.pos,n1.qual)∈tb)(I:(n2.pos,n2.qual)∈tb)(J:∀p∈tb,p.1.line=n1.pos.line->p.1.col=n1.pos.col->p.2=n1.qual)(n:∀p∈tb,p.1.line=n2.pos.line->p.1.col=n2.pos.col->p.2=n2.qual)(L:n1.i≠n2.i)(O:X.N.Nodup)(Q:WS X.prog X.w X.K X.mg X.base T (k+1) x M)(U:Room T X.A)(Y:PD X e f)(ya:∀y,X.fn y=true)(hg:Gl X x:=by rfl)(ip:(x==kc)=false:=by decide)(zb:a5 [e,.Name n1.name h,.Name n2.name a] X.env=(false,dC e X.env)::a5 [.Name n1.name h,.Name n2.name a] X.env:=by rfl)(zh:a5 [.Name n1.name h,.Name n2.name a] X.env=(false,dC (.Name n1.name h) X.env)::a5 [.Name n2.name a] X.env:=by rfl)(o:a5 [.Name n2.name a] X.env=(false,dC (.Name n2.name a) X.env)::a5 [] X.env:=by rfl)(M9:(dq q (a5 [.Name n1.name h,.Name n2.name a] X.env)).any (·.1)=false:=by rfl):
  dH X [n1.stmt,n2.stmt,.Return (some (.Call (.Name x p) [e,.Name n1.name h,.Name n2.name a] [] q)) r] (λρ=>((f ((ρ.set n1.i .no).set n2.i .no)).bind λd1=>(fB n1.js ((ρ.set n1.i .no).set n2.i .no)).bind λw1=>(fB n2.js ((ρ.set n1.i .no).set n2.i .no)).bind λw2=>M d1 (n1.mm w1) (n2.mm w2)).bind λd=>.ok (.rt d)):=by
 obtain⟨g,gd,ps,FF,hb,hk,hm,h3⟩:=Q;exact LK s t u v z B C E l m I J n L O FF U hm hk hb h3 Y ya hg ip zb zh o M9
end
end
end DL
namespace DL
open PySem L2
def _root_.L2.Room.af1 (r:Room k A):A.units+130<dA:=by have:=r.un;lia
def _root_.L2.Room.ac6 (r:Room k A)(h:7<=k):A.units+300<dA:=by have:=r.un;lia
def JR {y:Str}{c:bb}{a:List (Str×bb)}(h:a.lookup y=some c:=by rfl):∀(x:Str) (b:bb),(x,b)∈[(y,c)]++[(y,c)]->a.lookup x=some b:=λx b d=>by
 have:(x,b)=(y,c):=by simpa using d
 injection this with e f;subst e f;exact h
def GK {sc:i4}{fn:List Str}{x:Str}(h:sc.names.lookup x=some .free)(a:(sc.names.all λp=>p.2 !=.free||fn.contains p.1)=true:=by decide+kernel):x∈fn:=by have b:=aBu.mp a _ (PySem.mem_of_lookup h);simpa using b
def II:dm->Pos
 |.FunctionDef _ _ _ _ _ _ _ _ _ p=>p
 |_=>⟨0,0,0,0⟩
end DL
namespace M
open PySem L2 DL
def wZ:D->Option G.V
 |.tup [.int a,.int b,.int c]=>some ⟨a,b,c⟩
 |_=>none
@[simp]def xV (v:G.V):wZ (vd v)=some v:=rfl
def uV (h:wZ d=some v):d=vd v:=by
 unfold wZ at h;split at h
 .cases h;rfl
 .cases h
def D3:List D->Option (List G.V)
 |[]=>some []
 |d::a=>match wZ d,D3 a with
  |some v,some b=>some (v::b)
  |_,_=>none
@[simp]theorem p6:∀vs:List G.V,D3 (vs.map vd)=some vs
 |[]=>rfl
 |v::vs=>by rw[aAu,D3,xV,p6 vs]
theorem p5:∀{ds:List D} {vs:List G.V},D3 ds=some vs->ds=vs.map vd
 |[],vs,h=>by cases h;rfl
 |d::ds,vs,h=>by
  unfold D3 at h;split at h
  .rename_i v c a b;cases h;rw[uV a,p5 b];rfl
  .cases h
def wM (h:vd u=vd v):u=v:=by
 have:wZ (vd u)=wZ (vd v):=by rw[h]
 simpa using this
def WD {u v:List G.V}(h:u.map vd=v.map vd):u=v:=by
 have:D3 (u.map vd)=D3 (v.map vd):=by rw[h]
 simpa using this
def Q8 (n:Nat)(J:List G.V):Prop:=(∀P∈J,Sz n P)/\J.length<=1000
def DZ:Option G.V->D
 |some v=>vd v
 |none=>.non
def B4:List D->R D
 |[.lst a]=>match D3 a with
  |some b=>.ok (DZ (G.C1 b))
  |none=>.bad
 |_=>.bad
open Classical in
def v7:List D->R D
 |[.lst a]=>match D3 a with
  |some J=>if J≠[]/\Q8 1000 J then .ok (.int (G.M7 J))else .bad
  |none=>.bad
 |_=>.bad
open Classical in
def G1:List D->R D
 |[.lst a]=>match D3 a with
  |some J=>if Q8 1000 J/\G.M7 J=3 then .ok .non else .bad
  |none=>.bad
 |_=>.bad
open Classical in
def B1:List D->R D:=v4 λa b c d=>GY λe=>kX (match D3 e with
 |some J=>if Sz 10000 ⟨a,b,c⟩/\Q8 1000 J then .ok (.lst ((G.w9 ⟨a,b,c⟩ d J).map vd))else .bad
 |none=>.bad)
open Classical in
def G3:List D->R D:=TJ λg=>GY λh=>kX ((v1 λa b c=>v1 λd e f=>kX (match D3 h with
 |some J=>if Sz 1000 ⟨a,b,c⟩/\Sz 1000 ⟨d,e,f⟩/\Q8 1000 J/\G.fR (G.b7 ⟨a,b,c⟩ ⟨d,e,f⟩ J).1 then .ok (yK (G.b7 ⟨a,b,c⟩ ⟨d,e,f⟩ J).1 (G.b7 ⟨a,b,c⟩ ⟨d,e,f⟩ J).2)else .bad
 |none=>.bad)) g)
abbrev J5 (p:G.V×G.V):D:=.tup [vd p.1,vd p.2]
structure Land (J:List G.V)(m:G.V):Prop where
 good:G.Good J m
 sz:Q8 900 J
 few:J.length<=63
 head:J.head?=some m
open Classical in
def K8:List D->R D
 |[.lst a]=>match D3 a with
  |some (m::J)=>if Land (m::J) m then .ok (J5 (G.e9 m (m::J)))else .bad
  |_=>.bad
 |_=>.bad
open Classical in
def gH:List D->R D:=v1 λa b c=>v1 λd e f=>v1 λg h i=>v1 λj k l=>kX (
 if Sz 10000 ⟨a,b,c⟩/\Sz 1000 ⟨d,e,f⟩/\Sz 1000 ⟨g,h,i⟩/\Sz 1000 ⟨j,k,l⟩then .ok (.int (G.turn ⟨a,b,c⟩ ⟨d,e,f⟩ ⟨g,h,i⟩ ⟨j,k,l⟩))else .bad)
open Classical in
def X7:List D->R D:=v1 λa b c=>GY λd=>kX (match D3 d with
 |some J=>if Sz 10000 ⟨a,b,c⟩/\Q8 1000 J then .ok (.lst ((G.z7 ⟨a,b,c⟩ J).reverse.map vd))else .bad
 |none=>.bad)
open Classical in
def T1:List D->R D:=v1 λa b c=>GY λd=>kX (match D3 d with
 |some J=>if Sz 10000 ⟨a,b,c⟩/\Q8 1000 J then .ok (.lst ((G.j8 ⟨a,b,c⟩ J).map vd))else .bad
 |none=>.bad)
def A8:List D->R D
 |[.lst a]=>match D3 a with
  |some J=>if J.length<=3000 then .ok (.lst ((G.U7 J).map J5))else .bad
  |none=>.bad
 |_=>.bad
abbrev l8 (J:List G.V)(f:G.V×Int):D:=.tup [yK f.1 f.2,.lst ((G.k8 J f).map vd)]
def fS (J:List G.V)(fs:List (G.V×Int)):Prop:=(∀f,f∈fs↔G.IsFace J f.1 f.2)/\tK V2 (fs.map<|l8 J)
open Classical in
def j5 (J:List G.V):List (G.V×Int):=if h:∃fs,fS J fs then h.choose else[]
def M0:List D->List D->R D
 |[w],[_]=>.ok w
 |_,_=>.bad
def F4:List D->List D->R D
 |[w],[p]=>B1 [p,w]
 |_,_=>.bad
open Classical in
def K4 (d:D) (b c:List D->R D):R D:=match b [.non]with
 |.ok (.lst a)=>match D3 a with
  |some (m::J)=>if Land (m::J) m/\(m::J).length<=14/\d=J5 (G.e9 m (m::J))/\b=M0 [.lst a]/\c=F4 [.lst a]then .ok (.lst ((j5 (m::J)).map (l8 (m::J))))else .bad
  |_=>.bad
 |_=>.bad
def c8 (J:List G.V):List G.V:=(F9<|J.map vd).filterMap wZ
open Classical in
def S6:List D->R D
 |[.lst a]=>match D3 a with
  |some J=>if Q8 900 J/\G.j3 J/\(c8 J).length<=14 then .ok (.lst ((j5 (c8 J)).map (l8 (c8 J))))else .bad
  |none=>.bad
 |_=>.bad
def bw:D->Option (List G.V)
 |.tup [_,.lst a]=>D3 a
 |_=>none
def uJ:List D->Option (List (List G.V))
 |[]=>some []
 |d::a=>match bw d,uJ a with
  |some v,some b=>some (v::b)
  |_,_=>none
open Classical in
def J9:List D->R D
 |[.lst b]=>match uJ b with
  |some a=>if a.flatten.length<=3000/\(c8 a.flatten).length<=63 then .ok (.lst ((c8 a.flatten).map vd))else .bad
  |none=>.bad
 |_=>.bad
def l9 (J:List G.V):List G.V:=c8 ((j5<|c8 J).flatMap (G.k8<|c8 J))
open Classical in
def Y2:List D->R D
 |[.lst a]=>match D3 a with
  |some J=>if Q8 900 J/\G.j3 J/\(c8 J).length<=14 then .ok (.lst ((l9 J).map vd))else .bad
  |none=>.bad
 |_=>.bad
def ne0 (v:G.V):IC (vd v) (.tup [.int 0,.int 0,.int 0])=.ok (.bl (!decide (v=0))):=by rw[mJ];congr 3;rw[aCV];simp only[aAP,beq_iff_eq,decide_eq_true_eq,G.qT];exact⟨λh=>h,λh=>h⟩
def eq0 (v:G.V):GO (vd v) (.tup [.int 0,.int 0,.int 0])=.ok (.bl (decide (v=0))):=by rw[mj];congr 2;rw[aCV];simp only[aAP,beq_iff_eq,decide_eq_true_eq,G.qT];exact⟨λh=>h,λh=>h⟩
def O7 (a:G d ρ=.ok ρ1)(b:F ρ1=.ok (.nx ρ2)):R3 G F (d::ds) ρ=R3 G F ds ρ2:=by rw[R3,a];dsimp only;rw[b]
def kC (a:G d ρ=.ok ρ1)(b:F ρ1=.ok (.rt x)):R3 G F (d::ds) ρ=.ok (.rt x):=by rw[R3,a];dsimp only;rw[b]
theorem K5 {α:Type}(rep:α->D)(p:α->Bool)(g:α->D):∀(l:List α),(∀a∈l,∃ρ1,G (rep a) ρ=.ok ρ1/\ft ρ1=.ok (p a)/\(p a=true->fe ρ1=.ok (g a)))->w5 G ft fe ρ (l.map rep)=.ok ((l.filter p).map g)
 |[],_=>rfl
 |a::l,h=>by
  obtain⟨ρ1,d,e,f⟩:=h a (.head _);have k:=K5 rep p g l λb m=>h b (.tail _ m);rw[aAu,w5,d];dsimp only;rw[e,R.aa0,k];cases c:p a with
  |false=>rw[ja (by decide),List.filter_cons_of_neg (by simp[c])]
  |true=>rw[i6 rfl,f c,R.aa0,R.aa0,List.filter_cons_of_pos c];rfl
def J8 {α:Type}(rep:α->D)(g:α->D)(l:List α)(h:∀a∈l,∃ρ1,G (rep a) ρ=.ok ρ1/\fe ρ1=.ok (g a)):w5 G (λ_=>.ok true) fe ρ (l.map rep)=.ok (l.map g):=by
 have:=K5 rep (G:=G) (ft:=λ_=>.ok true) (fe:=fe) (ρ:=ρ) (λ_=>true) g l λa b=>let⟨ρ1,c,d⟩:=h a b;⟨ρ1,c,rfl,λ_=>d⟩
 rw[this,List.filter_eq_self.mpr λ_ _=>rfl]
def small (h:n<=1000):n<=sizeLine:=aAr h (by decide)
def MZ (h:n<=3000):n<=sizeLine:=aAr h (by decide)
def Q8.sub (h:Q8 n J)(b:∀P∈a,P∈J)(c:a.length<=J.length):Q8 n a:=⟨λP d=>h.1 P (b P d),aAr c h.2⟩
def Q8.mono (h:Q8 m J)(a:m<=n:=by decide):Q8 n J:=⟨λP b=>(h.1 P b).mono a,h.2⟩
def a2n (t:Int):(sgn t==0)=decide (t=0):=by
 unfold sgn;by_cases h:0<t
 .rw[i6 h];simp;lia
 .rw[ja h];by_cases a:t<0
  .rw[i6 a];simp;lia
  .rw[ja a];simp;lia
def kF (a:Sz 10000 n)(b:Q8 1000 J):B1 [yK n d,.lst (J.map vd)]=.ok (.lst ((G.w9 n d J).map vd)):=by simp only[B1,v4,TJ,yA,GY,kX,p6];exact i6 ⟨a,b⟩
def OH (a:J≠[])(b:Q8 1000 J):v7 [.lst (J.map vd)]=.ok (.int (G.M7 J)):=by simp only[v7,p6];exact i6 ⟨a,b⟩
def FI (ws:List G.V):B4 [.lst (ws.map vd)]=.ok (DZ (G.C1 ws)):=by simp only[B4,p6]
def EQ (bs:List Bool):fD (bs.map D.bl)=some bs:=by
 induction bs with
 |nil=>rfl
 |cons b bs a=>rw[aAu,fD,a];rfl
def ZW (bs:List Bool):anyR [.lst (bs.map D.bl)]=.ok (.bl (bs.any id)):=by simp only[anyR,EQ]
def UG (xs:List D):EX (.lst xs) none (some (-1))=.ok (.lst xs.dropLast):=by
 show R.ok (D.lst<|cutD xs none<|some (-1))=_;unfold cutD HT.sIx;rw[aEp];simp;congr 1
 lia
def HK (xs:List D):EX (.lst xs) (some 1) none=.ok (.lst xs.tail):=by
 show R.ok (D.lst<|cutD xs (some 1) none)=_;unfold cutD HT.sIx;cases xs with
 |nil=>rfl
 |cons a l=>simp
def RJ (xs:List D):EX (.lst xs) none (some 1)=.ok (.lst (xs.take 1)):=by
 show R.ok (D.lst<|cutD xs none<|some 1)=_;unfold cutD HT.sIx;cases xs with
 |nil=>rfl
 |cons a l=>simp
def XT (xs:List D)(a b:D):pU (xs++[a,b]) (-1)=some b:=by
 have c:(xs++[a,b]).length=xs.length+2:=by simp
 unfold pU ES;rw[c,ja (by decide),i6 (by lia)];show(xs++[a,b])[((-1:Int)+((xs.length+2:Nat):Int)).toNat]?=_;have:((-1:Int)+((xs.length+2:Nat):Int)).toNat=xs.length+1:=by lia
 rw[this,aAB (by lia),show xs.length+1-xs.length=1 by lia];rfl
def XU (xs:List D)(a b:D):pU (xs++[a,b]) (-2)=some a:=by
 have c:(xs++[a,b]).length=xs.length+2:=by simp
 unfold pU ES;rw[c,ja (by decide),i6 (by lia)];show(xs++[a,b])[((-2:Int)+((xs.length+2:Nat):Int)).toNat]?=_;have:((-2:Int)+((xs.length+2:Nat):Int)).toNat=xs.length:=by lia
 rw[this,aAB (by lia),Nat.sub_self];rfl
def a0y (a:D)(xs:List D):pU (a::xs) 0=some a:=by rw[Z7 (by decide)];rfl
def a0t (a b:D)(xs:List D):pU (a::b::xs) 1=some b:=by rw[Z7 (by decide)];rfl
def WX {P Q R:G.V}(h:G.fR (G.d6 P Q R).1):G.cr (Q-P) (R-P)≠0:=λe=>by
 have:(G.d6 P Q R).1=0:=by show G.eN (G.cr (Q-P)<|R-P) _=0;rw[e];rfl
 rw[this]at h;unfold G.fR at h;exact absurd h (by decide)
theorem yW:∀{c:List G.V},(G.aI n P c).length<=c.length
 |[]=>aAj _
 |[a]=>aAj _
 |b::a::r=>by
  unfold G.aI;split
  .exact aAr (yW (c:=a::r)) (by simp)
  .exact aAj _
theorem qM:∀(a c:List G.V),(a.foldl (λc P=>P::G.aI n P c) c).length<=a.length+c.length
 |[],c=>by simp
 |P::a,c=>by refine aAr (qM a _) ?_;have:=yW (n:=n) (P:=P) (c:=c);simp;lia
def vN (n:G.V)(ps:List G.V):(G.z7 n ps).length<=ps.length:=by simpa[G.z7]using qM (n:=n) ps []
theorem tW {α β:Type}(f:α->D):∀(xs a:List α),lW (xs.map f) (a.map f)=(xs.zip a).map λp=>D.tup [f p.1,f p.2]
 |[],_=>by simp[lW]
 |_::_,[]=>by simp[lW]
 |x::xs,y::a=>by have:=tW (β:=β) f xs a;simp only[lW]at this⊢;simp[this]
def YL (a:Sz 10000 n)(b:Q8 1000 J):X7 [vd n,.lst (J.map vd)]=.ok (.lst ((G.z7 n J).reverse.map vd)):=by simp only[X7,v1,TJ,yA,GY,kX,p6];exact i6 ⟨a,b⟩
def HW {n P Q R:G.V}(h:Sz 10000 n)(a:Sz 1000 P)(b:Sz 1000 Q)(c:Sz 1000 R):gH [vd n,vd P,vd Q,vd R]=.ok (.int (G.turn n P Q R)):=i6 ⟨h,a,b,c⟩
def P1 (a:Sz 1000 A)(b:Sz 1000 B)(c:Q8 1000 J)(d:G.fR (G.b7 A B J).1):G3 [.tup [vd A,vd B],.lst (J.map vd)]=.ok (yK (G.b7 A B J).1 (G.b7 A B J).2):=by simp only[G3,v1,TJ,yA,GY,kX,p6];exact i6 ⟨a,b,c,d⟩
def UK (a:Sz 10000 n)(b:Q8 1000 J):T1 [vd n,.lst (J.map vd)]=.ok (.lst ((G.j8 n J).map vd)):=by simp only[T1,v1,TJ,yA,GY,kX,p6];exact i6 ⟨a,b⟩
def PU (h:J.length<=3000):A8 [.lst (J.map vd)]=.ok (.lst ((G.U7 J).map J5)):=by simp only[A8,p6];exact i6 h
def fZ (h:a.length+b.length<=sizeLine):eS (.lst a) (.lst b)=.ok (.lst (a++b)):=i6 h
def TC (a b:G.V):HT.lexLt (flat (vd a)) (flat (vd b))=true↔G.f6 (b-a):=by
 show HT.lexLt [a.x,a.y,a.z] [b.x,b.y,b.z]=true↔_;unfold G.f6;simp only[HT.lexLt,G.XS,G.YV,G.YY];by_cases c:a.x=b.x
 .by_cases d:a.y=b.y
  .by_cases e:a.z=b.z
   .simp[c,d,e]
   .simp[c,d,e];try lia
  .simp[c,d];try lia
 .simp[c];try lia
def CV {J:List G.V}(h:J.Pairwise λa b=>G.f6 (b-a)):SH (J.map vd):=aBv.mpr (h.imp λ{a b} q=>(TC a b).mpr q)
def ak {J:List G.V}(h:SH (J.map vd)):J.Pairwise λa b=>G.f6 (b-a):=(aBv.mp h).imp λ{a b} q=>(TC a b).mp q
def EF (J:List G.V):(J.map vd).all Y5=true:=aBu.mpr λd a=>by obtain⟨v,_,rfl⟩:=aAp.mp a;rfl
def kw [Tabs]{m:G.V}{J:List G.V}(h:(m::J).Pairwise λa b=>G.f6 (b-a)):QM [.lst ((m::J).map vd)]=.ok (vd m):=by show(if(m::J).map vd≠[]/\((m::J).map vd).all Y5=true then _ else _)=_;rw[i6 ⟨by simp,EF _⟩,VB (CV h) _ (by simp)];rfl
def pG {P Q R:G.V}(p:Sz 1000 P)(q:Sz 1000 Q)(r:Sz 1000 R):Sz 2003 (G.d6 P Q R).1:=by
 have a:=(q.sub p).cr (r.sub p);by_cases c:G.cr (Q-P) (R-P)=0
 .have:(G.d6 P Q R).1=0:=by show G.eN (G.cr (Q-P)<|R-P) _=0;rw[c];rfl
  rw[this];exact⟨by decide,by decide,by decide⟩
 .obtain⟨g,h,k⟩:=G.gI c;have d:=bits_fdiv (b:=(G.t7 (G.cr (Q-P)<|R-P):Int)) a.1;have e:=bits_fdiv (b:=(G.t7 (G.cr (Q-P)<|R-P):Int)) a.2.1;have f:=bits_fdiv (b:=(G.t7 (G.cr (Q-P)<|R-P):Int)) a.2.2;rw[fO g]at d e f;exact⟨d,e,f⟩
def yQ {A B:G.V}{J:List G.V}(p:Sz 1000 A)(q:Sz 1000 B)(r:Q8 1000 J):Sz 2003 (G.b7 A B J).1:=by
 unfold G.b7;rcases G.lV (a:=B-A) (A:=A) J 0 A with h|h
 .exact pG p q (r.1 _ h)
 .rw[h];exact pG p q p
def a0i (m:G.V):vd (m+G.kk)=.tup [.int m.x,.int m.y,.int (m.z+1)]:=by simp[G.kk]
def QD (h:Sz 900 m):Sz 1000 (m+G.kk):=(h.add (v:=G.kk) ⟨by decide,by decide,by decide⟩).mono
def OG (h:Q8 k J):Q8 k (G.w9 n d J):=h.sub (λP a=>(G.d7.mp a).1) (List.length_filter_le _ _)
def MF {α:Type}{l:List α}{a b:α}(c:a∈l)(d:b∈l)(h:a≠b):∃x y r,l=x::y::r:=by
 match l,c,d with
 |[x],c,d=>exact absurd ((aAT.mp c).trans (aAT.mp d).symm) h
 |x::y::r,_,_=>exact⟨x,y,r,rfl⟩
open Classical in
def Z5 {U:List (D×D)}{k v a:D}:a∈(aH U k v).map (·.1)↔a∈U.map (·.1)\/a=k:=by
 unfold aH;split
 .rename_i h;rw[aBw];have:((λx=>x.1)∘λp:D×D=>if p.1=k then(p.1,v)else p)=λp=>p.1:=by funext p;simp only[Function.comp];split<;>rfl
  rw[this];exact⟨.inl,λq=>q.elim id λe=>by rw[e];exact h⟩
 .rw[aBF,aAL];simp
def RM {U:List (D×D)}{k v:D}:(aH U k v).length<=U.length+1:=by
 unfold aH;split
 .simp
 .simp
def TR {p q:G.V×G.V}(h:J5 p=J5 q):p=q:=by injection h with h;injection h with b a;injection a with a _;exact aFu (wM b) (wM a)
def FQ (p:G.V×G.V):V9 7 (J5 p)=true/\IV (J5 p)=true:=⟨rfl,rfl⟩
def ffC:Ev->R Bool:=λρ=>((((tM 5 ρ).bind λd=>R.ok [d]).bind RK).bind λx=>ZV x (D.int 0)).bind jT
def ffS:Ev->R Out:=λρ=>
 C9 ((V7 9 ρ).bind λa=>vJ 4 ρ a (D.bl true)) λρ=>((((tM 9 ρ).bind λx=>V1 x (D.int 1)).bind λd=>(((tM 9 ρ).bind λx=>V1 x (D.int 0)).bind λd=>R.ok [d]).bind λb=>R.ok (d::b)).bind eM).bind (yP 5 ρ)
theorem IE {a0 a1 a2 a3 a6 a7 a8:Sl}:∀(a:List (G.V×G.V)) (U:List (D×D)) (W:List (G.V×G.V)) (f:Sl),U.length+a.length<=10000->W.length+a.length<=10000->
  ∃c b,R3 (λd ρ=>R.ok (aCz ρ 9 (Sl.v d))) ffS (a.map J5) [a0,a1,a2,a3,.d U,.o (W.map J5),a6,a7,a8,f]=.ok (.nx [a0,a1,a2,a3,.d c,.o ((W++a.map λq=>(q.2,q.1)).map J5),a6,a7,a8,b])/\
   (∀e:G.V×G.V,J5 e∈c.map (·.1)↔J5 e∈U.map (·.1)\/e∈a)/\c.length<=U.length+a.length
 |[],U,W,f,_,_=>⟨U,f,by simp,λe=>by simp,by simp⟩
 |q::a,U,W,f,g,n=>by
  simp only[aAt]at g n;have w:=RM (U:=U) (k:=J5 q) (v:=.bl true);obtain⟨c,b,e,m,l⟩:=IE a (aH U (J5 q)<|.bl true) (W++[(q.2,q.1)]) (.v (J5 q)) (by lia) (by simp;lia);refine⟨c,b,?_,λx=>?_,by simp;lia⟩
  .rw[aAu];refine(O7 (ρ2:=[a0,a1,a2,a3,.d (aH U (J5 q)<|.bl true),.o ((W++[(q.2,q.1)]).map J5),a6,a7,a8,.v (J5 q)]) rfl ?_).trans ?_
   .have p:U.length<=sizeLine:=aAr (show U.length<=10000 by lia) (by decide);have r:(W.map J5).length<sizeLine:=by rw[aAf];exact aDn (show W.length<=10000 by lia) (by decide)
    have s:vJ 4 [a0,a1,a2,a3,.d U,.o (W.map J5),a6,a7,a8,.v (J5 q)] (J5 q) (.bl true)=.ok (.nx [a0,a1,a2,a3,.d (aH U (J5 q)<|.bl true),.o (W.map J5),a6,a7,a8,.v (J5 q)]):=by show(if _ then _ else _)=_;rw[i6 ⟨(FQ q).1,(FQ q).2,p⟩];rfl
    have t:yP 5 [a0,a1,a2,a3,.d (aH U (J5 q)<|.bl true),.o (W.map J5),a6,a7,a8,.v (J5 q)] (J5 (q.2,q.1))=.ok (.nx [a0,a1,a2,a3,.d (aH U (J5 q)<|.bl true),.o ((W++[(q.2,q.1)]).map J5),a6,a7,a8,.v (J5 q)]):=by show(if _ then _ else _)=_;rw[i6 r,aBF];rfl
    show C9 ((R.ok<|J5 q).bind λu=>vJ 4 [a0,a1,a2,a3,.d U,.o (W.map J5),a6,a7,a8,.v (J5 q)] u (D.bl true)) _=_;rw[R.aa0,s];exact t
   .rw[e];simp
  .rw[m x,Z5,aAe];constructor
   .rintro((h|h)|h)
    .exact .inl h
    .exact .inr (.inl (TR h))
    .exact .inr (.inr h)
   .rintro(h|h|h)
    .exact .inl (.inl h)
    .exact .inl (.inr (by rw[h]))
    .exact .inr h
section
variable(Φ:(List D->R D)->Hp->(bb->Prop)->bb->Prop)
def ffB:Ev->R Out:=λρ=>
 C9 ((CZ 5 ρ).bind λz=>R.ok (Out.nx<|aCz z.snd 6<|Sl.v z.fst)) λρ=>
  ((V7 6 ρ).bind (rQ 4 ρ)).bind λt=>
   if t=true then
    C9
     ((((V7 6 ρ).bind λd=>((callC Φ 1 (t5 (λρ=>(tM 6 ρ).bind λx=>V1 x (D.int 0)) T8) ρ).bind λd=>R.ok [d]).bind λa=>R.ok (d::a)).bind G3).bind λd=>R.ok (Out.nx<|aCz ρ 7<|Sl.v d))
     λρ=>
     C9
      (((((tM 7 ρ).bind λx=>EX x none (some 3)).bind λd=>((callC Φ 2 (t5 (V7 7) T8) ρ).bind λd=>R.ok [d]).bind λa=>R.ok (d::a)).bind T1).bind λd=>R.ok (Out.nx<|aCz ρ 8<|Sl.v d))
      λρ=>
      C9 ((((V7 7 ρ).bind λd=>((V7 8 ρ).bind λd=>R.ok [d]).bind λa=>R.ok (d::a)).bind eM).bind (yP 3 ρ))
       λρ=>((((V7 8 ρ).bind λd=>R.ok [d]).bind A8).bind Q1).bind λa=>R3 (λd ρ=>R.ok (aCz ρ 9<|Sl.v d)) ffS a ρ
   else R.ok (Out.nx ρ)
def BM (L:D) (e:G.V×G.V) (fs:List D) (U:List (D×D)) (W:List (G.V×G.V)) (a b c d:Sl):Ev:=
 [Sl.v (J5 e),Sl.c (M0 [L]) (Φ<|M0 [L]),Sl.c (F4 [L]) (Φ<|F4 [L]),.o fs,.d U,.o (W.map J5),a,b,c,d]
end
def AC {Φ:(List D->R D)->Hp->(bb->Prop)->bb->Prop}{i:Nat}{f:Ev->R (List D)}{ρ:Ev}{m:List D->R D}{ds:List D}(h:ρ[i]?=some (.c m (Φ m)))(a:f ρ=.ok ds):callC Φ i f ρ=m ds:=by unfold callC;rw[h];dsimp only;rw[i6 rfl,a];rfl
def jD (J:List G.V)(fs:List (G.V×Int)):Nat:=(fs.map λf=>(G.k8 J f).length).sum
def gB (J:List G.V)(fs:List (G.V×Int))(f:G.V×Int):jD J (fs++[f])=jD J fs+(G.k8 J f).length:=by simp[jD]
def OP {J:List G.V}{m:G.V}(h:Land J m):Sz 1000 (G.e9 m J).1/\Sz 1000 (G.e9 m J).2:=by
 have a:Sz 900 m:=h.sz.1 m h.good.mem;obtain⟨k,d,e,f,g⟩:=G.zD h.good.solid h.good.mem h.good.least;unfold G.e9;dsimp only;split
 .exact⟨a.mono,QD a⟩
 .obtain⟨x,y,r,b⟩:=MF d f g;rw[b];have q:∀z∈x::y::r,Sz 1000 z:=λz c=>by rw[<-b]at c;exact(h.sz.1 z (G.d7.mp c).1).mono
  exact⟨q x (.head _),q y (.tail _ (.head _))⟩
def WC {J:List G.V}{m:G.V}(h:Land J m){fs:List (G.V×Int)}{b:G.V×G.V->Prop}{W:List (G.V×G.V)}(L:G.LInv J (G.e9 m J) fs b W){p:G.V×G.V}(c:p∈W):Sz 1000 p.1/\Sz 1000 p.2:=by
 rcases L.wt p c with⟨f,d,g⟩|⟨_,e⟩
 .have S:=(L.face f d).aa2 h.good.ord;have a:=S.aa1.mp g;exact⟨(h.sz.1 _ (G.d7.mp a.q).1).mono,(h.sz.1 _ (G.d7.mp a.p).1).mono⟩
 .rw[e];exact OP h
def MS {J:List G.V}{m:G.V}(h:Land J m){f:G.V×Int}(a:G.IsFace J f.1 f.2):(G.k8 J f).length<=J.length:=by have S:=a.aa2 h.good.ord;exact G.G0 S.aa4 λx b=>(G.d7.mp<|S.aa3 b).1
def BF {J:List G.V}{f g:G.V×Int}(h:V2 (l8 J f)=V2 (l8 J g)):f=g:=by have h:[f.1.x,f.1.y,f.1.z,f.2]=[g.1.x,g.1.y,g.1.z,g.2]:=h;simp only[aEM,and_true]at h;exact aFu (G.ext h.1 h.2.1 h.2.2.1) h.2.2.2
def rY {α β:Type}{f:α->β}(c:∀a b,f a=f b->a=b){l:List α}(h:l.Nodup):(l.map f).Nodup:=aBv.mpr (h.imp λ{a b} n e=>n (c a b e))
def VE {Φ:(List D->R D)->Hp->(bb->Prop)->bb->Prop}{J:List G.V}{m:G.V}(hz:Land J m){fs:List (G.V×Int)}{U:List (D×D)}{W:List (G.V×G.V)}{a b c d:Sl}(L:G.LInv J (G.e9 m J) fs (λe=>J5 e∈U.map (·.1)) W)
  (hk:U.length<=jD J fs) (hW:W.length<=1+jD J fs) {n:Nat} (hn:W.length+(J.length*J.length-jD J fs)<n+1) (af:W≠[]):
  ∃r s W' a' b' c' d',ffB Φ (BM Φ (.lst (J.map vd)) (G.e9 m J) (fs.map (l8 J)) U W a b c d)=.ok (.nx (BM Φ (.lst (J.map vd)) (G.e9 m J) (r.map (l8 J)) s W' a' b' c' d'))/\
   G.LInv J (G.e9 m J) r (λe=>J5 e∈s.map (·.1)) W'/\s.length<=jD J r/\W'.length<=1+jD J r/\W'.length+(J.length*J.length-jD J r)<n:=by
 obtain⟨rest,p,rfl⟩:∃rest p,W=rest++[p]:=⟨W.dropLast,W.getLast af,(List.dropLast_concat_getLast af).symm⟩;have t:=G.bX hz.good.solid hz.good.ord L.nd L.face;have few:=hz.few;have nn:J.length*J.length<=63*63:=aEh few few;have hsum:jD J fs+J.length<=J.length*J.length:=t;have H:(rest++[p]).length=rest.length+1:=by simp
 rw[H]at hW hn;have I:CZ 5 (BM Φ (.lst (J.map vd)) (G.e9 m J) (fs.map<|l8 J) U (rest++[p]) a b c d)=.ok (J5 p,BM Φ (.lst (J.map vd)) (G.e9 m J) (fs.map<|l8 J) U rest a b c d):=by show(match((rest++[p]).map J5)[((rest++[p]).map J5).length-1]? with|some d=>_|none=>_:R (D×Ev))=_;rw[aBF];simp;rfl
 have N:rQ 4 (BM Φ (.lst (J.map vd)) (G.e9 m J) (fs.map<|l8 J) U rest (.v (J5 p)) b c d) (J5 p)=.ok (!(open Classical in decide (J5 p∈U.map (·.1)))):=by unfold rQ;rw[show(BM Φ (.lst (J.map vd)) (G.e9 m J) (fs.map<|l8 J) U rest (.v (J5 p)) b c d)[4]?=some (.d U)from rfl];dsimp only;rw[i6 (FQ p)]
 have C:Q8 1000 J:=hz.sz.mono;unfold ffB;rw[I];show∃r s W' a' b' c' d',C9 (R.ok<|Out.nx<|BM Φ (.lst (J.map vd)) (G.e9 m J) (fs.map<|l8 J) U rest (.v (J5 p)) b c d) _=_/\_;rw[B7];rw[show V7 6 (BM Φ (.lst (J.map vd)) (G.e9 m J) (fs.map<|l8 J) U rest (.v (J5 p)) b c d)=.ok (J5 p)from rfl,R.aa0,N,R.aa0];by_cases u:J5 p∈U.map (·.1)
 .refine⟨fs,U,rest,.v (J5 p),b,c,d,?_,G.SV hz.good L rfl u,hk,by lia,by lia⟩;rw[decide_eq_true u];rfl
 .have w:p∈rest++[p]:=by simp
  obtain⟨E,n2,n3⟩:=G.zI hz.good L w u;obtain⟨y,A⟩:=WC hz L w;have ab:=P1 y A C E.prim;have k:=yQ y A C;obtain⟨f,ef⟩:∃f,G.b7 p.1 p.2 J=f:=⟨_,rfl⟩;rw[ef]at E n2 n3 ab k;have po:=kF (d:=f.2) k.mono C;have O:=UK (n:=f.1) (J:=G.w9 f.1 f.2 J) k.mono (OG C);have rl:=MS hz E;have O:T1 [vd f.1,.lst ((G.w9 f.1 f.2 J).map vd)]=.ok (.lst ((G.k8 J f).map vd)):=O;have pr:=PU (J:=G.k8 J f) (by lia);have Q:=λ{wk'} {W'} h1 h2=>G.QL hz.good L (rest:=rest) (p:=p) rfl u (walked':=wk') (waiting':=W') h1 h2;rw[ef]at Q;have xr:(fs++[f]).Nodup:=by
   have:=(Q (wk':=λe=>J5 e∈U.map (·.1)\/e∈G.U7 (G.k8 J f)) (W':=rest++(G.U7<|G.k8 J f).map λq=>(q.2,q.1)) (λe=>Iff.rfl) (λq=>by
    rw[aAL,aAp];constructor
    .rintro(h|⟨x,T,rfl⟩)
     .exact .inl h
     .exact .inr T
    .rintro(h|h)
     .exact .inl h
     .exact .inr ⟨_,h,rfl⟩))
   exact this.nd
  have l:jD J (fs++[f])+J.length<=J.length*J.length:=G.bX hz.good.solid hz.good.ord xr λg hg=>by
   rcases aAL.mp hg with z|z
   .exact L.face g z
   .rw[aAT.mp z];exact E
  rw[gB]at l;have clen:(G.U7<|G.k8 J f).length=(G.k8 J f).length:=by unfold G.U7;simp;lia
  obtain⟨s,Y,run,B,len'⟩:=IE (a0:=Sl.v (J5<|G.e9 m J)) (a1:=Sl.c (M0 [.lst (J.map vd)]) (Φ<|M0 [.lst (J.map vd)])) (a2:=Sl.c (F4 [.lst (J.map vd)]) (Φ<|F4 [.lst (J.map vd)])) (a3:=.o ((fs++[f]).map (l8 J))) (a6:=.v (J5 p)) (a7:=.v (yK f.1 f.2)) (a8:=.v (.lst ((G.k8 J f).map vd))) (G.U7<|G.k8 J f) U rest d (by lia) (by lia);refine⟨fs++[f],s,rest++(G.U7<|G.k8 J f).map (λq=>(q.2,q.1)),.v (J5 p),.v (yK f.1 f.2),.v (.lst ((G.k8 J f).map vd)),Y,?_,Q B (λq=>?_),?_,?_,?_⟩
  .have ap:yP 3 (BM Φ (.lst (J.map vd)) (G.e9 m J) (fs.map<|l8 J) U rest (.v (J5 p)) (.v (yK f.1 f.2)) (.v (.lst ((G.k8 J f).map vd))) d) (l8 J f)=.ok (.nx (BM Φ (.lst (J.map vd)) (G.e9 m J) ((fs++[f]).map (l8 J)) U rest (.v (J5 p)) (.v (yK f.1 f.2)) (.v (.lst ((G.k8 J f).map vd))) d)):=by show(if(fs.map<|l8 J).length<sizeLine then _ else _)=_;have h3:=G.fN hz.good.solid hz.good.ord L.face;have h3:3*fs.length<=jD J fs:=h3;rw[i6 (by rw[aAf];exact aDn (show fs.length<=4000 by lia) (by decide)),aBF];rfl
   have ca:callC Φ 1 (t5 (λρ=>(tM 6 ρ).bind λx=>V1 x (D.int 0)) T8) (BM Φ (.lst (J.map vd)) (G.e9 m J) (fs.map<|l8 J) U rest (.v (J5 p)) b c d)=.ok (.lst (J.map vd)):=by exact(AC (m:=M0 [.lst (J.map vd)]) (ds:=[vd p.1]) rfl rfl).trans rfl
   have ct:callC Φ 2 (t5 (V7 7) T8) (BM Φ (.lst (J.map vd)) (G.e9 m J) (fs.map<|l8 J) U rest (.v (J5 p)) (.v (yK f.1 f.2)) c d)=.ok (.lst ((G.w9 f.1 f.2 J).map vd)):=by exact(AC (m:=F4 [.lst (J.map vd)]) (ds:=[yK f.1 f.2]) rfl rfl).trans po
   have sl:EX (yK f.1 f.2) none (some 3)=.ok (vd f.1):=rfl;rw[decide_eq_false u];simp only[Bool.not_false,if_true];rw[ca,R.aa0,R.aa0,R.aa0,R.aa0,ab,R.aa0];show C9 (R.ok<|Out.nx<|BM Φ (.lst (J.map vd)) (G.e9 m J) (fs.map<|l8 J) U rest (.v (J5 p)) (.v (yK f.1 f.2)) c d) _=_;rw[B7];rw[ct];show C9 ((((R.ok<|yK f.1 f.2).bind λx=>EX x none (some 3)).bind λd=>(R.ok [D.lst ((G.w9 f.1 f.2 J).map vd)]).bind λds=>R.ok (d::ds)).bind T1|>.bind λd=>R.ok (Out.nx<|aCz _ 8<|Sl.v d)) _=_;rw[R.aa0,sl,R.aa0,R.aa0,R.aa0,O,R.aa0];show C9 (R.ok<|Out.nx<|BM Φ (.lst (J.map vd)) (G.e9 m J) (fs.map<|l8 J) U rest (.v (J5 p)) (.v (yK f.1 f.2)) (.v (.lst ((G.k8 J f).map vd))) d) _=_;rw[B7];show C9 (yP 3 (BM Φ (.lst (J.map vd)) (G.e9 m J) (fs.map<|l8 J) U rest (.v (J5 p)) (.v (yK f.1 f.2)) (.v (.lst ((G.k8 J f).map vd))) d)<|l8 J f) _=_;rw[ap,B7];show((A8 [.lst ((G.k8 J f).map vd)]).bind Q1).bind _=_;rw[pr,R.aa0];exact run
  .rw[aAL,aAp];constructor
   .rintro(h|⟨x,T,rfl⟩)
    .exact .inl h
    .exact .inr T
   .rintro(h|h)
    .exact .inl h
    .exact .inr ⟨_,h,rfl⟩
  .rw[gB];lia
  .rw[gB,aAx,aAf];lia
  .rw[gB,aAx,aAf];lia
def UH (J:List G.V)(f:G.V×Int):List (G.V×Int)->List (G.V×Int)
 |[]=>[f]
 |x::a=>if HT.lexLt (V2 (l8 J f)) (V2 (l8 J x))=true then f::x::a else x::UH J f a
def GP (J:List G.V)(fs:List (G.V×Int)):List (G.V×Int):=fs.foldr (UH J) []
theorem BW (J:List G.V)(f:G.V×Int):∀xs:List (G.V×Int),wT V2 (l8 J f) (xs.map (l8 J))=(UH J f xs).map (l8 J)
 |[]=>rfl
 |x::xs=>by
  unfold UH;rw[aAu,wT];split
  .rfl
  .rw[aAu,BW J f xs]
theorem gA (J:List G.V):∀fs:List (G.V×Int),pM V2 (fs.map (l8 J))=(GP J fs).map (l8 J)
 |[]=>rfl
 |f::fs=>by show wT V2 (l8 J f) (pM V2 (fs.map (l8 J)))=_;rw[gA J fs,BW];rfl
def mE (h:l8 J f=l8 J g):f=g:=BF (by rw[h])
theorem iG:∀{a b:List (G.V×Int)},a.map (l8 J)=b.map (l8 J)->a=b
 |[],[],_=>rfl
 |[],_::_,h=>by cases h
 |_::_,[],h=>by cases h
 |x::a,y::b,h=>by rw[aAu,aAu]at h;injection h with c d;rw[mE c,iG d]
def LI:f∈GP J fs↔f∈fs:=by
 have h:=(Y7 V2<|fs.map<|l8 J).mem_iff (a:=l8 J f);rw[gA]at h;constructor
 .intro q;obtain⟨g,b,e⟩:=aAp.mp (h.mp<|aBs q);rw[<-mE e];exact b
 .intro q;obtain⟨g,b,e⟩:=aAp.mp (h.mpr<|aBs q);rw[<-mE e];exact b
def uF [Tabs]{J:List G.V}{fs:List (G.V×Int)}(h:fs.Nodup):((fs.map (l8 J)).map V2).Nodup:=by rw[aBw];exact rY (λa b e=>BF (J:=J) e) h
def J1 (h:tK k l):l.Nodup:=h.imp λ{a b} q e=>by subst e;rw[TS.lex_irrefl]at q;cases q
def C4 {J:List G.V}{fs:List (G.V×Int)}(h:(fs.map (l8 J)).Nodup):fs.Nodup:=(aBv.mp h).imp λ{a b} n e=>n (by rw[e])
def yV {J:List G.V}{fs a:List (G.V×Int)}(b:fS J fs)(c:fS J a):fs=a:=by
 have d:=C4 (J1 b.2);have e:=C4 (J1 c.2);have p:fs.Perm a:=(aCL d e).mpr λf=>by rw[b.1,c.1]
 exact iG (gC b.2 c.2 (p.map _))
def pW (h:fS J fs):j5 J=fs:=by unfold j5;have q:∃fs,fS J fs:=⟨fs,h⟩;rw[dif_pos q];exact yV q.choose_spec h
def uL [Tabs]{J:List G.V}{fs:List (G.V×Int)}(a:fs.Nodup)(h:∀n d,(n,d)∈fs↔G.IsFace J n d):fS J (GP J fs):=by refine⟨λf=>by rw[LI];exact h f.1 f.2,?_⟩;rw[<-gA];exact lF (uF a)
def a1d [Tabs]{Φ:(List D->R D)->Hp->(bb->Prop)->bb->Prop}{J:List G.V}{m:G.V}(hz:Land J m)(l:J.length<=14):
  N6 (C9 (V3 ffC (ffB Φ) 5000 (BM Φ (.lst (J.map vd)) (G.e9 m J) [] [] [G.e9 m J] .no .no .no .no)) λρ=>(((tM 3 ρ).bind sfR).bind λds=>R.ok (D.lst ds)).bind λd=>R.ok (Out.rt d))=.ok (.lst ((j5 J).map (l8 J))):=by
 refine KO (Iv:=λn ρ=>∃fs U W a b c d,ρ=BM Φ (.lst (J.map vd)) (G.e9 m J) (fs.map<|l8 J) U W a b c d/\G.LInv J (G.e9 m J) fs (λe=>J5 e∈U.map (·.1)) W/\U.length<=jD J fs/\W.length<=1+jD J fs/\W.length+(J.length*J.length-jD J fs)<n) ?_ ?_ ?_ (by rintro ρ ⟨_,_,_,_,_,_,_,_,_,_,_,h⟩;lia)
 .rintro n ρ ⟨fs,U,W,a,b,c,d,rfl,L,t,u,v⟩;by_cases g:W=[]
  .subst g;exact .inl rfl
  .refine .inr ⟨?_,?_⟩
   .have w:(0:Int)<((W.map J5).length:Int):=by have:=aDN.mpr g;rw[aAf];lia
    show(R.ok<|D.bl<|decide ((0:Int)<((W.map J5).length:Int))).bind jT=_;rw[decide_eq_true w];rfl
   .obtain⟨x,y,z,A,B,C,E,e,H,I,o,q⟩:=VE (Φ:=Φ) (a:=a) (b:=b) (c:=c) (d:=d) hz L t u v g;exact⟨_,e,x,y,z,A,B,C,E,rfl,H,I,o,q⟩
 .refine⟨[],[],[G.e9 m J],.no,.no,.no,.no,rfl,?_,aAj _,aAj _,?_⟩
  .have:=G.DW hz.good;refine⟨this.face,this.nd,λe=>?_,this.cl,this.wt,this.ne⟩;rw[<-this.wk e];simp
  .have N:J.length*J.length<=14*14:=aEh l l;show 1+(J.length*J.length-0)<5000
   lia
 .rintro n ρ ⟨fs,U,W,a,b,c,d,rfl,L,t,u,v⟩ k;have r:W=[]:=by
   cases W with
   |nil=>rfl
   |cons p W=>have k:(R.ok<|D.bl<|decide ((0:Int)<(((p::W).map J5).length:Int))).bind jT=.ok false:=k;rw[decide_eq_true (by simp;try lia)]at k;cases k
  subst r;obtain⟨g,O⟩:=G.NW hz.good L;have Q:=uL L.nd O;rw[pW Q];have few:=G.bX hz.good.solid hz.good.ord L.nd L.face;have s:=G.fN hz.good.solid hz.good.ord L.face;have N:J.length*J.length<=14*J.length:=Nat.mul_le_mul_right _ l;have T:(fs.map<|l8 J).length<=63:=by rw[aAf];lia
  have Y:sfR (.lst (fs.map<|l8 J))=.ok ((GP J fs).map (l8 J)):=by show(if _ then _ else _)=_;rw[i6 ⟨aBu.mpr λd hd=>by obtain⟨f,_,rfl⟩:=aAp.mp hd;rfl,uF L.nd,T⟩,gA]
  show N6 ((((R.ok<|D.lst<|fs.map<|l8 J).bind sfR).bind λds=>R.ok (D.lst ds)).bind λd=>R.ok (Out.rt d))=_;rw[R.aa0,Y];rfl
theorem GQ:∀{ds:List D},(∀d∈ds,∃v,d=vd v)->(ds.filterMap wZ).map vd=ds
 |[],_=>rfl
 |d::ds,h=>by obtain⟨v,rfl⟩:=h d (.head _);rw[List.filterMap_cons_some (xV v),aAu,GQ λd a=>h d (.tail _ a)]
section
variable [Tabs]
def MT (J:List G.V):∀d∈J.map vd,Y5 d=true:=λd a=>by obtain⟨v,_,rfl⟩:=aAp.mp a;rfl
def aG (J:List G.V):F9 (J.map vd)=(c8 J).map vd:=by unfold c8;refine(GQ λd a=>?_).symm;obtain⟨v,_,rfl⟩:=aAp.mp ((A0 (MT J) d).mp a);exact⟨v,rfl⟩
def l5 (J:List G.V):(c8 J).Pairwise λa b=>G.f6 (b-a):=ak (by rw[<-aG];exact N5 _)
def RB {v:G.V}{J:List G.V}:vd v∈J.map vd↔v∈J:=by rw[aAp];exact⟨by rintro⟨u,a,e⟩;rw[<-wM e];exact a,λh=>⟨v,h,rfl⟩⟩
def j4 {J:List G.V}{v:G.V}:v∈c8 J↔v∈J:=by rw[<-RB,<-aG,A0 (MT J),RB]
def X8 (J:List G.V):(c8 J).Nodup:=(l5 J).imp λ{a b} h e=>by subst e;exact G.K7 h
def J4 {a b:List G.V}(f:a.Pairwise λa b=>G.f6 (b-a))(g:b.Pairwise λa b=>G.f6 (b-a))(h:∀v,v∈a↔v∈b):a=b:=by refine WD (bM (CV f) (CV g) λd=>?_);rw[aAp,aAp];exact⟨λ⟨v,c,e⟩=>⟨v,(h v).mp c,e⟩,λ⟨v,c,e⟩=>⟨v,(h v).mpr c,e⟩⟩
def HB (h:(c8 J).length<=63):zj (.lst (J.map vd))=.ok ((c8 J).map vd):=by show(if _ then _ else _)=_;rw[i6 ⟨EF J,by rw[aG,aAf];exact h⟩,aG]
def S5 (h:G.j3 a)(c:∀v,v∈a->v∈b):G.j3 b:=by obtain⟨A,d,B,f,C,g,D,k,e⟩:=h;exact⟨A,c A d,B,c B f,C,c C g,D,c D k,e⟩
def OS (h:G.j3 J):G.M7 J=3:=by
 by_cases e:G.M7 J=3
 .exact e
 .exact absurd h (G.OQ e)
def jE (J:List G.V):(c8 J).length<=J.length:=G.G0 (X8 J) λv a=>j4.mp a
def N8 (d:Q8 900 J)(f:G.j3 J)(c:(c8 J).length<=63):∃m r,c8 J=m::r/\Land (m::r) m:=by
 have a:G.j3 (c8 J):=S5 f λv g=>j4.mpr g;cases e:c8 J with
 |nil=>rw[e]at a;obtain⟨A,k,_⟩:=a;cases k
 |cons m r=>
  refine⟨m,r,rfl,?_⟩;have b:=l5 J;rw[e]at a c b;refine⟨⟨a,b,.head _,λX l=>?_⟩,⟨λP n=>d.1 P (j4.mp (by rw[e];exact n)),by lia⟩,c,rfl⟩;rcases aAe.mp l with h|h
  .exact .inl h
  .exact .inr ((aAA.mp b).1 X h)
def WP (a:Q8 1000 J)(b:G.j3 J):G1 [.lst (J.map vd)]=.ok .non:=by simp only[G1,p6];exact i6 ⟨a,OS b⟩
def a1j (h:Land (m::J) m):K8 [.lst ((m::J).map vd)]=.ok (J5 (G.e9 m (m::J))):=by simp only[K8,p6];exact i6 h
def fj (h:Land (m::J) m)(a:(m::J).length<=14):K4 (J5 (G.e9 m (m::J))) (M0 [.lst ((m::J).map vd)]) (F4 [.lst ((m::J).map vd)])=.ok (.lst ((j5 (m::J)).map (l8 (m::J)))):=by simp only[K4,show M0 [.lst ((m::J).map vd)] [.non]=.ok (.lst ((m::J).map vd))from rfl,p6];exact i6 ⟨h,a,rfl,rfl,rfl⟩
def qL (a:Q8 900 J)(b:G.j3 J)(c:(c8 J).length<=14):S6 [.lst (J.map vd)]=.ok (.lst ((j5 (c8 J)).map (l8 (c8 J)))):=by simp only[S6,p6];exact i6 ⟨a,b,c⟩
def HF (a:Q8 900 J)(b:G.j3 J)(c:(c8 J).length<=14):Y2 [.lst (J.map vd)]=.ok (.lst ((l9 J).map vd)):=by simp only[Y2,p6];exact i6 ⟨a,b,c⟩
omit [Tabs]in
theorem wj {α:Type}:∀l:List α,∃b:List α,b.Nodup/\∀x,x∈b↔x∈l
 |[]=>⟨[],aDh,λ_=>Iff.rfl⟩
 |a::l=>by
  obtain⟨b,c,h⟩:=wj l;by_cases d:a∈l
  .exact⟨b,c,λx=>by rw[h,aAe];exact⟨.inr,λq=>q.elim (λe=>by rw[e];exact d) id⟩⟩
  .exact⟨a::b,aAH.mpr ⟨λz=>d ((h a).mp z),c⟩,λx=>by rw[aAe,aAe,h]⟩
def A9 (h:Land J m)(p:J.length<=14):fS J (j5 J):=by
 classical
 obtain⟨fs,b,c⟩:=wj ((G.cands J).filter λf=>decide (G.IsFace J f.1 f.2));have g:∀n d,(n,d)∈fs↔G.IsFace J n d:=λn d=>by
  rw[c,aCa];constructor
  .intro q;exact of_decide_eq_true q.2
  .intro q;refine⟨?_,decide_eq_true q⟩;obtain⟨A,k,B,l,C,o,_,e⟩:=G.mQ q;unfold G.cands;rw[<-e];exact aBA.mpr ⟨A,k,aBA.mpr ⟨B,l,aAp.mpr ⟨C,o,rfl⟩⟩⟩
 have a:=uL b g;rw[pW a];exact a
theorem nK:∀(xs:List D) (b:List (List G.V)) (B:List G.V) (x y:Sl),uJ xs=some b->B.length+b.flatten.length<=3000->
  ∃f g,R3 (bO 2 (E8 (λd ρ=>R.ok (aCz ρ 2 (Sl.v d))) (E8 (λd ρ=>R.ok (aCz ρ 3 (Sl.v d))) fJ))) (λρ=>(V7 3 ρ).bind (ay 1 ρ)) xs [a,.o (B.map vd),x,y]=.ok (.nx [a,.o ((B++b.flatten).map vd),f,g])
 |[],b,B,x,y,h,_=>by cases h;exact⟨x,y,by simp⟩
 |d::xs,b,B,x,y,h,l=>by
  unfold uJ at h;split at h
  .rename_i v m c n;cases h;obtain⟨p,k,rfl,q⟩:∃p k,d=.tup [p,.lst k]/\D3 k=some v:=by
    unfold bw at c;split at c
    .exact⟨_,_,rfl,c⟩
    .cases c
   have r:=p5 q;subst r;rw[List.flatten_cons,aAx]at l;obtain⟨f,g,e⟩:=nK xs m (B++v) (.v p) (.v (.lst (v.map vd))) n (by rw[aAx];lia);refine⟨f,g,?_⟩;have s:(B.map vd).length+(v.map vd).length<=sizeLine:=by rw[aAf,aAf];exact MZ (by lia)
   refine(O7 (ρ1:=[a,.o (B.map vd),.v p,.v (.lst (v.map vd))]) (ρ2:=[a,.o ((B++v).map vd),.v p,.v (.lst (v.map vd))]) rfl ?_).trans ?_
   .show(if(B.map vd).length+(v.map vd).length<=sizeLine then _ else _)=_;rw[i6 s,aBF];rfl
   .rw[e,List.flatten_cons,aFr]
  .cases h
theorem nG (J:List G.V):∀fs:List (G.V×Int),uJ (fs.map (l8 J))=some (fs.map (G.k8 J))
 |[]=>rfl
 |f::fs=>by rw[aAu,uJ,nG J fs];rw[show bw (l8 J f)=some (G.k8 J f)from p6 _];rfl
def CM {J:List G.V}{fs:List (G.V×Int)}(a:(fs.flatMap (G.k8 J)).length<=3000)(b:(c8 (fs.flatMap (G.k8 J))).length<=63):J9 [.lst (fs.map (l8 J))]=.ok (.lst ((c8 (fs.flatMap (G.k8 J))).map vd)):=by have e:(fs.map<|G.k8 J).flatten=fs.flatMap (G.k8 J):=rfl;simp only[J9,nG,e];exact i6 ⟨a,b⟩
def rO (c:J.Pairwise λa b=>G.f6 (b-a))(d:G.IsFace J f.1 f.2)(h:X∈G.k8 J f):X∈J:=(G.d7.mp<|(d.aa2 c).aa3 h).1
def pS (d:Q8 900 J)(g:G.j3 J)(a:(c8 J).length<=14)(h:X∈l9 J):X∈J:=by obtain⟨m,r,e,L⟩:=N8 d g (by lia);unfold l9 at h;rw[j4,aBA]at h;obtain⟨f,b,c⟩:=h;rw[e]at b c a;have k:=A9 L a;have:=rO L.good.ord ((k.1 f).mp b) c;rw[<-e,j4]at this;exact this
def uQ (L:Land J m)(a:J.length<=14):((j5 J).flatMap (G.k8 J)).length<=200/\(c8 ((j5 J).flatMap (G.k8 J))).length<=14:=by
 have b:=A9 L a;have e:=C4 (J1 b.2);have few:=G.bX L.good.solid L.good.ord e λf c=>(b.1 f).mp c;have h:J.length*J.length<=14*14:=aEh a a;constructor
 .rw[List.length_flatMap]
  lia
 .refine aAr (G.G0 (X8 _) λv d=>?_) a;rw[j4,aBA]at d;obtain⟨f,c,g⟩:=d;exact rO L.good.ord ((b.1 f).mp c) g
end
def U0 (h:0<b):O9 (.int a) (.int b)=.ok (.int (a.fmod b)):=pK (by omega)
def bY (h:0<b)(c:b<1000000000000000):L0 (.int a) (.int b)=.ok (.int (a.fdiv b)):=Y6 ⟨by omega,y3 (B0 (n:=60) (by omega) (by omega))⟩
def S7 {a b:Int}(h:0<b):0<=a.fmod b/\a.fmod b<b:=by have f:=PyProof.Rows.fdiv_fmod_facts a b;have g:=f.2.2.1 h;omega
def B5 (a:r=.ok (.nx ρ))(b:N6 (F ρ)=x):N6 (C9 r F)=x:=by rw[a];exact b
def kG (a:r=.ok (.rt d)):N6 (C9 r F)=.ok d:=by rw[a];rfl
def a0u {n:Nat}(h:n<=1000000):gK [.int (n:Int)]=.ok ((aAQ n).map λ(k:Nat)=>D.int (k:Int)):=by
 show(if qD 0 (n:Int) 1 then R.ok (yH 0 1<|iR 0 n 1)else R.bad)=_;rw[i6 ⟨by decide,by decide,by decide,by decide,by omega,by omega⟩];have e:iR 0 (n:Int) 1=n:=by
  unfold iR;split
  .simp
  .omega
 rw[e];unfold yH;congr 1;refine aDM λk _=>?_;simp
section
variable [Tabs]
def U3 {J:List G.V}(g:Q8 900 J)(h:G.j3 J)(c:(c8 J).length<=14):∀X,X∈l9 J↔∃f:G.V×Int,G.IsFace (c8 J) f.1 f.2/\X∈G.k8 (c8 J) f:=λX=>by obtain⟨m,r,e,L⟩:=N8 g h (by lia);unfold l9;rw[j4,aBA];rw[e]at c⊢;have d:=A9 L c;exact⟨by rintro⟨f,a,b⟩;exact⟨f,(d.1 f).mp a,b⟩,by rintro⟨f,a,b⟩;exact⟨f,(d.1 f).mpr a,b⟩⟩
def zK {l:List G.V}(h:l.Pairwise λa b=>G.f6 (b-a)):c8 l=l:=J4 (l5 _) h λv=>j4
def vS {J:List G.V}(l:Q8 900 J)(o:G.j3 J)(p:(c8 J).length<=14):G.j3 (l9 J)/\Q8 900 (l9 J)/\c8 (l9 J)=l9 J/\(l9 J).length<=14/\l9 (l9 J)=l9 J/\∀n d,G.IsFace (l9 J) n d↔G.IsFace (c8 J) n d:=by
 have s:=U3 l o p;have c:(l9 J).Pairwise λa b=>G.f6 (b-a):=l5 _;have q:G.j3 (c8 J):=S5 o λv g=>j4.mpr g;have t:=l5 J;obtain⟨m,r,e,L⟩:=N8 l o (by lia);have u:fS (c8 J) (j5<|c8 J):=by have h:=p;rw[e]at h⊢;exact A9 L h
 have B:(l9 J).length<=14:=by have h:=p;unfold l9;rw[e]at h⊢;exact(uQ L h).2
 have C:j5 (c8 J)≠[]:=λz=>by
  obtain⟨A,O,_⟩:=q;have:∃f:G.V×Int,G.IsFace (c8 J) f.1 f.2:=by have k:=L;rw[<-e]at k;have:=G.iH k.good.solid k.good.ord k.good.mem k.good.least;exact⟨_,this⟩
  obtain⟨f,w⟩:=this;have:=(u.1 f).mpr w;rw[z]at this;cases this
 obtain⟨H,x⟩:=aFf _ C;have E:=G.GL q t c s ((u.1 H).mp x);have sz:Q8 900 (l9 J):=⟨λP I=>l.1 P (pS l o p I),by lia⟩;have y:=zK c;refine⟨E,sz,y,B,?_,λn d=>G.VT q t c s _ C u.1⟩;refine J4 (l5 _) c λv=>?_;have N:=U3 sz E (by rw[y];exact B) v;show v∈l9 (l9 J)↔_;rw[N,y];constructor
 .rintro⟨f,w,g⟩;exact rO c w g
 .exactλg=>G.QR q t c s g
end
end M
namespace DL
open PySem PySem.Spec L2
def XM {K:Params->ka}{P c:bb}{tb:List (Pos×Str)}{a:List bb}(b:P∈a)(d:∀w:cq,PySem.W.codeHdIn (K w.params) c P=true):∀p∈[(P,tb)],p.1∈a/\∃c,∀w:cq,PySem.W.codeHdIn (K w.params) c p.1=true:=λp e=>by rw[aAT.mp e];exact⟨b,c,d⟩
def Got (K:ka)(x:Str)(st:dm):Prop:=∃f a,PySem.W.nsIn K bt x=some (some<|.ref f)/\Fun K x x st f a
def UA (K:ka)(x:Str)(st:dm)(b:bb):Prop:=∃f c a,PySem.W.nsIn K bt x=some (some<|.ref f)/\PySem.W.codeHdIn K a b=true/\FunC K x x st f c a
def cF (K:ka)(mg:fL)(x:Str)(st:dm):Prop:=∃f a,mg x=some (.ref f)/\Fun K x x st f a
def a0j (K:ka)(mg:fL)(x:Str)(st:dm)(b:bb):Prop:=∃f c a,mg x=some (.ref f)/\PySem.W.codeHdIn K a b=true/\FunC K x x st f c a
section
variable{kV doc pm T ct:au}
def qz (a:PySem.W.nsIn K bt x=some (some (.ref f)))(l:K.lookup f=some ⟨d,e,.func (PySem.W.fnOf x x (G8 st) (u9 st) (c7 st) .none kV doc pm g T ct),b⟩)
 (c:PySem.W.codeIn K T x=true) (k:PySem.W.keepIn K (.ref f)=true):Got K x st:=⟨f,_,a,OA l c k⟩
def UF (a:PySem.W.nsIn K bt x=some (some (.ref f)))(l:K.lookup f=some ⟨g,h,.func (PySem.W.fnOf x x (G8 st) (u9 st) (c7 st) .none kV doc pm m T ct),b⟩)
 (c:PySem.W.codeIn K T x=true) (k:PySem.W.keepIn K (.ref f)=true) (e:T=.ref cd) (n:PySem.W.codeHdIn K cd d=true):UA K x st d:=⟨f,_,cd,a,n,UX l e c k⟩
def Got.def (g:Got K x st)(X:K.In h)(G:h.Ns bt mg):cF K mg x st:=let⟨f,c,a,b⟩:=g;⟨f,c,PySem.W.mg_of X G a,b⟩
def UA.def (g:UA K x st c)(X:K.In h)(G:h.Ns bt mg):a0j K mg x st c:=let⟨f,d,e,a,b⟩:=g;⟨f,d,e,PySem.W.mg_of X G a,b⟩
def D9 (a:sc.kind=.function:=by rfl)(b:sc.isCoroutine=false:=by rfl)(c:sc.isGenerator=false:=by rfl)(d:N.Nodup:=by decide+kernel)(e:N.take ps.length=ps:=by rfl)(f:∀x∈ps,sc.names.lookup x=some .local\/sc.names.lookup x=some .cell:=by decide+kernel)(g:∀y∈sc.names,y.2≠.free:=by decide+kernel):FnScope N ps sc:=⟨a,b,c,d,e,f,g⟩
variable [Tabs]
def m6 (g:cF K mg x st)(S:FnScope N ps (c7 st))(l:∀{f:bb} {T:au} {A:cp} {a:List Env} {s:a9} {H:Hp} {E:XK},Room k (A.deeper (aEN x (c7 st) s.heap.objs.size f T))->(A.deeper (aEN x (c7 st) s.heap.objs.size f T)).units+64<dA->(A.deeper (aEN x (c7 st) s.heap.objs.size f T)).units+130<dA->N.Nodup->
  dH (WV P w K mg base N x (c7 st) f T A a s H E) (u9 st) F) (n:∀ds d,ds.length=ps.length->m ds=.ok d->N6 (F (j6 N ds))=.ok d) (c:∀(kV doc pm:au) (o:Option bb) (T ct:au) (b:List au),b.length=ps.length->bindArgs (PySem.W.fnOf x x (G8 st) (u9 st) (c7 st) .none kV doc pm o T ct) ⟨b,[]⟩=pure (ps.zip b):=by
  intro _ _ _ _ _ _ b p;rcases b with _|⟨_,_|⟨_,_|⟨_,_|⟨_,_|⟨_,_|⟨_,_|⟨_,_⟩⟩⟩⟩⟩⟩⟩<;>first|rfl|exact absurd p (by simp)):u8 P w K mg base (k+1) x ps.length m:=by
 obtain⟨f,r,q,h⟩:=g;exact gy h S (h.binds c) q (λT A a s H E e=>l e e.units e.af1 S.nd) n
end
section
variable [Tabs]
end
section
variable [Tabs]
end
end DL
namespace DL
open PySem PySem.Spec L2
open PyProof.Rows hiding St st
variable [Tabs]
section
open Classical in
def spR:D->R (List D)
 |.lst a=>if a.all Y5=true/\a.Nodup/\a.length<=63 then .ok (F9 a)else .bad
 |_=>.bad
def pC {p B:Pos}{f:Ev->R D}(ha:PB X e f)(hh:X.calm=true)(hu:X.A.units+300<dA)(hg:Gl X "sorted":=by rfl)(hm:X.mg "sorted"=none:=by assumption)(hv:cy "sorted"=some (.builtin "sorted"):=by decide+kernel)(he:a5 [e] X.env=(false,dC e X.env)::a5 [] X.env:=by rfl)(M9:(dq B (a5 [] X.env)).any (·.1)=false:=by rfl):
  PF X (.Call (.Name "sorted" p) [e] [] B) (λρ=>(f ρ).bind spR):=by
 refine tR λY s σ H Q I H9 O0 O ρ E q=>?_;dsimp only at q;refine aAO (M6 I hg hm hv ?_ (by decide) (by decide));have lg:PA X [e] _:=K0 ha bB he;refine aBx (F6 (lg B Y s σ H (λvs L=>∃v c,vs=[v]/\f ρ=.ok (.lst c)/\Same H L/\B8 X.K L O v (.lst c)) I ⟨H9,O0,O,ρ,E,?_⟩) λus r z9=>?_) he M9
 .cases e1:f ρ with
  |ex z=>rw[e1]at q;exact q
  |bad=>rw[e1]at q;exact q.elim
  |ok d=>
   rw[e1,R.aa0]at q;cases d with
   |lst c=>exactλv L r r1=>⟨v,c,rfl,rfl,r,r1⟩
   |_=>exact aAk q
 .obtain⟨vs,L,I1,r1,v,c,ev,ef,sm,rb⟩:=z9;subst ev;rw[ef,R.aa0]at q;obtain⟨a,ws,rfl,hS,rr⟩:=rb.aa5;obtain⟨u,rfl,ru⟩:=vals1 r1;cases ru;obtain⟨g,N,⟨oL,nL,gL,cL,dL,sL⟩,zL⟩:=I1.list hS;have hl:r.heap.IsList a g.toArray:=⟨oL,gL,cL,nL,sL⟩;simp only[spR]at q;by_cases hc:c.all Y5=true/\c.Nodup/\c.length<=63
  .rw[i6 hc]at q;obtain⟨jv,nd,si⟩:=hc;have pt:∀d∈c,Y5 d=true:=aBu.mp jv;have st:z6 X.K L O g c:=z6.of N rr;have t:g.length=c.length:=st.length;have h:∀u∈g,∃d,d∈c/\Y5 d=true/\HV r.heap u d:=λu hu=>by obtain⟨d,J,v,N,rp⟩:=st.get hu;exact⟨d,J,pt d J,W2 I1 rp (K3<|pt d J) N⟩
   refine TS.sorted_keys (vs:=g) (f:=true) (key:=yY r.heap) (C:=λs'=>∃h',s'={r with heap:=h'}/\∀b o,r.heap.get? b=some o->h'.get? b=some o)
    (λ{Q'} hq=>collect_list hl (hq _ ⟨_,rfl,λb o e=>?_⟩) (by rw[t];exact aAr si (by decide)))
    (λs' ⟨h',m,k⟩ s6 k6 x hx y hy prog w A E hA {Q} qq=>?_) (λh2 s' ⟨h',m,k⟩ s6 k6 A {Q} qq=>?_) (by rw[t];lia) λs' gm h' l ⟨h1,m,k⟩ pm zo k2 hl ⟨n,gl⟩=>?_
   .exact(aAE _ _<|aCi<|aAm<|aAh e).trans (aAc _ e)
   .subst m;obtain⟨d,_,pd,om⟩:=h x hx;obtain⟨d',_,T,qe⟩:=h y hy;rw[X9 pd om,X9 T qe]at qq;exact DK pd T (om.keeps λb o e _=>k6 b o (k b o e)) (qe.keeps λb o e _=>k6 b o (k b o e)) qq
   .subst m;refine qJ (λx hx=>?_) h2 qq;obtain⟨d,_,pd,om⟩:=h x hx;exact⟨d,pd,om.keeps λb o e _=>k6 b o (k b o e)⟩
   .subst m;obtain⟨oi,st3,p2,sr⟩:=cO (key:=yY r.heap) st pm zo (by rintro u d ⟨v,N,rp⟩ J;exact X9 (pt d J) (W2 I1 rp (K3<|pt d J) N)) pt nd;have e2:oi=F9 c:=bM sr (N5 c) λd=>by rw[p2.mem_iff,A0 pt]
    subst e2;obtain⟨wv,oh,ko⟩:=st3.ac0;have U:=I1.kept (h':=h1) (t':=r.toks) k;have I3:=U.laid (a:=l) (o:=.lst wv) (h':=h') (t':=r.toks) k2 hl ⟨by rw[ko.length,p2.length_eq];exact aAr si (by decide),gm,n,oh,gl⟩;exact⟨.ref l,_,I3,rfl,q wv _ l sm (U.hok.fresh hl) ko⟩
  .rw[ja hc]at q;exact q.elim
end
section
mutual
theorem OF {K:ka}{H:Hp}{O a:bb->Prop}:∀{v:V} {d:D},rN d=true->Rep K H O v d->Rep K H a v d
 |_,_,_,.int=>.int
 |_,_,h,.tup t r=>.tup t (uC h r)
 |_,_,h,.non=>(by cases h)
 |_,_,h,.bl=>(by cases h)
 |_,_,h,.str=>(by cases h)
 |_,_,h,.lst _ _ _=>(by cases h)
 |_,_,h,.dct _ _ _=>(by cases h)
theorem uC {K:ka}{H:Hp}{O a:bb->Prop}:∀{vs:List V} {ds:List D},gM ds=true->Reps K H O vs ds->Reps K H a vs ds
 |_,_,_,.nil=>.nil
 |_,_,h,.cons r t=>.cons (OF (aGa.mp h).1 r) (uC (aGa.mp h).2 t)
end
end
end DL
namespace DL
open PySem PySem.Spec L2
open PyProof.Rows hiding St
variable [Tabs]
open Classical in
def dd1 (ds:List D):List D:=ds.foldr (λd l=>if d∈l then l else d::l) []
section
abbrev BY (X:Cx)(e:df)(es:List df):Prop:=a5 (e::es) X.env=(false,dC e X.env)::a5 es X.env
def w6 {i:Int}{j}:PB X (.Constant (.int i) j a) (YZ (.int i)):=d5.pb
def sZ {e1:df}{b:Ev->R D}(c:u8 X.prog X.w X.K X.mg X.base k x 1 m)(e:Room f X.A)(a1:PD X e1 b)(g:k<=f:=by decide)(d:BY X e1 []:=by rfl)(h:Gl X x:=by rfl)(l:(x==kc)=false:=by decide)(M9:(dq a (a5 [] X.env)).any (·.1)=false:=by rfl):
 PD X (.Call (.Name x p) [e1] [] a) (λρ=>((t5 b T8) ρ).bind m):=wI c (e.mono g) (f8 a1 o7 d) (C3 cB) h l d M9
def R6 {e1 e2:df}{b d:Ev->R D}(c:u8 X.prog X.w X.K X.mg X.base k x 2 m)(f:Room g X.A)(a1:PD X e1 b)(a2:PD X e2 d)(h:k<=g:=by decide)(e:BY X e1 [e2]:=by rfl)(l:BY X e2 []:=by rfl)(n:Gl X x:=by rfl)(o:(x==kc)=false:=by decide)(M9:(dq a (a5 [e2] X.env)).any (·.1)=false:=by rfl):
 PD X (.Call (.Name x p) [e1,e2] [] a) (λρ=>((t5 b (t5 d T8)) ρ).bind m):=wI c (f.mono h) (f8 a1 (f8 a2 o7 l) e) (C3<|C3 cB) n o e M9
def pc3 {e1 e2 a:df}{d e f:Ev->R D}(c:u8 X.prog X.w X.K X.mg X.base k x 3 m)(h:Room l X.A)(a1:PD X e1 d)(a2:PD X e2 e)(a3:PD X a f)(n:k<=l:=by decide)(g:BY X e1 [e2,a]:=by rfl)(o:BY X e2 [a]:=by rfl)(q:BY X a []:=by rfl)(r:Gl X x:=by rfl)(s:(x==kc)=false:=by decide)(M9:(dq b (a5 [e2,a] X.env)).any (·.1)=false:=by rfl):
 PD X (.Call (.Name x p) [e1,e2,a] [] b) (λρ=>((t5 d (t5 e (t5 f T8))) ρ).bind m):=wI c (h.mono n) (f8 a1 (f8 a2 (f8 a3 o7 q) o) g) (C3<|C3<|C3 cB) r s g M9
def pc4 {e1 e2 b a:df}{e f g h:Ev->R D}(c:u8 X.prog X.w X.K X.mg X.base k x 4 m)(n:Room o X.A)(a1:PD X e1 e)(a2:PD X e2 f)(a3:PD X b g)(q:PD X a h)(r:k<=o:=by decide)(l:BY X e1 [e2,b,a]:=by rfl)(s:BY X e2 [b,a]:=by rfl)(t:BY X b [a]:=by rfl)(u:BY X a []:=by rfl)(v:Gl X x:=by rfl)(y:(x==kc)=false:=by decide)(M9:(dq d (a5 [e2,b,a] X.env)).any (·.1)=false:=by rfl):
 PD X (.Call (.Name x p) [e1,e2,b,a] [] d) (λρ=>((t5 e (t5 f (t5 g (t5 h T8)))) ρ).bind m):=wI c (n.mono r) (f8 a1 (f8 a2 (f8 a3 (f8 q o7 u) t) s) l) (C3<|C3<|C3<|C3 cB) v y l M9
def HH {e1 e2:df}{a b:Ev->R D}{j}(a1:PD X e1 a)(a2:PD X e2 b)(c:BY X e1 [e2]:=by rfl)(d:BY X e2 []:=by rfl):PD X (.Tuple [e1,e2] j e) (λρ=>((t5 a (t5 b T8)) ρ).bind eM):=xO (f8 a1 (f8 a2 o7 d) c)
def DS {e1 e2 a:df}{b c d:Ev->R D}{j}(a1:PD X e1 b)(a2:PD X e2 c)(a3:PD X a d)(e:BY X e1 [e2,a]:=by rfl)(f:BY X e2 [a]:=by rfl)(g:BY X a []:=by rfl):PD X (.Tuple [e1,e2,a] j h) (λρ=>((t5 b (t5 c (t5 d T8))) ρ).bind eM):=xO (f8 a1 (f8 a2 (f8 a3 o7 g) f) e)
def CC {id:String}{g:List D->R D}{e:df}{f:Ev->R D}(d:fM X (.builtin id) g)(a:PB X e f)(h:Gl X x:=by rfl)(k:X.mg x=none:=by assumption)(l:cy x=some (.builtin id):=by decide+kernel)(m:x≠ "__name__":=by decide)(n:(x==kc)=false:=by decide)(c:BY X e []:=by rfl)(M9:(dq b (a5 [] X.env)).any (·.1)=false:=by rfl):
 PD X (.Call (.Name x p) [e] [] b) (λρ=>(t5 f T8 ρ).bind g):=bN d (o9 a w8 c) h k l m n c M9
def LW {f:List Str}{a:i4}{l:Pos}{b:df}{fe:Ev->R D}(h:∀Y c g k C,PD (KF X Y g k ([x]++f) a (fI X a C) C c) b fe)(m:([x]++f).Nodup:=by decide+kernel)(n:Loc (relabel a X.env) x:=by first|exact aCK rfl|exact aBU rfl)(o:(a.names.lookup x==some .cell)=true\/(relabel a X.env).names.lookup x=some .local:=by first|exact .inl rfl|exact .inr rfl):
  ∀(Y:Q6) (c:List bb) (e:Cx),(∃p q C,e=KF X Y p q ([x]++f) a (fI X a C) C c)->OX e (.Name x l) (λd ρ=>.ok (ρ.set 0 (.v d)))/\YA e [] (λ_=>.ok true)/\PD e b fe:=by
 rintro Y c r ⟨g,k,C,rfl⟩;exact⟨k5 0 m rfl n o,yG,h Y c g k C⟩
def hxt {k:List Str}{a:i4}{m:Pos}{e c:df}{fe:Ev->R D}{ft:Ev->R Bool}(h:∀Y b f g C,LV (KF X Y f g ([x]++k) a (fI X a C) C b) c ft/\PD (KF X Y f g ([x]++k) a (fI X a C) C b) e fe)(n:([x]++k).Nodup:=by decide+kernel)(o:Loc (relabel a X.env) x:=by first|exact aCK rfl|exact aBU rfl)(p:(a.names.lookup x==some .cell)=true\/(relabel a X.env).names.lookup x=some .local:=by first|exact .inl rfl|exact .inr rfl):
  ∀(Y:Q6) (b:List bb) (l:Cx),(∃q r C,l=KF X Y q r ([x]++k) a (fI X a C) C b)->OX l (.Name x m) (λd ρ=>.ok (ρ.set 0 (.v d)))/\YA l [c] ft/\PD l e fe:=by
 rintro Y b s ⟨f,g,C,rfl⟩;exact⟨k5 0 n rfl o p,TN (h Y b f g C).1,(h Y b f g C).2⟩
end
end DL
namespace DL
open PySem PySem.Spec PySem.Calls PySem.W Builtin Builtin.ObjectAttr Builtin.Getset_descriptor
open PyProof.Rows hiding St
section
variable{prog:be} {w:cq} {A:cp} {E:F5} {K:Frag} {h:cv} {g:Array GenState} {d:Drawn} {t:Nat} {os:OsState} {a C:bb} {o:Obj}
end
end DL
namespace DL
open PySem PySem.Spec L2
open PyProof.Rows hiding St
variable [Tabs]
section
variable{X:Cx} {pos:Pos}
end
section
variable{X:Cx} {Y:Q6} {σ:St} {H H':Hp} {s s':a9}
end
section
variable{K:ka} {H9 H:Hp} {O0 O:bb->Prop} {σ:St} {ρ:Ev}
end
section
variable{X:Cx} {pos ue np:Pos}
end
section
variable{X:Cx} {pos:Pos}
end
section
variable{X:Cx} {pos:Pos}
end
section
end
section
end
end DL
namespace DL
open PySem L2
variable [Tabs]
end DL
namespace M
open PySem L2 DL
variable [Tabs]
def IH (h:D8 d<=40):IC d d=.ok (.bl false):=by unfold IC;rw[i6 ⟨h,h⟩,U1];rfl
def oJ (J:List G.V):D8 (.lst (J.map vd))<=40:=by
 rw[D8];have:∀J:List G.V,C6 (J.map vd)<=1:=λJ=>by
  induction J with
  |nil=>simp[C6]
  |cons P J a=>rw[aAu,C6];exact Nat.max_le.mpr ⟨by simp[D8,C6],a⟩
 have:=this J
 lia
def CL {J:Ev->Prop}(a:r=.ok (.nx ρ))(b:∃ρ2,F ρ=.ok (.nx ρ2)/\J ρ2):∃ρ2,C9 r F=.ok (.nx ρ2)/\J ρ2:=by rw[a];exact b
def AZ (k:Int):Int:=6*k*k+5*k+8
def Y0:List D->R D
 |[.lst a,.int k]=>if 0<=k/\k<=1000 then .ok (uY AZ a k)else .bad
 |_=>.bad
def cJ (xs:List D)(k:Int):Int:=match uY AZ xs k with
 |.int i=>i
 |_=>0
def qO (d:G7 1048576 xs)(k:Int)(h0:0<=k)(b:k<=100):Y0 [.lst xs,.int k]=.ok (.int (cJ xs k))/\bits (cJ xs k)<=2000000:=by
 obtain⟨c,e,a⟩:=LF d AZ k;have f:cJ xs k=c:=by unfold cJ;rw[e]
 rw[f];refine⟨(i6 ⟨h0,by lia⟩).trans (jk R.ok e),?_⟩;rcases a with a|rfl
 .exact y3 a
 .unfold AZ;have g:0<=k*k:=aBG h0 h0;have h:k*k<=100*100:=Int.mul_le_mul b b h0 (by decide);rw[aFs];exact m9 (B0 (n:=30) (by lia) (by lia)) (by decide)
def dw (c w:Int):G.V:=⟨c.fmod w-w.fdiv 2,(c.fdiv w).fmod w-w.fdiv 2,(c.fdiv<|w*w).fmod w-w.fdiv 2⟩
def tmA (c:Int)(at_ j:Nat):Int:=(c.fdiv<|5+7*(at_:Int)+(j:Int)).fmod 5-2
def bz (P:G.V)(t:Int)(w:G.V):G.V:=⟨P.x+t*w.x,P.y+t*w.y,P.z+t*w.z⟩
def ptA (c:Int)(b:G.V)(ws:List G.V)(at_:Nat):G.V:=match ws with
 |[]=>b
 |[u]=>bz b (tmA c at_ 0) u
 |u::v::_=>bz (bz b (tmA c at_ 0) u) (tmA c at_ 1) v
def a1n (c:Int)(b:G.V)(ws:List G.V)(n:Nat):List G.V:=(aAQ n).map (ptA c b ws)
structure Drawn (J:List G.V):Prop where
 ne:J≠[]
 len:J.length<=40
 sz:∀P∈J,Sz 100 P
 flat:¬G.j3 J
open Classical in
def J6:List D->R D
 |[.lst a]=>match D3 a with
  |some J=>if J=[]\/(Q8 1000 J/\¬G.j3 J)then .ok (.bl false)else if Q8 900 J/\G.j3 J/\(c8 J).length<=14/\J.length<=60 then .ok (.bl (decide (l9 J=J)))else .bad
  |none=>.bad
 |_=>.bad
def bq (J:List G.V):G.M7 J<=3:=by
 unfold G.M7;split
 .decide
 .dsimp only;split
  .decide
  .split
   .decide
   .split<;>decide
def my (h:¬G.j3 J):G.M7 J<3:=by
 have a:=bq J;have b:G.M7 J≠3:=λe=>h (G.tQ e)
 lia
def YX (a:Q8 1000 J)(h:J≠[]):v7 [.lst (J.map vd)]=.ok (.int (G.M7 J)):=by simp only[v7,p6];exact i6 ⟨h,a⟩
theorem HQ:∀a b:List G.V,W0 (a.map vd) (b.map vd)=decide (a=b)
 |[],[]=>rfl
 |[],_::_=>rfl
 |_::_,[]=>rfl
 |P::a,Q::b=>by rw[aAu,aAu,W0,HQ a b];obtain⟨x,y,z⟩:=P;obtain⟨c,d,e⟩:=Q;simp[x5,W0,Bool.and_assoc];rfl
def MO (a b:List G.V):GO (.lst (a.map vd)) (.lst (b.map vd))=.ok (.bl (decide (a=b))):=by unfold GO;rw[i6 ⟨oJ a,oJ b⟩,x5,HQ]
open Classical in
def uz (p:Prop) (d:D):R D:=if p then .ok d else .bad
def DO {p:Prop}{d r:D}(h:uz p d=.ok r):p/\d=r:=by
 unfold uz at h;split at h
 .rename_i z;cases h;exact⟨z,rfl⟩
 .cases h
def wQ {p:Prop}{d:D}(h:p):uz p d=.ok d:=i6 h
def uk (k:List G.V->List D->R D):List D->R D:=GY λa e=>match D3 a with
 |some l=>k l e
 |none=>.bad
def wH {k:List G.V->List D->R D}{ds:List D}{r:D}(h:uk k ds=.ok r):∃l e,ds=.lst (l.map vd)::e/\k l e=.ok r:=by
 replace h:=jJ h;obtain⟨a,e,rfl,h⟩:=h;cases q:D3 a with
 |none=>rw[q]at h;cases h
 |some l=>rw[q]at h;exact⟨l,e,by rw[p5 q],h⟩
def oQ (k:List G.V->List D->R D)(l:List G.V)(e:List D):uk k (.lst (l.map vd)::e)=k l e:=by show(match D3 (l.map vd)with|some l=>k l e|none=>.bad)=_;rw[p6]
def l3 (k:Int->Int->Int->List D->R D):List D->R D:=GY λd e=>yA (λa=>yA λb=>yA λc=>kX (k a b c e)) d
def XZ (t:Int):Int:=(t*40009+6007).fmod 2147483647
def oM (s k:Int):Int:=(s*s+5003*k+11).fmod 2147483647
def xj (s:Int):Int:=s.fmod 2000000011-1000000000
def YO (t:Int):G.V:=⟨xj (oM (XZ t) 0),xj (oM (oM (XZ t) 0) 1),xj (oM (oM (oM (XZ t) 0) 1) 2)⟩
def eI (way:Int):Int:=if way=0 then 3 else if way=1 then 5 else if way=2 then 9 else 2000000001
def YW (t way:Int):G.V:=if way=4 then YO t else dw t (eI way)
def ZH (t way:Int):Sz 40 (YW t way):=by
 unfold YW;split
 .have a:∀s,bits (xj s)<=40:=λs=>bits_sub (bits_fmod (by decide) (show bits 2000000011<=39 by decide)) (show bits 1000000000<=39 by decide);exact⟨a _,a _,a _⟩
 .have w:eI way≠0/\bits (eI way)<=39:=by
   unfold eI
   repeat' split
   all_goals decide
  have d:∀c:Int,bits (c.fmod (eI way)-(eI way).fdiv 2)<=40:=λc=>bits_sub (bits_fmod w.1 w.2) (bits_fdiv w.2);exact⟨d _,d _,d _⟩
open Classical in
def bR:List D->R D
 |[.int t,.int a]=>if bits t<=3000000/\0<=a/\a<=4 then .ok (vd (YW t a))else .bad
 |_=>.bad
def JY {t way:Int}(h:bits t<=3000000)(h0:0<=way)(a:way<=4):bR [.int t,.int way]=.ok (vd (YW t way)):=i6 ⟨h,h0,a⟩
def PN (l:List Int):List D:=l.map D.int
def gR:List D->Option (List Int)
 |[]=>some []
 |.int i::r=>match gR r with
  |some l=>some (i::l)
  |none=>none
 |_=>none
@[simp]theorem vK:∀l:List Int,gR (PN l)=some l
 |[]=>rfl
 |i::l=>by have:=vK l;unfold PN at this;simp[PN,gR,this]
theorem pL:∀{ds:List D} {l:List Int},gR ds=some l->ds=PN l
 |[],l,h=>by simp[gR]at h;subst h;rfl
 |.int i::r,l,h=>by
  simp only[gR]at h;split at h
  .rename_i a e;injection h with h;subst h;rw[pL e];rfl
  .cases h
 |.tup _::_,_,h=>by simp[gR]at h
 |.lst _::_,_,h=>by simp[gR]at h
 |.bl _::_,_,h=>by simp[gR]at h
def zJ (l:List Int):G.Sl:=⟨l.getD 0 0,l.getD 1 0,l.getD 2 0,⟨l.getD 3 0,l.getD 4 0,l.getD 5 0⟩,decide (l.getD 6 0=1)⟩
def cW (l:List Int):Prop:=l.length=7/\∀i∈l,bits i<=100
open Classical in
def M5:List D->R D
 |[p,.lst a]=>match wZ p,gR a with
  |some P,some l=>if cW l/\Sz 500 P then .ok (vd ((zJ l).put P))else .bad
  |_,_=>.bad
 |_=>.bad
def AI {l:List Int}{P:G.V}(h:cW l)(a:Sz 500 P):M5 [vd P,.lst (PN l)]=.ok (vd ((zJ l).put P)):=by simp only[M5,xV,vK];exact i6 ⟨h,a⟩
def yU (c:Int):Int:=(c.fdiv 1029*271828182845904523536).fmod 200000000000000000001-100000000000000000000
def s7 (c k:Int):Int:=(c.fdiv k).fmod 7-3
def XO (c:Int):List Int:=(if c.fmod 3=2 then[s7 c 3*7654321,s7 c 21*7654321,s7 c 147*7654321]else[s7 c 3,s7 c 21,s7 c 147])++[yU c,0-(yU c).fdiv 7,(c.fdiv 1029).fmod 50,(c.fdiv 9).fmod 2]
def QP (c:Int):cW (XO c):=by
 have s:∀k,bits (s7 c k)<=4:=λk=>bits_sub (bits_fmod (by decide) (show bits 7<=3 by decide)) (show bits 3<=3 by decide);have m:∀k,bits (s7 c k*7654321)<=100:=λk=>m9 (bits_mul (s k) (show bits 7654321<=30 by decide)) (by decide);have a:∀k,bits (s7 c k)<=100:=λk=>m9 (s k) (by decide);have f:bits (yU c)<=99:=bits_sub (n:=98) (bits_fmod (by decide) (by decide)) (by decide);have r:∀x∈[yU c,0-(yU c).fdiv 7,(c.fdiv 1029).fmod 50,(c.fdiv 9).fmod 2],bits x<=100:=by simp only[aCg];exact⟨m9 f (by decide),bits_sub (show bits 0<=99 by decide) (bits_fdiv f),bits_fmod (by decide) (by decide),bits_fmod (by decide) (by decide),λ_ h=>by cases h⟩
 unfold XO;split
 .exact⟨rfl,aCg.mpr ⟨m _,aCg.mpr ⟨m _,aCg.mpr ⟨m _,r⟩⟩⟩⟩
 .exact⟨rfl,aCg.mpr ⟨a _,aCg.mpr ⟨a _,aCg.mpr ⟨a _,r⟩⟩⟩⟩
open Classical in
def Y4:List D->R D
 |[.int c]=>if bits c<=3000000 then .ok (.lst (PN (XO c)))else .bad
 |_=>.bad
def DE {c:Int}(h:bits c<=3000000):Y4 [.int c]=.ok (.lst (PN (XO c))):=i6 h
def UC {J:List G.V}{n:G.V}{d:Int}(h:Q8 900 J)(a:G.IsFace (c8 J) n d):Sz 2003 n:=by obtain⟨A,b,B,c,C,f,_,e⟩:=G.mQ a;have z:∀X∈c8 J,Sz 1000 X:=λX g=>(h.1 X (j4.mp g)).mono;have:=pG (z A b) (z B c) (z C f);rw[e]at this;exact this
def vH {J:List G.V}(d:Q8 900 J)(g:G.j3 J)(b:(c8 J).length<=14):(∀f,f∈j5 (c8 J)↔G.IsFace (c8 J) f.1 f.2)/\j5 (c8 J)≠[]/\(j5 (c8 J)).length<=2744:=by obtain⟨m,r,e,L⟩:=N8 d g (by lia);have c:=b;rw[e]at c;have a:=A9 L c;rw[<-e]at a L;have h:=C4 (J1 a.2);have few:=G.KG h λf k=>(a.1 f).mp k;have l:(c8 J).length*((c8 J).length*(c8 J).length)<=14*(14*14):=aEh b (aEh b b);refine⟨a.1,λz=>?_,aAr few l⟩;have q:=G.iH L.good.solid L.good.ord L.good.mem L.good.least;have:=(a.1 (_,_)).mpr q;rw[z]at this;cases this
def intD:D->Int
 |.int i=>i
 |_=>0
def uN:Nat->List D->List D
 |_,[]=>[]
 |k,d::a=>.tup [.int (k:Int),d]::uN (k+1) a
theorem vE:∀(xs:List D) (k i:Nat),(uN k xs)[i]?=xs[i]?.map λd=>D.tup [.int ((k+i:Nat):Int),d]
 |[],_,_=>rfl
 |d::a,k,0=>rfl
 |d::a,k,i+1=>by rw[uN,aDb,aDb,vE a (k+1) i,Nat.add_right_comm];rfl
def WE (xs:List D):IL xs=uN 0 xs:=aDw λi=>by rw[lR,vE,aDO]
def zA (m:Nat):Nat->List D->List Int->List Int
 |_,[],a=>a
 |k,d::b,a=>zA m (k+1) b (a.set (k%m) (a.getD (k%m) 0+intD d))
def AJ (m:Nat):List Int:=(aAQ m).map λ(k:Nat)=>5*(k:Int)*k+3*k
def A1 (xs:List D)(most:Int):Nat:=(4+(cJ xs 0).fmod (most-3)).toNat
def zG (xs:List D)(most:Int):List Int:=zA (A1 xs most) 0 ((xs.take 63).drop 2) (AJ<|A1 xs most)
def iQ (xs:List D)(most:Int):List G.V:=(zG xs most).map λt=>YW t ((cJ xs 1).fmod 5)
theorem IT (m:Nat)(c:0<m):∀(ds:List D) (k:Nat) (ts:List Int),G7 1048576 ds->ts.length=m->(∀t∈ts,bits t<=1100000+k)->(zA m k ds ts).length=m/\∀t∈zA m k ds ts,bits t<=1100000+k+ds.length
 |[],k,ts,_,h,b=>⟨h,b⟩
 |d::ds,k,ts,e,h,b=>by
  have:=IT m c ds (k+1) (ts.set (k%m)<|ts.getD (k%m) 0+intD d) (λx g=>e x (.tail _ g)) (by simpa using h) (λt a=>by
   rcases List.mem_or_eq_of_mem_set a with a|rfl
   .exact m9 (b t a) (by lia)
   .have f:k%m<ts.length:=by rw[h];exact aDP _ c
    have l:bits (ts.getD (k%m) 0)<=1100000+k:=by rw[aAi,aAd f];exact b _ (aBE f)
    obtain⟨i,rfl,n⟩:=e d (.head _);exact bits_add l (m9 n (by lia)))
  refine⟨this.1,λt a=>m9 (this.2 t a) ?_⟩;simp only[aAt];lia
def iK (xs:List D){most:Int}(h0:4<=most):4<=A1 xs most/\(A1 xs most:Int)<=most/\(A1 xs most:Int)=4+(cJ xs 0).fmod (most-3):=by have:=S7 (a:=cJ xs 0) (b:=most-3) (by lia);unfold A1;lia
def HX (m:Nat)(h:m<=20):(AJ m).length=m/\∀t∈AJ m,bits t<=1100000:=by
 unfold AJ;refine⟨by simp,λt a=>?_⟩;obtain⟨k,b,rfl⟩:=aAp.mp a;have c:k<m:=by simpa using b
 have d:(k:Int)*k<=20*20:=Int.mul_le_mul (by lia) (by lia) (by lia) (by decide);have e:0<=(k:Int)*k:=aBG (by lia) (by lia);rw[aFs];exact m9 (B0 (n:=30) (by lia) (by lia)) (by decide)
def OT {xs:List D}{most:Int}(b:G7 1048576 xs)(h0:4<=most)(e:most<=20):(zG xs most).length=A1 xs most/\∀t∈zG xs most,bits t<=1100061:=by
 have f:=iK xs h0;have a:=HX (A1 xs most) (by lia);have:=IT (A1 xs most) (by lia) ((xs.take 63).drop 2) 0 (AJ<|A1 xs most) (λx c=>b x (aDC<|aDD c)) a.1 a.2;refine⟨this.1,λt d=>m9 (this.2 t d) ?_⟩;have:((xs.take 63).drop 2).length<=61:=by simp;lia
 lia
open Classical in
def gE:List D->R D
 |[.lst b,.int a]=>if G7 1048576 b/\b.length<=63/\4<=a/\a<=20 then .ok (.lst ((iQ b a).map vd))else .bad
 |_=>.bad
def DU {xs:List D}{most:Int}(a:G7 1048576 xs)(b:xs.length<=63)(h0:4<=most)(c:most<=20):gE [.lst xs,.int most]=.ok (.lst ((iQ xs most).map vd)):=i6 ⟨a,b,h0,c⟩
def QY {xs:List D}{most:Int}(b:G7 1048576 xs)(h0:4<=most)(c:most<=20):(∀p∈iQ xs most,Sz 40 p)/\4<=(iQ xs most).length/\((iQ xs most).length:Int)<=most:=by have t:=OT b h0 c;have m:=iK xs h0;unfold iQ;refine⟨λp d=>?_,by rw[aAf,t.1];lia,by rw[aAf,t.1];lia⟩;obtain⟨a,_,rfl⟩:=aAp.mp d;exact ZH ..
def fy (xs:List D):EX (.lst xs) (some 2) (some 63)=.ok (.lst ((xs.take 63).drop 2)):=by
 show R.ok (D.lst<|cutD xs (some 2)<|some 63)=_;rw[List.drop_take];show R.ok (D.lst<|List.take (min 63 xs.length-min 2 xs.length)<|List.drop (min 2 xs.length) xs)=_;by_cases h:xs.length<=2
 .rw[aFL (by lia),aFL (by lia)];simp
 .rw[aDZ (by lia:2<=xs.length)];by_cases a:xs.length<=63
  .rw[aDj (by simp;lia),aDj (by simp;lia)]
  .rw[aDZ (by lia)]
open Classical in
def gN (J:List G.V):List G.V:=if G.j3 J then J else match J with
 |[]=>[]
 |P::r=>(P::r)++[⟨P.x+1,P.y,P.z⟩,⟨P.x,P.y+1,P.z⟩,⟨P.x,P.y,P.z+1⟩]
open Classical in
def eU:List D->R D
 |[.lst a]=>match D3 a with
  |some J=>if J≠[]/\(∀p∈J,Sz 300 p)/\J.length<=1000 then .ok (.lst ((gN J).map vd))else .bad
  |_=>.bad
 |_=>.bad
def yZ {α β:Type}{G:D->Ev->R Ev}{fe:Ev->R D}{ρ:Ev}(rep:α->D)(b:β->D)(g:α->β)(l:List α)(h:∀a∈l,∃ρ1,G (rep a) ρ=.ok ρ1/\fe ρ1=.ok (b (g a))):w5 G (λ_=>.ok true) fe ρ (l.map rep)=.ok ((l.map g).map b):=by rw[aBw];exact J8 rep _ l h
theorem pB {α:Type}{G:D->Ev->R Ev}{F:Ev->R Out}{x:D}{Iv:Ev->Prop}(rep:α->D)(p:α->Prop)(g:Ev->Prop)(r:∀ρ,g ρ->Iv ρ):∀(l:List α) (ρ:Ev),g ρ->(∀a∈l,∀ρ,g ρ->(p a/\aE G F (rep a) ρ=.ok (.rt x))\/(¬p a/\∃ρ2,aE G F (rep a) ρ=.ok (.nx ρ2)/\g ρ2))->((∃a∈l,p a)/\R3 G F (l.map rep) ρ=.ok (.rt x))\/(¬(∃a∈l,p a)/\∃ρ2,R3 G F (l.map rep) ρ=.ok (.nx ρ2)/\Iv ρ2)
 |[],ρ,h,_=>.inr ⟨by rintro⟨a,q,_⟩;exact(by cases q),ρ,rfl,r ρ h⟩
 |a::l,ρ,h,s=>by
  have t:∀{o},aE G F (rep a) ρ=.ok o->∃c,G (rep a) ρ=.ok c/\F c=.ok o:=λ{o} e=>by
   unfold aE at e;cases d:G (rep a) ρ with
   |ok c=>rw[d]at e;exact⟨c,rfl,e⟩
   |ex z=>rw[d]at e;cases e
   |bad=>rw[d]at e;cases e
  rcases s a (.head _) ρ h with⟨k,e⟩|⟨k,ρ2,e,v⟩
  .obtain⟨c,d,m⟩:=t e;exact .inl ⟨⟨a,.head _,k⟩,kC d m⟩
  .obtain⟨c,d,m⟩:=t e;rw[aAu,O7 d m];rcases pB rep p g r l ρ2 v (λb f=>s b (.tail _ f))with⟨⟨b,f,q⟩,n⟩|⟨q,n⟩
   .exact .inl ⟨⟨b,.tail _ f,q⟩,n⟩
   .exact .inr ⟨by
     rintro⟨b,f,u⟩;cases f with
     |head=>exact k u
     |tail _ f=>exact q ⟨b,f,u⟩,n⟩
def VX {α:Type}{G:D->Ev->R Ev}{F f:Ev->R Out}{x d:D}{l:List α}{ρ:Ev}(rep:α->D)(p:α->Prop)(b:Ev->Prop)(h:b ρ)(k:∀a∈l,∀ρ,b ρ->(p a/\aE G F (rep a) ρ=.ok (.rt x))\/(¬p a/\∃ρ2,aE G F (rep a) ρ=.ok (.nx ρ2)/\b ρ2))(c:(∃a∈l,p a)->x=d)(no:¬(∃a∈l,p a)->∀g,b g->N6 (f g)=.ok d):N6 (C9 (R3 G F (l.map rep) ρ) f)=.ok d:=by
 rcases pB (Iv:=b) rep p b (λ_ h=>h) l ρ h k with⟨q,e⟩|⟨q,ρ2,e,m⟩
 .rw[e,<-c q];rfl
 .rw[e];exact no q ρ2 m
def zQ (J:List G.V):C6 (J.map vd)<=5:=by
 induction J with
 |nil=>simp[C6]
 |cons v l a=>rw[aAu,C6];simp[D8,C6]at a⊢;lia
def XB (J:List G.V):IC (.lst (J.map vd)) (.lst [])=.ok (.bl (!J.isEmpty)):=by have:=zQ J;unfold IC;rw[i6 ⟨by rw[D8];lia,by simp[D8,C6]⟩];cases J<;>simp[x5,W0]
def fx (W:List G.V)(u v:G.V):Prop:=G.cr u v≠0/\∃w∈W,G.c9 (G.cr u v) w≠0
def iy (W:List G.V)(u:G.V):Prop:=∃v∈W,fx W u v
def UQ {P:G.V}{ps:List G.V}(h:∃u∈(P::ps).map (· -P),iy ((P::ps).map (· -P)) u):gN (P::ps)=P::ps:=by unfold gN;rw[i6];obtain⟨u,d,v,e,c,w,f,q⟩:=h;obtain⟨u,g,rfl⟩:=aAp.mp d;obtain⟨v,a,rfl⟩:=aAp.mp e;obtain⟨w,b,rfl⟩:=aAp.mp f;exact(G.rC<|.head _).mpr ⟨u,g,v,a,c,w,b,q⟩
def ax {P:G.V}{ps:List G.V}(h:¬∃u∈(P::ps).map (· -P),iy ((P::ps).map (· -P)) u):gN (P::ps)=(P::ps)++[⟨P.x+1,P.y,P.z⟩,⟨P.x,P.y+1,P.z⟩,⟨P.x,P.y,P.z+1⟩]:=by unfold gN;rw[ja];intro s;obtain⟨u,b,v,d,c,w,e,q⟩:=(G.rC<|aAW (a:=P)).mp s;exact h ⟨_,aBs b,_,aBs d,c,_,aBs e,q⟩
def KT {J:List G.V}(h:J≠[]):G.j3 (gN J):=by
 match J,h with
 |P::r,_=>
  unfold gN;split
  .assumption
  .exact G.zF P (.head _)
def KS {J:List G.V}(h:J≠[])(a:∀p∈J,Sz 300 p)(b:J.length<=1000):eU [.lst (J.map vd)]=.ok (.lst ((gN J).map vd)):=by simp only[eU,p6];exact i6 ⟨h,a,b⟩
def PC {J:List G.V}(c:∀p∈J,Sz 40 p):(∀p∈gN J,Sz 41 p)/\(gN J).length<=J.length+3:=by
 unfold gN;split
 .exact⟨λp a=>(c p a).mono,by lia⟩
 .match J,c with
  |[],c=>exact⟨λp a=>(nomatch a),aBk _⟩
  |P::r,c=>
   refine⟨λp a=>?_,by simp⟩;have b:=c P (.head _);have m:∀{i:Int},bits i<=40->bits i<=41:=λh=>m9 h (by lia);have d:∀{i:Int},bits i<=40->bits (i+1)<=41:=λh=>bits_add h (show bits 1<=40 by decide);rcases aAL.mp a with a|a
   .exact(c p a).mono
   .simp only[aAe,aAG,or_false]at a;rcases a with rfl|rfl|rfl
    .exact⟨d b.1,m b.2.1,m b.2.2⟩
    .exact⟨m b.1,d b.2.1,m b.2.2⟩
    .exact⟨m b.1,m b.2.1,d b.2.2⟩
def B2 (a b:Int):Prop:=bits a<=1000/\bits b<=1000
def trn (A B C:G.V):Int:=(B.x-A.x)*(C.y-A.y)-(B.y-A.y)*(C.x-A.x)
def dwn (A B C:G.V):Int:=(B.x-A.x)*(C.x-A.x)+(B.y-A.y)*(C.y-A.y)
def whl (A B:G.V):Int:=(B.x-A.x)*(B.x-A.x)+(B.y-A.y)*(B.y-A.y)
def WG (S:List G.V)(A B:G.V):Prop:=A≠B/\∀C∈S,0<=trn A B C/\(trn A B C=0->0<=dwn A B C/\dwn A B C<=whl A B)
end M
namespace SD
open PySem
def IsD (h:cv)(d:bb)(es:Array ij)(ep:Nat):Prop:=∃o,h.get? d=some o/\o.ExactDict/\o.data=.dict es ep
def IsD.at (x:IsD h d es ep)(e:∀o,h.get? d=some o->h'.get? d=some o):IsD h' d es ep:=let⟨o,a,r⟩:=x;⟨o,e o a,r⟩
def IsD.type {s:a9}(x:IsD s.heap d es ep):s.TypeIs (.ref d) "dict":=let⟨o,a,r,_⟩:=x;⟨o,a,r.1⟩
section
variable{prog:be} {w:cq} {A:cp} {E:F5} {s:a9} {d it:bb} {es:Array ij} {ep i:Nat}
def UN {Q:F5}(f:(d==gW)=false)(c:IsD s.heap d es ep)
  (g:Q (.ref s.heap.objs.size) {s with heap:=s.heap.push {cls:=.type "dict_keyiterator",data:=.fields #[.ref d,.int 0 0,.int es.size 0,.int ep 0]}}):av (bc prog w) A (pyIter (.ref d)) Q E s:=by
 have b:=c.type;obtain⟨o,e,h,a⟩:=c;refine aEe b F.slot_dict_iter (aBp F.slot_dict_iter b F.entry_dict_iter (aAa ?_)<|F.args_dict_iter_1 _);unfold Builtin.Dict.dictSlotNone;refine aAa (wpAny_notOrdered_dict b<|aAb (?_:av _ _ (aFR d>>=_) _ _ s));unfold aFR;rw[ja (by rw[f];decide)];refine aAa (aAb<|aAa<|wpAny_dictEntries e a<|aAa<|wpAny_dictEpoch e a<|aAa<|aAX<|aAb ⟨_,rfl, "dict_keyiterator",_,⟨_,aAq _ rfl,rfl⟩,aDo.lookup,?_⟩);simpa[d3]using g
def HP {Q:Option au->a9->Prop}(q:A.handled=none)(g:s.heap.IsKeyIter it d i es.size ep)(r:IsD s.heap d es ep)
  (t:∀(e:i<es.size) h',h'.IsKeyIter it d (i+1) es.size ep->Heap.SameBut it s.heap h'->Q (some es[i].key) {s with heap:=h'}) (hE:es.size<=i->∀h',Heap.ExtBut it s.heap h'->Q none {s with heap:=h'}):av (bc prog w) A (ff (.ref it)) Q E s:=by
 have f:=g.typeIs;obtain⟨o,p,u,h⟩:=g;obtain⟨v,k,x,l⟩:=r;have n:Builtin.Dict_items.ownsTuple "dict_keyiterator"=false:=by decide
 unfold ff;refine aAa (aDY<|aCb (name:=aCB "__next__") f aDo<|aBp aDo f F.entry_dict_keyiterator_next (aAa<|aAb<|aAa<|aAa ?_)<|F.args_dict_keyiterator_next_1 _);refine aAa (aDg f<|aAb<|aAa<|aGf p h ?_);simp only[n,aAs,if_false];show av _ _ (if(aDu d==Value.none)=true then _ else _) _ _ s;rw[ja (by intro z;cases z)];refine aAa (aAb<|aAa<|wpAny_dictEntries k l ?_);rw[ja (by simp)];refine aAa (aAb<|aAa<|wpAny_dictEpoch k l ?_);rw[ja (by simp)];refine aAb ?_;by_cases e:i<es.size
 .simp only[show¬((i:Int)<0)by lia,if_false,aAZ,aAz e];refine aAa ?_;refine aAa (aDg f<|aAb<|aAa<|wpAny_isOneOf_keyiter f ?_);show av _ _ (setField (.ref it) 1 (d3<|(i:Int)+1)>>=_) _ _ s;refine aAa (aGg p h (by simp) ?_);have c:(s.heap.update it (Obj.mapFields (·.setIfInBounds 1 (d3<|(i:Int)+1)))).IsKeyIter it d (i+1) es.size ep:=⟨_,aBh _ p (Obj.isFreed_of_fields<|Obj.data_mapFields h _),(Obj.cls_mapFields ..).trans u,by rw[Obj.data_mapFields h];simp[d3]⟩;refine aAa (aAN (aAa (wpAny_isOneOf_keyiter (s:={s with heap:=s.heap.update it (Obj.mapFields (·.setIfInBounds 1 (d3<|(i:Int)+1)))}) c.typeIs (?_:av _ _ (pure es[i].key) _ _ _))));exact aAb (aAb ⟨_,rfl,aAb (t e _ c<|aEK ..)⟩)
 .have e:es.size<=i:=by lia
  simp only[show¬((i:Int)<0)by lia,if_false,aAZ,aBM e];refine aAa ?_;refine aAa (aDg f<|aAb (?_:av _ _ (setField (.ref it) 0 .none>>=_) _ _ s));refine aAa (aGg p h (by simp) (?_:av _ _ (newExc (.type "StopIteration") []>>=_) _ _ _));refine aAa ?_;simp only[newExc,newTuple];refine aAa (aAX (aAa (m:=firstArgMember _ _) (aGn (a:=Value.none) (by first|rfl|(simp only[firstArgMember];rfl)) (aAX ?_ (by size_fits)))) (by size_fits));simp only[raiseNew];refine aAa (wpAny_handled ?_);rw[show A.in1.handled=none from q];refine aAa (aAb<|wpAny_throw ?_);refine aAa (aDf (T:= "StopIteration") (b:=true) ⟨_,aAq _ rfl,rfl⟩ aGh<|aAb<|hE e _<|((aEK ..).extBut.push _).push _)
end
def PQ {prog:be}{w:cq}{A:cp}(k:A.handled=none)(I d:bb)(p:d≠I)(es:Array ij)(ep:Nat):
  Walks prog w A I [I,d] [I] es.size (λi v=>∃e,es[i]?=some e/\v=e.key) (λi h=>h.IsKeyIter I d i es.size ep/\IsD h d es ep)where
 sub:=λb a=>by simp at a;simp[a]
 frame:=λ_ _ _ st l=>⟨Heap.IsKeyIter.at st.1 λo e=>l I (by simp) o e,st.2.at λo e=>l d (by simp) o e⟩
 item:=λi s Q E m st c=>HP k st.1 st.2 (hE:=λz=>by lia) λm f g n=>c _ f s.toks ⟨es[i],aAz m,rfl⟩ ⟨g,st.2.at λo e=>(n.2 d p).trans e⟩ λb o a e=>(n.2 b (λz=>a (by simp[z]))).trans e
 done:=λs Q E st c=>HP k st.1 st.2 (λz=>by lia) λ_ f q=>c f s.toks λb o a e=>q b o (λz=>a (by simp[z])) e
 self:=λ_ _ _ _ st c=>wpAny_pyIter_keyiter st.1 c
section
variable{prog:be} {w:cq} {A:cp} {E:F5} {s:a9} {d:bb} {es:Array ij} {ep:Nat}
def ZK (a:(d==gW)=false):PySem.W.KdlSrc prog w "dict" d d es.size (λi v=>∃e,es[i]?=some e/\v=e.key) (λh=>IsD h d es ep)where
 type:=λs h=>h.type
 there:=by rintro h ⟨o,g,_⟩;exact⟨aAh g,aAh g⟩
 keep:=λh c x k=>x.at λo e=>k d (.inl rfl) o e
 notList:=by decide
 notTuple:=by decide
 hint:=λA E s Q ok q=>PySem.W.kdl_hint_dict ok.type q
 iter:=λA s b ok=>⟨_,λi h=>h.IsKeyIter s.heap.objs.size d i es.size ep/\IsD h d es ep,λE Q q=>UN a ok q,PQ b _ d (by obtain⟨o,g,_⟩:=ok;exact aAm (aAh g)) es ep,⟨_,aAq _ rfl,rfl,rfl⟩,ok.at λo e=>aAc _ e⟩
def collect_dk {Q:List au->a9->Prop}(q:A.handled=none)(r:(d==gW)=false)(k:IsD s.heap d es ep)(t:es.size<=sizeLine)
  (u:∀h' tk,(∀b o,s.heap.get? b=some o->h'.get? b=some o)->Q (es.toList.map (·.key)) {s with heap:=h',toks:=tk}):av (bc prog w) A (collect (.ref d)) Q E s:=by
 have m:d<s.heap.objs.size:=by obtain⟨o,g,_⟩:=k;exact aAh g
 unfold collect;refine aAa (aGe<|aBC PySem.F.entry_proto_collect ?_);rw[aBg PySem.F.plain_proto_collect _];show av _ A.in1 (newList []>>=λl=>again (.builtin "list.__iadd__" ⟨[l,.ref d],[]⟩)) _ _ s;have a:∀b o,s.heap.get? b=some o->(s.heap.push {cls:=.type "list",data:=.seq ([]:List au).toArray}).get? b=some o:=λb o e=>aAc _ e;have f:∀R:Result->a9->Prop,(∀h' tk n x,(∀b o,b≠s.heap.objs.size->(s.heap.push {cls:=.type "list",data:=.seq ([]:List au).toArray}).get? b=some o->h'.get? b=some o)->h'.get? s.heap.objs.size=some {cls:=.type "list",dict:=none,data:=.seq n x,slots:=#[]}->ItemsOf (λi v=>∃e,es[i]?=some e/\v=e.key) n es.size->R (.ok (.ret (.ref s.heap.objs.size))) {s with heap:=h',toks:=tk})->
   fu (bc prog w) A (.builtin "list.__iadd__" ⟨[.ref s.heap.objs.size,.ref d],[]⟩) R {s with heap:=s.heap.push {cls:=.type "list",data:=.seq ([]:List au).toArray}}:=λR y=>aBC PySem.F.entry_list_iadd (by
  rw[aBg PySem.F.plain_list_iadd _];exact PySem.W.kdl_extend (s:={s with heap:=s.heap.push {cls:=.type "list",data:=.seq ([]:List au).toArray}}) (ZK (es:=es) (ep:=ep) r) q (k.at λo e=>a d o e) s.heap.objs.size (aCA m) (aCA m) (.ref s.heap.objs.size) 0 (aAq _ rfl) y t)
 refine aAa (aAX<|aAb ⟨aBT PySem.F.plain_list_iadd _,f _ λh' tk B c z C h=>?_⟩);show av _ A (load s.heap.objs.size>>=_) _ _ _;refine aAa (wpAny_load (s:={s with heap:=h',toks:=tk}) C<|aAb ?_);have H:B.toList=es.toList.map (·.key):=by
  apply aDw;intro i;rw[aAF,aAD,aAD];by_cases I:i<es.size
  .have p:i<B.size:=by rw[h.1];exact I
   obtain⟨e,J,L⟩:=h.2 i _ (aAz p);rw[J,aAz p,L];rfl
  .rw[aBM (by rw[h.1];lia),aBM (by lia)];rfl
 show Q B.toList _;rw[H];exact u h' tk λb o e=>z b o (aAm<|aAh e) (a b o e)
end
end SD
namespace DL
open PySem L2
section
variable [Tabs]
open Classical in
def sdR (i:Nat) (ρ:Ev):R (List D):=match ρ[i]? with
 |some (.d U)=>if(U.map (·.1)).all Y5=true/\U.length<=63 then .ok (F9 (U.map (·.1)))else .bad
 |_=>.bad
theorem rE {K:ka}{H:Hp}{O:bb->Prop}:∀{es:List ij} {U:List (D×D)},nW K H O es U->z6 K H O (es.map (·.key)) (U.map (·.1))
 |[],[],_=>.nil
 |e::es,p::U,.cons h t=>by obtain⟨⟨a,b,r⟩,_⟩:=h;exact .cons ⟨.ref a,by show RelV (.ref a) e.key;rw[b];rfl,r⟩ (rE t)
def EO (i:Nat){x:Str}{p r t:Pos}(hh:X.calm=true)(hu:X.A.units+300<dA)(hN:X.N[i]?=some x:=by rfl)(hv:BZ X.env.scope x:=by first|exact aCK rfl|exact aBU (aCK rfl)|exact aBU (aBU rfl))(h:(x==kc)=false:=by decide)(fg:(x==kd)=false:=by decide)
  (hg:Gl X "sorted":=by rfl) (hm:X.mg "sorted"=none:=by assumption) (hvb:cy "sorted"=some (.builtin "sorted"):=by decide+kernel) (he:a5 [.Name x r] X.env=(false,dC (.Name x r) X.env)::a5 [] X.env:=by rfl) (M9:(dq t (a5 [] X.env)).any (·.1)=false:=by rfl):
  PF X (.Call (.Name "sorted" p) [.Name x r] [] t) (sdR i):=by
 refine tR λY s σ H Q I H9 O0 O ρ E q=>?_;unfold sdR at q;cases e2:ρ[i]? with
 |none=>rw[e2]at q;exact aAk q
 |some sl=>
  rw[e2]at q;cases sl with
  |d U=>
   dsimp only at q;by_cases hc:(U.map (·.1)).all Y5=true/\U.length<=63
   .rw[i6 hc]at q;obtain⟨a,o,es,h1,_,_,h4,h5,h6,nd⟩:=E.slot i _ e2;refine aAO (M6 I hg hm hvb ?_ (by decide) (by decide));have lg:PA X [.Name x r] _:=K0 (R7 hN hv h fg) bB he;refine aBx (F6 (lg t Y s σ H (λvs H1=>vs=[.ref a]/\H1=H) I ⟨_,h1,rfl,rfl⟩) λus z z9=>?_) he M9;obtain⟨vs,H1,J,r1,ev,eH⟩:=z9;subst ev eH;obtain⟨u,rfl,ru⟩:=vals1 r1;cases ru;obtain⟨jv,si⟩:=hc;obtain⟨L,T,B,ep,hdat,ees⟩:=h5;have hD:SD.IsD z.heap a B ep:=⟨o,(J.hok a _ h4).1,T,hdat⟩;have pt:∀d∈U.map (·.1),Y5 d=true:=aBu.mp jv;have st:z6 X.K H1 O (B.toList.map (·.key)) (U.map (·.1)):=by rw[ees];exact rE h6
    have hlen:(B.toList.map (·.key)).length=U.length:=by rw[st.length,aAf]
    have hsz:B.size=U.length:=by rw[<-hlen];simp
    have c:∀u∈B.toList.map (·.key),∃d,d∈U.map (·.1)/\Y5 d=true/\HV z.heap u d:=λu hu=>by obtain⟨d,h,v,rv,rp⟩:=st.get hu;exact⟨d,h,pt d h,W2 J rp (K3<|pt d h) rv⟩
    refine TS.sorted_keys (vs:=B.toList.map (·.key)) (f:=true) (key:=yY z.heap) (C:=λs'=>∃h' m,s'={z with heap:=h',toks:=m}/\∀b o,z.heap.get? b=some o->h'.get? b=some o)
     (λ{Q'} hq=>SD.collect_dk (by simp[J.ok.hd hh]) L hD (by rw[hsz];exact aAr si (by decide)) λh' m k=>hq _ ⟨h',m,rfl,k⟩)
     (λs' ⟨h',m,g,k⟩ s6 k6 x T y hy prog w A E hA {Q} qq=>?_) (λh2 s' ⟨h',m,g,k⟩ s6 k6 A {Q} qq=>?_) (by rw[hlen];lia) λs' gm h' l ⟨h1,m,g,k⟩ pm zo k2 hl ⟨n,gl⟩=>?_
    .subst g;obtain⟨d,_,pd,om⟩:=c x T;obtain⟨d',_,pd',qe⟩:=c y hy;rw[X9 pd om,X9 pd' qe]at qq;exact DK pd pd' (om.keeps λb o e _=>k6 b o (k b o e)) (qe.keeps λb o e _=>k6 b o (k b o e)) qq
    .subst g;refine qJ (λx T=>?_) h2 qq;obtain⟨d,_,pd,om⟩:=c x T;exact⟨d,pd,om.keeps λb o e _=>k6 b o (k b o e)⟩
    .subst g;obtain⟨oi,st3,r,sr⟩:=cO (key:=yY z.heap) st pm zo (by rintro u d ⟨v,rv,rp⟩ h;exact X9 (pt d h) (W2 J rp (K3<|pt d h) rv)) pt nd;have e3:oi=F9 (U.map (·.1)):=bM sr (N5 _) λd=>by rw[r.mem_iff,A0 pt]
     subst e3;obtain⟨wv,oh,ko⟩:=st3.ac0;have I2':=J.kept (h':=h1) (t':=m) k;have I3:=I2'.laid (a:=l) (o:=.lst wv) (h':=h') (t':=m) k2 hl ⟨by rw[ko.length,r.length_eq,aAf];exact aAr si (by decide),gm,n,oh,gl⟩;exact⟨.ref l,_,I3,rfl,q wv _ l (Same.refl _) (I2'.hok.fresh hl) ko⟩
   .rw[ja hc]at q;exact aAk q
  |_=>exact aAk q
end
end DL
namespace M
open PySem L2 DL
variable [Tabs]
def nI (xs:List D) (most:Int):List G.V:=if((cJ xs 1).fdiv 5).fmod 3=0 then gN (iQ xs most)else(gN<|iQ xs most).map (zJ<|XO<|(cJ xs 1).fdiv 5).put
open Classical in
def oP:List D->R D
 |[.lst b,.int a]=>if G7 1048576 b/\b.length<=63/\4<=a/\a<=20 then .ok (.lst ((nI b a).map vd))else .bad
 |_=>.bad
def MV {xs:List D}{most:Int}(a:G7 1048576 xs)(b:xs.length<=63)(h0:4<=most)(c:most<=20):oP [.lst xs,.int most]=.ok (.lst ((nI xs most).map vd)):=i6 ⟨a,b,h0,c⟩
def kq {l:List Int}{P:G.V}(h:cW l)(a:Sz 50 P):Sz 300 ((zJ l).put P):=by
 have g:∀k,bits (l.getD k 0)<=100:=λk=>by
  rw[aAi];cases e:l[k]? with
  |none=>exact(show bits 0<=100 by decide)
  |some i=>exact h.2 i (aAo e)
 have d:bits (P.x+l.getD 0 0*P.y)<=151:=bits_add (m9 a.1 (by decide)) (bits_mul (g 0) a.2.1);have m:bits (P.y+l.getD 1 0*P.z)<=151:=bits_add (m9 a.2.1 (by decide)) (bits_mul (g 1) a.2.2);have f:bits (P.z+l.getD 2 0*(P.x+l.getD 0 0*P.y))<=252:=bits_add (m9 a.2.2 (by decide)) (bits_mul (g 2) d);have ad:∀{x:Int} (k:Nat),bits x<=252->bits (x+l.getD k 0)<=300:=λk h=>m9 (bits_add h (m9 (g k) (by decide))) (by decide);have b:=m9 d (show 151<=252 by decide);have c:=m9 m (show 151<=252 by decide);unfold zJ G.Sl.put;dsimp only;split
 .exact⟨ad 3 c,ad 4 b,ad 5 f⟩
 .exact⟨ad 3 b,ad 4 c,ad 5 f⟩
def KB (s:G.Sl){J:List G.V}(h:G.j3 J):G.j3 (J.map s.put):=G.RO s.unit (λX a=>by rw[<-s.ad9];exact aBs a) h
def XG {xs:List D}{most:Int}(d:G7 1048576 xs)(h0:4<=most)(e:most<=20):G.j3 (nI xs most)/\(∀p∈nI xs most,Sz 300 p)/\((nI xs most).length:Int)<=most+3:=by
 obtain⟨f,b,h⟩:=QY d h0 e;have ne:iQ xs most≠[]:=λz=>by rw[z]at b;simp at b
 have s:=KT ne;obtain⟨c,k⟩:=PC f;unfold nI;split
 .exact⟨s,λp a=>(c p a).mono,by lia⟩
 .refine⟨KB _ s,λp a=>?_,by rw[aAf];lia⟩;obtain⟨q,g,rfl⟩:=aAp.mp a;exact kq (QP _) (c q g).mono
def WF (c P:G.V):G.V×Int:=(G.eN c (G.t7 c),G.c9 (G.eN c<|G.t7 c) P)
def kO (A B C:G.V):WF (G.cr (B-A) (C-A)) A=G.d6 A B C:=rfl
def bL (f:G.V×Int):D:=yK f.1 f.2
open Classical in
def kJ:List D->R D:=v1 λa b c=>v1 λd e f=>kX (if(⟨a,b,c⟩:G.V)≠0/\Sz 2003 ⟨a,b,c⟩/\Sz 1000 ⟨d,e,f⟩then .ok (bL<|WF ⟨a,b,c⟩ ⟨d,e,f⟩)else .bad)
def vU {c P:G.V}(h:c≠0)(a:Sz 2003 c)(b:Sz 1000 P):kJ [vd c,vd P]=.ok (bL (WF c P)):=i6 ⟨h,a,b⟩
open Classical in
def YG (J:List G.V):List D:=if G.j3 J then(j5<|c8 J).map bL else[]
def cA:List D->R D:=uk λJ=>kX (uz (Q8 900 J/\(c8 J).length<=14)<|.lst (YG J))
def nD {J:List G.V}(a:Q8 900 J)(b:(c8 J).length<=14):cA [.lst (J.map vd)]=.ok (.lst (YG J)):=(oQ _ J []).trans (wQ ⟨a,b⟩)
def FJ {J:List G.V}(a:Q8 900 J)(b:G.j3 J)(c:(c8 J).length<=14):cA [.lst (J.map vd)]=.ok (.lst ((j5 (c8 J)).map bL)):=by rw[nD a c,YG,i6 b]
def cD (a n:Nat):List D:=(List.range' a n).map λ(k:Nat)=>D.int (k:Int)
def a2x {a b:Nat}(c:a<=1000000)(h:b<=1000000):gK [.int (a:Int),.int (b:Int)]=.ok (cD a (b-a)):=by
 show(if qD (a:Int) (b:Int) 1 then R.ok (yH a 1<|iR a b 1)else R.bad)=_;rw[i6 ⟨by decide,by decide,by lia,by lia,by lia,by lia⟩];have e:iR (a:Int) (b:Int) 1=b-a:=by
  unfold iR;split
  .simp
  .lia
 rw[e];unfold yH cD;rw[List.range'_eq_map_range,aBw];congr 1;refine aDM λk _=>?_;simp
def QZ {n:Nat}(h:n<=1000000):gK [.int (n:Int)]=.ok (cD 0 n):=by rw[a0u h];unfold cD;rw[aGb]
theorem qB {G:D->Ev->R Ev}{F:Ev->R Out}(Iv:Nat->Ev->Prop):∀{n a:Nat} {ρ:Ev},(∀i,a<=i->i<a+n->∀ρ,Iv i ρ->∃ρ2,aE G F (.int (i:Int)) ρ=.ok (.nx ρ2)/\Iv (i+1) ρ2)->Iv a ρ->∃b,R3 G F (cD a n) ρ=.ok (.nx b)/\Iv (a+n) b
 |0,a,ρ,_,h=>⟨ρ,rfl,h⟩
 |n+1,a,ρ,d,h=>by
  obtain⟨ρ2,e,f⟩:=d a (aAj _) (by lia) ρ h;obtain⟨b,g,k⟩:=qB Iv (n:=n) (λi m f=>d i (by lia) (by lia)) f;refine⟨b,?_,by rw[show a+(n+1)=a+1+n by lia];exact k⟩;show R3 G F (.int (a:Int)::cD (a+1) n) ρ=_;unfold aE at e;cases c:G (.int (a:Int)) ρ with
  |ok l=>rw[c]at e;exact(O7 c e).trans g
  |ex z=>rw[c]at e;cases e
  |bad=>rw[c]at e;cases e
def Q4 (U:List (D×D)):List D:=U.map (·.1)
def CP (S:List G.V)(U:List (D×D)):Prop:=((Q4 U).Nodup/\(U≠[]->G.j3 S))/\∀x∈Q4 U,∃f:G.V×Int,x=bL f/\G.IsFace S f.1 f.2
def Cov (S:List G.V)(U:List (D×D))(i j k:Nat):Prop:=∀A B C,S[i]?=some A->S[j]?=some B->S[k]?=some C->(G.Up S A B C->bL (G.d6 A B C)∈Q4 U)/\(G.Dn S A B C->bL (G.d6 A C B)∈Q4 U)
def V6 (S:List G.V)(U:List (D×D))(i j k:Nat):Prop:=∀b a c,b<a->a<c->(b<i\/(b=i/\(a<j\/(a=j/\c<k))))->Cov S U b a c
def CP.put {S:List G.V}{U:List (D×D)}{f:G.V×Int}{v:D}(h:CP S U)(b:G.j3 S)(c:G.IsFace S f.1 f.2):CP S (aH U (bL f) v):=by
 refine⟨⟨uO _ _ _ h.1.1,λ_=>b⟩,λx a=>?_⟩;rcases Z5.mp a with a|rfl
 .exact h.2 x a
 .exact⟨f,rfl,c⟩
theorem rV {S:List G.V}:∀{l:List D},l.Nodup->(∀x∈l,∃f:G.V×Int,x=bL f/\G.IsFace S f.1 f.2)->∃fs:List (G.V×Int),l=fs.map bL/\fs.Nodup/\∀f∈fs,G.IsFace S f.1 f.2
 |[],_,_=>⟨[],rfl,.nil,λf a=>by cases a⟩
 |x::l,c,h=>by
  obtain⟨f,rfl,a⟩:=h _ (.head _);obtain⟨d,e⟩:=aAH.mp c;obtain⟨fs,rfl,k,m⟩:=rV e λy n=>h y (.tail _ n);refine⟨f::fs,rfl,aAH.mpr ⟨λz=>d (aBs z),k⟩,λg b=>?_⟩;cases b with
  |head=>exact a
  |tail _ b=>exact m g b
def CP.few {S:List G.V}{U:List (D×D)}(d:S.Pairwise λa b=>G.f6 (b-a))(k:S.length<=14)(h:CP S U):U.length<=63:=by
 by_cases z:U=[]
 .rw[z];decide
 have f:=h.1.2 z;obtain⟨fs,e,l,g⟩:=rV h.1.1 h.2;have few:=G.bX f d l g;have c:=G.fN f d g;have m:S.length*S.length<=14*S.length:=Nat.mul_le_mul_right _ k;have:U.length=fs.length:=by have:=jk aFt e;unfold Q4 at this;rw[aAf,aAf]at this;exact this
 lia
def bW (S:List G.V)(c A:G.V):List Int:=S.map λX=>G.c9 c (X-A)
def LN (c A:G.V):G.c9 c (A-A)=0:=by simp[G.c9]
def IP {S:List G.V}{c A:G.V}(m:A∈S):(((∀X∈S,G.c9 c (X-A)<=0)/\∃X∈S,G.c9 c (X-A)<0)↔rX (bW S c A)=0/\sJ (bW S c A)<0)/\(((∀X∈S,0<=G.c9 c (X-A))/\∃X∈S,0<G.c9 c (X-A))↔sJ (bW S c A)=0/\0<rX (bW S c A)):=by
 have a:∀x,x∈bW S c A↔∃X∈S,G.c9 c (X-A)=x:=λx=>aAp;have d:(0:Int)∈bW S c A:=(a 0).mpr ⟨A,m,LN c A⟩;have ne:bW S c A≠[]:=λz=>by rw[z]at d;cases d
 have e:∀X∈S,G.c9 c (X-A)<=rX (bW S c A)/\sJ (bW S c A)<=G.c9 c (X-A):=λX b=>⟨wE ((a _).mpr ⟨X,b,rfl⟩),xD ((a _).mpr ⟨X,b,rfl⟩)⟩;have n:=wE d;have o:=xD d;obtain⟨Y,g,p⟩:=(a _).mp (AN ne);obtain⟨Z,k,q⟩:=(a _).mp (zN ne);refine⟨⟨λf=>?_,λh=>⟨λX b=>?_,Z,k,by lia⟩⟩,λf=>?_,λh=>⟨λX b=>?_,Y,g,by lia⟩⟩
 .obtain⟨h,X,b,l⟩:=f;have:=h Y g;have:=e X b
  lia
 .have:=e X b
  lia
 .obtain⟨h,X,b,l⟩:=f;have:=h Z k;have:=e X b
  lia
 .have:=e X b
  lia
def yS {S:List G.V}{A B C:G.V}(a:A∈S)(b:B∈S)(c:C∈S)(h:G.Up S A B C):G.j3 S:=by
 obtain⟨_,X,d,l⟩:=h;refine⟨A,a,B,b,C,c,X,d,λe=>?_⟩;have:G.i9 (B-A) (C-A) (X-A)=G.c9 (G.cr (B-A)<|C-A) (X-A):=by simp[G.i9,G.c9];try grind
 lia
open Classical in
def QK (S:List G.V) (U:List (D×D)) (A B C:G.V):List (D×D):=if G.Up S A B C then aH U (bL<|G.d6 A B C) (.bl true)else U
open Classical in
def VW (S:List G.V) (U:List (D×D)) (A B C:G.V):List (D×D):=if G.Dn S A B C then aH (QK S U A B C) (bL<|G.d6 A C B) (.bl true)else QK S U A B C
def RT {S:List G.V}{U:List (D×D)}{A B C:G.V}(b:A∈S)(c:B∈S)(d:C∈S)(h:CP S U):CP S (QK S U A B C)/\(∀x∈Q4 U,x∈Q4 (QK S U A B C))/\(G.Up S A B C->bL (G.d6 A B C)∈Q4 (QK S U A B C)):=by
 unfold QK;split
 .rename_i u;exact⟨h.put (yS b c d u) (G.oN b c d u),λx a=>Z5.mpr (.inl a),λ_=>Z5.mpr (.inr rfl)⟩
 .rename_i u;exact⟨h,λx a=>a,λz=>absurd z u⟩
def qy {S:List G.V}{U:List (D×D)}{A B C:G.V}(a:A∈S)(b:B∈S)(c:C∈S)(h:CP S U):CP S (VW S U A B C)/\(∀x∈Q4 U,x∈Q4 (VW S U A B C))/\(G.Up S A B C->bL (G.d6 A B C)∈Q4 (VW S U A B C))/\(G.Dn S A B C->bL (G.d6 A C B)∈Q4 (VW S U A B C)):=by
 obtain⟨d,e,f⟩:=RT (B:=B) (C:=C) a b c h;unfold VW;split
 .rename_i u;exact⟨d.put (yS a c b<|G.BC.mp u) (G.oN a c b<|G.BC.mp u),λx g=>Z5.mpr (.inl (e x g)),λz=>Z5.mpr (.inl (f z)),λ_=>Z5.mpr (.inr rfl)⟩
 .rename_i u;exact⟨d,e,f,λz=>absurd z u⟩
def V6.step {S:List G.V}{U e:List (D×D)}{i j k:Nat}(h:V6 S U i j k)(g:∀x∈Q4 U,x∈Q4 e)(m:Cov S e i j k):V6 S e i j (k+1):=λc d f a b l=>by
 by_cases q:c<i\/(c=i/\(d<j\/(d=j/\f<k)))
 .intro A B C n o p;have:=h c d f a b q A B C n o p;exact⟨λu=>g _ (this.1 u),λu=>g _ (this.2 u)⟩
 .have:c=i/\d=j/\f=k:=by lia
  obtain⟨rfl,rfl,rfl⟩:=this;exact m
def V6.j {S:List G.V}{U:List (D×D)}{i j:Nat}(h:V6 S U i j S.length):V6 S U i (j+1) 0:=λe f c a b l A B C g k d=>by have:c<S.length:=(aAy.mp d).1;exact h e f c a b (by lia) A B C g k d
def V6.i {S:List G.V}{U:List (D×D)}{i:Nat}(h:V6 S U i S.length 0):V6 S U (i+1) 0 0:=λe c f a b l A B C g d k=>by have:c<S.length:=(aAy.mp d).1;exact h e c f a b (by lia) A B C g d k
def V6.j0 {S:List G.V}{U:List (D×D)}{i:Nat}(h:V6 S U i 0 0):V6 S U i (i+1) 0:=λc d e a b l=>h c d e a b (by lia)
def V6.k0 {S:List G.V}{U:List (D×D)}{i j:Nat}(h:V6 S U i j 0):V6 S U i j (j+1):=λc d e a b l=>h c d e a b (by lia)
def RE {S:List G.V}{U:List (D×D)}(d:G.j3 S)(K:CP S U)(h:V6 S U S.length 0 0)(x:D):x∈Q4 U↔∃f:G.V×Int,x=bL f/\G.IsFace S f.1 f.2:=by
 refine⟨K.2 x,λg=>?_⟩;obtain⟨f,e,l⟩:=g;obtain⟨A,B,C,⟨i,j,k,a,b,c,m,n⟩,q⟩:=(G.JE d).mp l;have:=h i j k a b (.inl (aAy.mp c).1) A B C c m n;rw[e];rcases q with⟨u,q⟩|⟨u,q⟩
 .rw[<-show G.d6 A B C=f from q];exact this.1 u
 .rw[<-show G.d6 A C B=f from q];exact this.2 u
def rZ {J:List G.V}{U:List (D×D)}(g:Q8 900 J)(k:G.j3 J)(l:(c8 J).length<=14)(K:CP (c8 J) U)(h:V6 (c8 J) U (c8 J).length 0 0):F9 (Q4 U)=(j5 (c8 J)).map bL:=by
 obtain⟨m,r,e,L⟩:=N8 g k (by lia);have c:=l;rw[e]at c;have a:=A9 L c;rw[<-e]at a L;have pt:∀d∈Q4 U,Y5 d=true:=λd n=>by obtain⟨f,rfl,_⟩:=K.2 d n;rfl
 refine bM (N5 _) ?_ λd=>?_
 .have:=a.2;unfold tK at this;unfold SH;rw[aBv]at this⊢;exact this
 .rw[A0 pt,RE L.good.solid K h,aAp];constructor
  .rintro⟨f,rfl,b⟩;exact⟨f,(a.1 f).mpr b,rfl⟩
  .rintro⟨f,b,rfl⟩;exact⟨f,rfl,(a.1 f).mp b⟩
def DM {J:List G.V}{U:List (D×D)}(a:Q8 900 J)(b:(c8 J).length<=14)(K:CP (c8 J) U)(h:V6 (c8 J) U (c8 J).length 0 0):F9 (Q4 U)=YG J:=by
 unfold YG;by_cases q:G.j3 J
 .rw[i6 q];exact rZ a q b K h
 .rw[ja q];have:U=[]:=aDF λz=>q (S5 (K.1.2 z) λv c=>j4.mp c);rw[this];rfl
def OL {G:D->Ev->R Ev}{F:Ev->R Out}{Post:Ev->Prop}{n a:Nat}{ρ:Ev}(Iv:Nat->Ev->Prop)(d:∀i,a<=i->i<a+n->∀ρ,Iv i ρ->∃ρ2,aE G F (.int (i:Int)) ρ=.ok (.nx ρ2)/\Iv (i+1) ρ2)(h0:Iv a ρ)(c:∀b,Iv (a+n) b->Post b):∃ρ2,R3 G F (cD a n) ρ=.ok (.nx ρ2)/\Post ρ2:=by obtain⟨b,e,h⟩:=qB Iv d h0;exact⟨b,e,c b h⟩
def HA {G:D->Ev->R Ev}{F c:Ev->R Out}{d:D}{n a:Nat}{ρ:Ev}(Iv:Nat->Ev->Prop)(f:∀i,a<=i->i<a+n->∀ρ,Iv i ρ->∃ρ2,aE G F (.int (i:Int)) ρ=.ok (.nx ρ2)/\Iv (i+1) ρ2)(h0:Iv a ρ)(g:∀b,Iv (a+n) b->N6 (c b)=.ok d):N6 (C9 (R3 G F (cD a n) ρ) c)=.ok d:=by obtain⟨b,e,h⟩:=qB Iv f h0;rw[e];exact g b h
def SX {r:R Out}{ρ:Ev}{F:Ev->R Out}{x:R Out}(a:r=.ok (.nx ρ))(b:F ρ=x):C9 r F=x:=by rw[a];exact b
def HY {U:List (D×D)}{f:G.V×Int}{v:D}{a b:Sl}{r:Ev}(h:U.length<=63):vJ 2 (a::b::.d U::r) (bL f) v=.ok (.nx (a::b::.d (aH U (bL f) v)::r)):=i6 ⟨rfl,rfl,aAr h (by decide)⟩
def pT {S:List G.V}{i:Nat}{A:G.V}(h:S[i]?=some A):V1 (.lst (S.map vd)) (.int (i:Int))=.ok (vd A):=N0 (by rw[Z7 (by lia),aAZ,aAF,h];rfl)
def RI (A B C:G.V):(⟨0-(G.cr (B-A) (C-A)).x,0-(G.cr (B-A) (C-A)).y,0-(G.cr (B-A) (C-A)).z⟩:G.V)=G.cr (C-A) (B-A):=by rw[G.xU];apply G.ext<;>simp
def WL {S:List G.V}{c A:G.V}(h:S≠[]):GI [.lst ((bW S c A).map D.int)]=.ok (.int (rX (bW S c A)))/\IN [.lst ((bW S c A).map D.int)]=.ok (.int (sJ (bW S c A))):=by
 have ne:bW S c A≠[]:=by unfold bW;simpa using h
 constructor
 .simp only[GI,rR];exact i6 ne
 .simp only[IN,rR];exact i6 ne
def pv1 (p:D)(S:List G.V)(i:Nat)(ρ:Ev):Prop:=∃U a b c e f,ρ=[Sl.v p,Sl.v (.lst (S.map vd)),.d U,a,b,c,e,f]/\CP S U/\V6 S U i 0 0
def pv2 (p:D)(S:List G.V)(i j:Nat)(ρ:Ev):Prop:=∃U a b c e,ρ=[Sl.v p,Sl.v (.lst (S.map vd)),.d U,.v (.int (i:Int)),a,b,c,e]/\CP S U/\V6 S U i j 0
def pv3 (p:D)(S:List G.V)(i j k:Nat)(ρ:Ev):Prop:=∃U a b c,ρ=[Sl.v p,Sl.v (.lst (S.map vd)),.d U,.v (.int (i:Int)),.v (.int (j:Int)),a,b,c]/\CP S U/\V6 S U i j k
open Classical in
def uM:List D->R D:=v4 λa b c d=>v1 λx y z=>kX (if Sz 2003 ⟨a,b,c⟩/\Sz 1000 ⟨x,y,z⟩then .ok (.bl (decide (G.c9 ⟨a,b,c⟩ ⟨x,y,z⟩=d)))else .bad)
def ZJ {f:G.V×Int}{P:G.V}(h:Sz 2003 f.1)(a:Sz 1000 P):uM [bL f,vd P]=.ok (.bl (decide (G.c9 f.1 P=f.2))):=i6 ⟨h,a⟩
def RN {f:G.V×Int}{P:G.V}(h:Sz 2003 f.1)(a:Sz 1000 P):j9 [bL f,vd P]=.ok (.int (G.c9 f.1 P)):=i6 ⟨⟨y3 h.1,y3 h.2.1,y3 h.2.2⟩,y3 a.1,y3 a.2.1,y3 a.2.2⟩
def vV {α:Type}{l:List α}(d:l.Nodup):2<l.length↔∃a b c,a∈l/\b∈l/\c∈l/\a≠b/\a≠c/\b≠c:=by
 constructor
 .intro h;match l,h,d with
  |a::b::c::l,_,d=>
   refine⟨a,b,c,by simp,by simp,by simp,?_,?_,?_⟩
   .rintro rfl;simp at d
   .rintro rfl;simp at d
   .rintro rfl;simp at d
 .rintro⟨a,b,c,o,p,q,f,g,k⟩
  classical
  have n:[a,b,c].Nodup:=by simp[f,g,k]
  have:=G.G0 n (m:=l) λv e=>by simp only[aAe,aAG,or_false]at e;rcases e with rfl|rfl|rfl<;>assumption
  exact this
def LZ (fs:List (G.V×Int)) (X:G.V):List (G.V×Int):=fs.filter λf=>decide (G.c9 f.1 X=f.2)
def kI {J:List G.V}(s:Q8 900 J)(t:G.j3 J)(u:(c8 J).length<=14):((c8 J).filter λX=>decide (2<(LZ (j5 (c8 J)) X).length))=l9 J:=by
 obtain⟨m,r,e,L⟩:=N8 s t (by lia);have v:=u;rw[e]at v;have k:=A9 L v;rw[<-e]at k L;have z:(j5<|c8 J).Nodup:=C4 (J1 k.2);have w:=L.good.solid;have n:=L.good.ord;refine J4 ((l5 J).sublist aEO) (l5 _) λX=>?_;rw[aCa,decide_eq_true_eq,U3 s t u,vV (l:=LZ (j5<|c8 J) X) (z.sublist aEO)];have d:∀f,f∈LZ (j5<|c8 J) X↔G.IsFace (c8 J) f.1 f.2/\G.c9 f.1 X=f.2:=λf=>by unfold LZ;rw[aCa,decide_eq_true_eq,k.1]
 constructor
 .rintro⟨g,a,b,c,h,o,p,A,B,C⟩;rw[d]at h o p;exact⟨a,h.1,G.DI w n g h.1 o.1 p.1 h.2 o.2 p.2 A B C⟩
 .rintro⟨f,q,g⟩;obtain⟨x,y,E,H,I,N,O,Q,T,U⟩:=G.dP w n q g;have Y:=(G.d7.mp<|(q.aa2 n).aa3 g).1;exact⟨Y,f,x,y,(d f).mpr ⟨q,Q⟩,(d x).mpr ⟨E,T⟩,(d y).mpr ⟨H,U⟩,I,N,O⟩
open Classical in
def aD:List D->R D
 |[.lst a,.lst b]=>match D3 a with
  |some J=>if b=(j5 (c8 J)).map bL/\Q8 900 J/\G.j3 J/\(c8 J).length<=14 then .ok (.lst ((l9 J).map vd))else .bad
  |_=>.bad
 |_=>.bad
def BG {J:List G.V}(a:Q8 900 J)(b:G.j3 J)(c:(c8 J).length<=14):aD [.lst (J.map vd),.lst ((j5 (c8 J)).map bL)]=.ok (.lst ((l9 J).map vd)):=by simp only[aD,p6];exact i6 ⟨rfl,a,b,c⟩
def RD (cs:List G.V)(k:Int):G.V:=cs.getD (k.fmod cs.length).toNat 0
def xP {cs:List G.V}(h:cs≠[])(k:Int):RD cs k∈cs/\cs[(k.fmod cs.length).toNat]?=some (RD cs k)/\0<=k.fmod cs.length:=by
 have c:(0:Int)<cs.length:=by
  have:cs.length≠0:=λz=>h (aBD z)
  lia
 have r:=S7 (a:=k) c;have b:(k.fmod cs.length).toNat<cs.length:=by lia
 unfold RD;rw[aAi,aAd b];exact⟨aBE b,rfl,r.1⟩
def ZA {cs:List G.V}(h:cs≠[])(k:Int):V1 (.lst (cs.map vd)) (.int (k.fmod cs.length))=.ok (vd (RD cs k)):=by obtain⟨_,e,r⟩:=xP h k;exact N0 (by rw[Z7 r,aAF,e];rfl)
def UD {L:List G.V}{t:Int}(h0:t≠0)(a:bits t<=250)(c:∀p∈L,Sz 300 p)(S:G.j3 L)(d:L.length<=14):Q8 900 (L.map (G.yI t))/\G.j3 (L.map (G.yI t))/\(c8 (L.map (G.yI t))).length<=14/\∀p∈L.map (G.yI t),Sz 550 p:=by
 have z:∀p∈L.map (G.yI t),Sz 550 p:=λp b=>by obtain⟨q,e,rfl⟩:=aAp.mp b;have:=c q e;exact⟨bits_mul a this.1,bits_mul a this.2.1,bits_mul a this.2.2⟩
 refine⟨⟨λp b=>(z p b).mono,by rw[aAf];lia⟩,G.JL h0 (λX f=>aBs f) S,?_,z⟩;exact aAr (jE _) (by rw[aAf];exact d)
def xW (l:List G.V):G.V:=⟨(l.map G.V.x).sum,(l.map G.V.y).sum,(l.map G.V.z).sum⟩
def cQ {W C:List G.V}(b:Q8 900 W)(a:G.j3 W)(c:(c8 W).length<=14)(d:W.length<=60)(e:l9 W=C):J6 [.lst (W.map vd)]=.ok (.bl (decide (C=W))):=by
 simp only[J6,p6];rw[ja,i6 ⟨b,a,c,d⟩,e];rintro(z|z)
 .subst z;obtain⟨A,f,_⟩:=a;cases f
 .exact z.2 a
def nF {a b:List G.V}(h:∀v,v∈a↔v∈b):c8 a=c8 b:=J4 (l5 _) (l5 _) λv=>by rw[j4,j4,h]
def LQ {a b:List G.V}(h:∀v,v∈a↔v∈b):l9 a=l9 b:=by unfold l9;rw[nF h]
def a0n {α:Type}{r:R α}{x:α}{F:α->R Out}{a:Ev->R Out}{d:D}(b:r=.ok x)(c:N6 (C9 (F x) a)=.ok d):N6 (C9 (r.bind F) a)=.ok d:=by rw[b];exact c
def VR {L:List G.V}{k:Nat}(h:k<=L.length):EX (.lst (L.map vd)) (some (k:Int)) none=.ok (.lst ((L.drop k).map vd)):=by show R.ok (D.lst<|cutD (L.map vd) (some (k:Int)) none)=_;unfold cutD;rw[HT.sIx_nat,HT.sIx_none,aAf,aDZ h,aDj (by rw[aCu,aAf];exact aAj _),List.map_drop]
def TQ {L:List G.V}{k:Nat}(h:k<=L.length):EX (.lst (L.map vd)) none (some (k:Int))=.ok (.lst ((L.take k).map vd)):=by show R.ok (D.lst<|cutD (L.map vd) none<|some (k:Int))=_;unfold cutD;rw[HT.sIx_nat,HT.sIx_none,aAf,aDZ h,aFg,Nat.sub_zero,aFz]
def JI {J:List G.V}(h:J.Nodup)(c:J.length<=63):spR (.lst (J.map vd))=.ok ((c8 J).map vd):=by show(if _ then _ else _)=_;rw[i6 ⟨EF J,aBv.mpr (h.imp λ{a b} n e=>n (wM e)),by rw[aAf];exact c⟩,aG]
end M
namespace HT
open PySem PyProof.Rows
section
open PySem.SeqAt
open PySem.AutoSeq1 (wpAny_loadPart')
open PySem.MeetsSeq PySem.MeetsSeq2 PySem.MeetsSeq3
end
section
variable{prog:be} {w:cq} {A:cp} {E:F5} {s:a9}
end
end HT
namespace DL
open PySem PySem.Spec L2
open PyProof.Rows hiding St
variable [Tabs]
end DL
namespace M
open PySem L2 DL
variable [Tabs]
def lp {α:Type}:Nat->(Nat->α->α)->α->α
 |0,_,a=>a
 |n+1,f,a=>f n (lp n f a)
def Sup (S:List G.V)(f:G.V×Int):Prop:=∀X∈S,G.c9 f.1 X<=f.2
open Classical in
def a0z (S:List G.V) (f:G.V×Int) (fs:List (G.V×Int)):List (G.V×Int):=if f∉fs/\Sup S f then fs++[f]else fs
open Classical in
def stp (S:List G.V) (A B C:G.V) (fs:List (G.V×Int)):List (G.V×Int):=if G.cr (B-A) (C-A)=0 then fs else a0z S (G.d6 A C B) (a0z S (G.d6 A B C) fs)
def IJ {S:List G.V}{i:Nat}(h:i<S.length):S.getD i 0∈S:=by rw[aAi,aAd h];exact aBE h
def rP {J:List G.V}(g:Q8 900 J)(h:G.j3 J)(k:(c8 J).length<=14){X:G.V}:X∈l9 J↔X∈c8 J/\∃a b c:G.V×Int,(G.IsFace (c8 J) a.1 a.2/\G.c9 a.1 X=a.2)/\(G.IsFace (c8 J) b.1 b.2/\G.c9 b.1 X=b.2)/\(G.IsFace (c8 J) c.1 c.2/\G.c9 c.1 X=c.2)/\a≠b/\a≠c/\b≠c:=by
 obtain⟨m,r,e,L⟩:=N8 g h (by lia);have n:=k;rw[e]at n;have d:=A9 L n;rw[<-e]at d;have o:(j5<|c8 J).Nodup:=C4 (J1 d.2);have p:∀f,f∈LZ (j5<|c8 J) X↔G.IsFace (c8 J) f.1 f.2/\G.c9 f.1 X=f.2:=λf=>by unfold LZ;rw[aCa,decide_eq_true_eq,d.1]
 rw[<-kI g h k,aCa,decide_eq_true_eq,vV (l:=LZ (j5<|c8 J) X) (o.sublist aEO)];simp only[p]
def Hu (l:List G.V):Prop:=Q8 900 l/\G.j3 l/\(c8 l).length<=14
def M9 (n A:G.V)(h:Int):G.V×Int:=(⟨n.x.fdiv h,n.y.fdiv h,n.z.fdiv h⟩,G.c9 ⟨n.x.fdiv h,n.y.fdiv h,n.z.fdiv h⟩ A)
def UR (fs:List (G.V×Int)):C6 (fs.map bL)<=1:=by
 induction fs with
 |nil=>simp[C6]
 |cons f fs a=>rw[aAu,C6];exact Nat.max_le.mpr ⟨by simp[bL,D8,C6],a⟩
def gj (s:Int):Prop:=(s.fdiv 216).fmod 3=1
instance(s:Int):Decidable (gj s):=inferInstanceAs (Decidable<|_=_)
def WO {a b:List G.V}(h:∀v,v∈a↔v∈b)(c:Hu a)(d:b.length<=1000):Hu b:=⟨⟨λP e=>c.1.1 P ((h P).mpr e),d⟩,S5 c.2.1 λv f=>(h v).mp f,by rw[<-nF h];exact c.2.2⟩
def JZ {p o:List G.V}(l:Hu p)(g:Hu o)(sub:∀X∈p,X∈o)(s:∀Y∈o,Y∈p\/∃a∈p,∃b∈p,(2:Int)*Y=a+b):l9 o=l9 p:=by
 have q:G.j3 (c8 o):=S5 g.2.1 λv t=>j4.mpr t;have c:∀X∈c8 p,X∈c8 o:=λX u=>j4.mpr (sub X<|j4.mp u);have k:∀Y∈c8 o,Y∈c8 p\/∃a∈c8 p,∃b∈c8 p,(2:Int)*Y=a+b:=λY w=>by
  rcases s Y (j4.mp w)with h|⟨a,x,b,y,e⟩
  .exact .inl (j4.mpr h)
  .exact .inr ⟨a,j4.mpr x,b,j4.mpr y,e⟩
 have z:=λ{n d}=>G.KR q (l5 o) c k (n:=n) (d:=d);refine J4 (l5 _) (l5 _) λX=>?_;have m:=rP g.1 g.2.1 g.2.2 (X:=X);have r:=rP l.1 l.2.1 l.2.2 (X:=X);simp only[z]at m;constructor
 .intro h;obtain⟨f,A,B⟩:=(U3 g.1 g.2.1 g.2.2 X).mp h;exact r.mpr ⟨G.tZ q (l5 o) c k A B,(m.mp h).2⟩
 .intro h;have:=r.mp h;exact m.mpr ⟨c X this.1,this.2⟩
def EH {o:List G.V}(h:Hu o):(j5 (c8 (l9 o))).map (l8 (c8 (l9 o)))=(j5 (c8 o)).map (l8 (c8 o)):=by
 obtain⟨g,k,l⟩:=h;obtain⟨w,x,n,y,I,z⟩:=vS g k l;obtain⟨m,r,e,L⟩:=N8 g k (by lia);have q:=l;rw[e]at q;have b:=A9 L q;rw[<-e]at b L;obtain⟨J,N,s,t⟩:=N8 x w (by rw[n];lia);have c:(c8<|l9 o).length<=14:=by rw[n];exact y
 rw[s]at c;have a:=A9 t c;rw[<-s]at a t;rw[n]at a⊢;have A:(j5<|c8 o).Nodup:=C4 (J1 b.2);have B:(j5<|l9 o).Nodup:=C4 (J1 a.2);have d:∀f,f∈j5 (l9 o)↔f∈j5 (c8 o):=λf=>by rw[a.1,b.1,z]
 have C:=λX=>U3 g k l X;have ring:∀f∈j5 (c8 o),l8 (l9 o) f=l8 (c8 o) f:=λf p=>by unfold l8;rw[show G.k8 (l9 o) f=G.k8 (c8 o) f from G.qx L.good.solid (l5 o) (l5 _) C ((b.1 f).mp p)]
 have u:(j5<|l9 o).map (l8<|l9 o)=(j5<|l9 o).map (l8<|c8 o):=aDM λf p=>ring f ((d f).mp p);have E:(j5<|l9 o).Perm (j5<|c8 o):=by
  classical
  exact(aCL B A).mpr d
 have H:=b.2;have v:=a.2;rw[u]at v;rw[u];exact gC v H (E.map _)
def KM {C c:List G.V}(d:Hu C)(n:l9 C=C)(f:c8 C=C)(sub:∀X∈c,X∈C)(h':Hu c)(e:c8 c=c):l9 c=c:=by have m:=U3 d.1 d.2.1 d.2.2;rw[f,n]at m;have g:=U3 h'.1 h'.2.1 h'.2.2;rw[e]at g;refine(J4 (a:=l9 c) (b:=c8 c) (l5 _) (l5 c) λX=>?_).trans e;rw[j4 (J:=c)];have k:=l5 C;have l:=l5 c;rw[f]at k;rw[e]at l;exact⟨λh=>pS h'.1 h'.2.1 h'.2.2 h,λh=>(g X).mpr (G.zS d.2.1 k (λX o=>(m X).mp o) sub h'.2.1 l h)⟩
def bD (k:Bool->List D->R D):List D->R D
 |.bl a::b=>k a b
 |_=>.bad
def YQ {k:Bool->List D->R D}{ds:List D}{r:D}(h:bD k ds=.ok r):∃a e,ds=.bl a::e/\k a e=.ok r:=by
 unfold bD at h;split at h
 .exact⟨_,_,rfl,h⟩
 .cases h
def jZ:List D->R D:=bD λa=>bD λb=>kX (.ok (.bl (a==b)))
def yJ (A B:G.V):G.V:=⟨(A.x+B.x).fdiv 2,(A.y+B.y).fdiv 2,(A.z+B.z).fdiv 2⟩
def mB:List D->R D:=v1 λa b c=>v1 λd e f=>kX (.ok (vd<|yJ ⟨a,b,c⟩ ⟨d,e,f⟩))
def WU (A B:G.V):mB [vd A,vd B]=.ok (vd (yJ A B)):=rfl
def R0 (xs:List D):Int:=1+((cJ xs 0).fdiv 5).fmod 1000
def DV (key:Int)(k:Nat):D:=.tup [.int ((((k:Int)+1)*((k:Int)+key)*9013).fmod 10007),.int (k:Int)]
def fw:D->Int
 |.tup [_,.int k]=>k
 |_=>0
def kE (xs:List D) (J:List G.V):List G.V:=(F9<|(aAQ J.length).map (DV<|R0 xs)).map λd=>J.getD (fw d).toNat 0
def iE (xs:List D)(J:List G.V)(k:Nat)(o:List G.V):List G.V:=o.take ((cJ xs<|4+(k:Int)).fmod ((o.length:Int)+1)).toNat++[yJ (RD J<|cJ xs<|2+(k:Int)) (RD J<|(cJ xs<|3+(k:Int)).fdiv 7),RD J (cJ xs<|2+(k:Int))]++o.drop ((cJ xs<|4+(k:Int)).fmod ((o.length:Int)+1)).toNat
def nC (xs:List D):Nat:=(1+((cJ xs 1).fdiv 12).fmod 3).toNat
def tq (xs:List D) (J:List G.V):List G.V:=lp (nC xs) (iE xs J) (kE xs J)
def iY:List D->R D:=GY λa=>uk λJ=>kX (uz (G7 1048576 a/\J≠[]/\J.length<=20)<|.lst ((tq a J).map vd))
def BJ {xs:List D}{J:List G.V}(a:G7 1048576 xs)(b:J≠[])(c:J.length<=20):iY [.lst xs,.lst (J.map vd)]=.ok (.lst ((tq xs J).map vd)):=(oQ _ J []).trans (wQ ⟨a,b,c⟩)
def qZ (key:Int)(n:Nat):∀d∈(aAQ n).map (DV key),Y5 d=true:=λd a=>by obtain⟨k,_,rfl⟩:=aAp.mp a;rfl
def LH (key:Int)(n:Nat):((aAQ n).map (DV key)).Nodup:=aBv.mpr (aFB.imp λ{a b} ne e=>ne (by
 simp only[DV,D.tup.injEq,aEM,D.int.injEq,and_true]at e
 lia))
def AV {xs:List D}{J:List G.V}{X:G.V}:X∈kE xs J↔X∈J:=by
 unfold kE;rw[aAp];constructor
 .rintro⟨d,b,rfl⟩;obtain⟨k,a,rfl⟩:=aAp.mp ((A0 (qZ _ _) d).mp b);exact IJ (aBP.mp a)
 .intro h;obtain⟨k,a,e⟩:=List.mem_iff_getElem.mp h;refine⟨DV (R0 xs) k,(A0 (qZ _ _) _).mpr (aBs<|aBP.mpr a),?_⟩;show J.getD ((k:Int)).toNat 0=X;rw[aAZ,aAi,aAd a];exact e
def BN {xs:List D}{J:List G.V}:(kE xs J).length<=J.length:=by
 unfold kE;rw[aAf]
 classical
 have:=G.G0 (vG<|N5<|(aAQ J.length).map (DV<|R0 xs)) (m:=(aAQ J.length).map (DV<|R0 xs)) λd a=>(A0 (qZ _ _) d).mp a;rw[aAf,List.length_range]at this;exact this
def YD (xs:List D):nC xs<=3/\((nC xs:Nat):Int)=1+((cJ xs 1).fdiv 12).fmod 3:=by have:=S7 (a:=(cJ xs 1).fdiv 12) (b:=3) (by decide);unfold nC;constructor<;>lia
def W3 (J o:List G.V)(n:Nat):Prop:=(∀X∈J,X∈o)/\(∃c:List G.V,c.length<=n/\∀Y∈o,Y∈J\/(Y∈c/\∃a∈J,∃b∈J,Y=yJ a b))/\o.length<=J.length+2*n
def XJ {xs:List D}{J o:List G.V}{n k:Nat}(f:J≠[])(h:W3 J o n):W3 J (iE xs J k o) (n+1):=by
 obtain⟨l,⟨g,s,m⟩,t⟩:=h;have d:∀X a,X∈o↔X∈o.take a\/X∈o.drop a:=λX a=>by rw[<-aAL,aEk]
 unfold iE;generalize((cJ xs<|4+(k:Int)).fmod ((o.length:Int)+1)).toNat=a;have A:=(xP f<|cJ xs<|2+(k:Int)).1;have B:=(xP f<|(cJ xs<|3+(k:Int)).fdiv 7).1;generalize RD J (cJ xs<|2+(k:Int))=p at*
 generalize RD J ((cJ xs<|3+(k:Int)).fdiv 7)=q at*
 have e:∀Y∈o,Y∈J\/(Y∈yJ p q::g/\∃a∈J,∃b∈J,Y=yJ a b):=λY c=>(m Y c).imp id λ⟨z,w⟩=>⟨.tail _ z,w⟩;refine⟨λX r=>?_,⟨yJ p q::g,by rw[aAt];lia,λY c=>?_⟩,?_⟩
 .rcases(d X a).mp (l X r)with z|z
  .exact aBf _ (aBf _ z)
  .exact aAC _ z
 .rcases aAL.mp c with c|c
  .rcases aAL.mp c with c|c
   .exact e Y ((d Y a).mpr (.inl c))
   .simp only[aAe,aAG,or_false]at c;rcases c with rfl|rfl
    .exact .inr ⟨.head _,p,A,q,B,rfl⟩
    .exact .inl A
  .exact e Y ((d Y a).mpr (.inr c))
 .simp only[aAx,aBd,aCu,aAt,aBm]
  lia
theorem FN {xs:List D}{J:List G.V}(a:J≠[]):∀n,W3 J (lp n (iE xs J) (kE xs J)) n
 |0=>⟨λX b=>AV.mpr b,⟨[],aAj _,λY c=>.inl (AV.mp c)⟩,by have:=BN (xs:=xs) (J:=J);show(kE xs J).length<=_;lia⟩
 |n+1=>XJ a (FN a n)
def YE {J o:List G.V}{n:Nat}(h:W3 J o n)(c:∀P∈J,Sz 800 P)(e:G.j3 J)(s:J.length+n<=14):Hu o:=by
 obtain⟨f,⟨p,t,d⟩,u⟩:=h;have g:∀{x y:Int},bits x<=800->bits y<=800->bits ((x+y).fdiv 2)<=900:=λf d=>m9 (bits_fdiv<|bits_add f d) (by decide);refine⟨⟨λY q=>?_,by lia⟩,S5 e f,?_⟩
 .rcases d Y q with z|⟨_,a,k,b,l,rfl⟩
  .exact(c Y z).mono
  .exact⟨g (c a k).1 (c b l).1,g (c a k).2.1 (c b l).2.1,g (c a k).2.2 (c b l).2.2⟩
 .have:=G.G0 (X8 o) (m:=J++p) λv r=>by
   rcases d v (j4.mp r)with z|⟨z,_⟩
   .exact aBf _ z
   .exact aAC _ z
  rw[aAx]at this
  lia
def Dbl (J:List G.V):Prop:=∀a∈J,∀b∈J,(2:Int)*yJ a b=a+b
def TU (l:List G.V):Dbl (l.map (G.yI 2)):=λa c b d=>by
 obtain⟨A,_,rfl⟩:=aAp.mp c;obtain⟨B,_,rfl⟩:=aAp.mp d;have e:∀x y:Int,(2*x+2*y).fdiv 2=x+y:=λx y=>by rw[show 2*x+2*y=(x+y)*2 by lia,Int.mul_fdiv_cancel _ (by decide)]
 apply G.ext<;>simp[yJ,G.yI,e]<;>lia
def GC {J o:List G.V}{n:Nat}(h:W3 J o n)(f:Hu J)(g:Hu o)(d:Dbl J):l9 o=l9 J:=JZ f g h.1 λY k=>by
 obtain⟨m,_,l⟩:=h.2.1;rcases l Y k with z|⟨_,a,c,b,e,rfl⟩
 .exact .inl z
 .exact .inr ⟨a,c,b,e,d a c b e⟩
def IQ (xs:List D):Int:=((cJ xs 2).fdiv 11).fmod 5
def CA (C:List G.V):G.V:=yJ (C.getD 0 0) (C.getD (C.length-1) 0)
def XI (xs:List D) (J C:List G.V):List G.V:=if IQ xs=0 then C.reverse else if IQ xs=1 then C.take 1++C else if IQ xs=2 then c8 (C++[CA C])else if IQ xs=3 then J else C.tail
open Classical in
def vq (xs:List D) (J C:List G.V):Bool:=if IQ xs=0 then false else if IQ xs=1 then false else if IQ xs=2 then false else if IQ xs=3 then decide (J=C)else decide (G.j3 C.tail)
def ZO (C:List G.V):Prop:=C≠[]/\C.length<=40/\(C++[CA C]).Nodup/\Q8 900 C.tail/\(c8 C.tail).length<=14
def lZ:List D->R D:=GY λa=>uk λJ=>uk λC=>kX (uz (G7 1048576 a/\ZO C)<|.lst [.lst ((XI a J C).map vd),.bl (vq a J C)])
def FA {xs:List D}{J C:List G.V}(a:G7 1048576 xs)(h:ZO C):lZ [.lst xs,.lst (J.map vd),.lst (C.map vd)]=.ok (.lst [.lst ((XI xs J C).map vd),.bl (vq xs J C)]):=(oQ _ J _).trans ((oQ _ C []).trans (wQ ⟨a,h⟩))
open Classical in
def jy {l:List G.V}(a:Q8 900 l)(b:(c8 l).length<=14):IC (.lst (YG l)) (.lst [])=.ok (.bl (decide (G.j3 l))):=by
 by_cases q:G.j3 l
 .have e:YG l=_:=i6 q;obtain⟨_,c,_⟩:=vH a q b;rw[e,decide_eq_true q];cases z:j5 (c8 l)with
  |nil=>exact absurd z c
  |cons f fs=>have d:=UR (f::fs);show(if _ then R.ok (D.bl (!x5 (.lst (bL f::fs.map bL)) (.lst [])))else _)=_;rw[i6 ⟨by rw[D8];lia,by decide⟩];rfl
 .have e:YG l=_:=ja q;rw[e,decide_eq_false q];rfl
open Classical in
def UP {xs:List D}{J C:List G.V}(c:Hu J)(hl:J.length<=13)(hs:∀P∈J,Sz 800 P)(d:Dbl J)(hC:l9 J=C):ZO C/\J6 [.lst ((XI xs J C).map vd)]=.ok (.bl (vq xs J C))/\J6 [.lst (C.map vd)]=.ok (.bl true)/\Hu C/\l9 C=C:=by
 obtain⟨p,U,r,b4,n,_⟩:=vS c.1 c.2.1 c.2.2;have bs:∀X∈l9 J,X∈J:=λX h=>pS c.1 c.2.1 c.2.2 h;have bm:=λX=>U3 c.1 c.2.1 c.2.2 X;have so:G.j3 (c8 J):=S5 c.2.1 λv hv=>j4.mpr hv;have s:(l9 J).Nodup:=X8 _;rw[hC]at p U r b4 n bs bm s;have t:Hu C:=⟨U,p,by rw[r];exact b4⟩;have l4:2<=C.length:=by
  obtain⟨A,hA,B,hB,E,hE,F,hF,e⟩:=p;match C,hA,hB with
  |[x],hA,hB=>rw[aAT.mp hA,aAT.mp hB]at e;exact absurd (by simp[G.i9,G.c9]) e
  |_::_::_,_,_=>simp
 have gi:∀{i:Nat},i<C.length->C.getD i 0∈C:=λh=>IJ h;have u:=gi (i:=0) (by lia);have H:=gi (i:=C.length-1) (by lia);have ne:C.getD 0 0≠C.getD (C.length-1) 0:=λz=>by
  rw[aAi,aAi,aAd (by lia),aAd (by lia)]at z;have:=(aFC s).mp z
  lia
 have e2:(2:Int)*CA C=C.getD 0 0+C.getD (C.length-1) 0:=d _ (bs _ u) _ (bs _ H);have md:CA C∉C:=λz=>by
  obtain⟨f,hf,hr⟩:=(bm _).mp z;have k:∀{P Q:G.V},P∈C->Q∈C->(2:Int)*CA C=P+Q->P=CA C:=λ{P Q} o hQ e=>G.fP so (l5 J) hf hr (j4.mpr<|bs P o) (j4.mpr<|bs Q hQ) (a:=1) (b:=1) (by decide) (by decide) (by have x:=jk G.V.x e;have y:=jk G.V.y e;have w:=jk G.V.z e;simp at x y w;apply G.ext<;>simp<;>lia)
  have q1:=k u H e2;have q2:=k H u (by rw[e2];apply G.ext<;>simp<;>lia)
  exact ne (q1.trans q2.symm)
 have ndm:(C++[CA C]).Nodup:=aCD.mpr ⟨s,by simp,λa ha b hb e=>by rw[aAT.mp hb]at e;exact md (e▸ha)⟩
 have cz:∀P∈C,Sz 800 P:=λP o=>hs P (bs P o);have g:∀X∈C.tail,X∈C:=λX hX=>List.mem_of_mem_tail hX;have I:Q8 900 C.tail:=⟨λP o=>U.1 P (g P o),by rw[aDL];lia⟩;have m:(c8 C.tail).length<=14:=aAr (jE _) (by rw[aDL];lia);have C0:C≠[]:=λz=>by rw[z]at l4;simp at l4
 have ord:C.Pairwise λa b=>G.f6 (b-a):=by have:=l5 C;rw[r]at this;exact this
 have ib:∀{W:List G.V},(∀v,v∈C↔v∈W)->W.length<=60->J6 [.lst (W.map vd)]=.ok (.bl (decide (C=W))):=λ{W} h hw=>by have l:=WO h t (by lia);exact cQ l.1 l.2.1 l.2.2 hw ((LQ λv=>(h v).symm).trans n)
 refine⟨⟨C0,by lia,ndm,I,m⟩,?_,?_,t,n⟩
 .unfold XI vq;by_cases L:IQ xs=0
  .rw[i6 L,i6 L,ib (λv=>aCh.symm) (by rw[aBV];lia)];rw[decide_eq_false λz=>?_];refine ne ?_;have h0:C.getD 0 0=C.reverse.getD 0 0:=by rw[<-z]
   rw[h0,aAi,aAi,List.getElem?_reverse (by lia)];rfl
  rw[ja L,ja L];by_cases N:IQ xs=1
  .rw[i6 N,i6 N,ib (λv=>⟨λh=>aAC _ h,λh=>(aAL.mp h).elim aDC id⟩) (by rw[aAx,aBd];lia)];rw[decide_eq_false λz=>?_];have:=jk aFt z;rw[aAx,aBd]at this
   lia
  rw[ja N,ja N];by_cases O:IQ xs=2
  .rw[i6 O,i6 O];have ch:W3 C (c8<|C++[CA C]) 1:=⟨λX hX=>j4.mpr (aBf _ hX),⟨[CA C],aAj _,λY hY=>by
    rcases aAL.mp (j4.mp hY)with h|h
    .exact .inl h
    .exact .inr ⟨h,_,u,_,H,aAT.mp h⟩⟩,by
     refine aAr (jE _) ?_;rw[aAx];simp⟩
   have l13:C.length<=13:=aAr (G.G0 s bs) hl;have l:=YE ch cz p (by lia);have eb:=(GC ch t l λa ha b hb=>d a (bs a ha) b (bs b hb)).trans n;rw[cQ l.1 l.2.1 l.2.2 (by have:=ch.2.2;lia) eb];rw[decide_eq_false λz=>?_];have w:CA C∈c8 (C++[CA C]):=j4.mpr (aAC _<|.head _);rw[<-z]at w;exact md w
  rw[ja O,ja O];by_cases T:IQ xs=3
  .rw[i6 T,i6 T,cQ c.1 c.2.1 c.2.2 (by lia) hC];congr 3;exact propext ⟨Eq.symm,Eq.symm⟩
  rw[ja T,ja T];by_cases q:G.j3 C.tail
  .have st:c8 C.tail=C.tail:=J4 (l5 _) (ord.sublist<|List.tail_sublist C) λv=>j4;have:=KM t n r g ⟨I,q,m⟩ st;rw[cQ I q m (by rw[aDL];lia) this,decide_eq_true rfl,decide_eq_true q]
  .simp only[J6,p6];rw[i6 (.inr ⟨I.mono,q⟩),decide_eq_false q]
 .rw[ib (λv=>Iff.rfl) (by lia),decide_eq_true rfl]
def LP (S:List G.V)(fs:List (G.V×Int)):D8 (.lst (fs.map (l8 S)))<=40:=by
 rw[D8];have:∀l:List (G.V×Int),C6 (l.map<|l8 S)<=9:=λl=>by
  induction l with
  |nil=>simp[C6]
  |cons a l b=>
   have e:=zQ (G.k8 S a);rw[aAu,C6];refine Nat.max_le.mpr ⟨?_,b⟩;simp[l8,D8,C6]
   lia
 have:=this fs
 lia
def jQ:List D->R D
 |[.lst a]=>open Classical in if a.length<=63/\G7 1048576 a then .ok (.bl true)else .bad
 |_=>.bad
end M
namespace K14
open PySem L2 DL M
def top (i:Nat):dm:=PySem.Challenge.pw_stakebodies_k14_the_same_body.main.body.getD i (.Pass ⟨0,0,0,0⟩)
abbrev aU:dm:=top 5
abbrev sS:List Str:=["P", "Q"]
def pV:FnScope sS ["P", "Q"] (c7 aU):=D9
abbrev iW:dm:=top 6
abbrev DC:List Str:=["u", "v"]
def BV:FnScope DC ["u", "v"] (c7 iW):=D9
abbrev cP:dm:=top 7
abbrev xI:List Str:=["u", "v"]
def tJ:FnScope xI ["u", "v"] (c7 cP):=D9
abbrev R8:dm:=top 8
abbrev lT:List Str:=["numbers", "divisor", "number", "rest", "further"]
def jS:FnScope lT ["numbers"] (c7 R8):=D9
abbrev V4:dm:=top 9
abbrev nN:List Str:=["P", "Q", "R", "cross", "divisor", "upright"]
def lG:FnScope nN ["P", "Q", "R"] (c7 V4):=D9
abbrev lN:dm:=top 10
abbrev KC:List Str:=["plane", "P", "height"]
def FB:FnScope KC ["plane", "P"] (c7 lN):=D9
abbrev T2:dm:=top 13
abbrev lX:List Str:=["ways", "way"]
def jY:FnScope lX ["ways"] (c7 T2):=D9
abbrev D5:dm:=top 14
abbrev O5:List Str:=["points", "ways", "along", "upright"]
def nR:FnScope O5 ["points"] (c7 D5):=D9
abbrev bH:dm:=top 15
abbrev rW:List Str:=["points"]
def qC:FnScope rW ["points"] (c7 bH):=D9
abbrev aN:dm:=top 16
abbrev nH:List Str:=["plane", "points"]
def vY:FnScope nH ["plane", "points"] (c7 aN):=D9
abbrev aQ:dm:=top 17
abbrev sN:List Str:=["pair", "points", "along", "upright", "outermost", "P", "way"]
def qN:FnScope sN ["pair", "points"] (c7 aQ):=D9
abbrev dE:dm:=top 18
abbrev wR:List Str:=["points", "least", "upward", "touched"]
def tH:FnScope wR ["points"] (c7 dE):=D9
abbrev mH:dm:=top 19
abbrev KY:List Str:=["upright", "P", "Q", "R"]
def DD:FnScope KY ["upright", "P", "Q", "R"] (c7 mH):=D9
abbrev eF:dm:=top 20
abbrev wS:List Str:=["upright", "points", "chain", "P"]
def tE:FnScope wS ["upright", "points"] (c7 eF):=D9
abbrev lE:dm:=top 21
abbrev JG:List Str:=["upright", "points", "there", "back"]
def CU:FnScope JG ["upright", "points"] (c7 lE):=D9
abbrev aY:dm:=top 22
abbrev sI:List Str:=["ring"]
def rS:FnScope sI ["ring"] (c7 aY):=D9
abbrev cR:dm:=top 23
abbrev xA:List Str:=["first", "about", "touched_by", "faces", "walked", "waiting", "pair", "plane", "ring", "step"]
def gO:FnScope xA ["first", "about", "touched_by"] (c7 cR):=D9
abbrev M4:dm:=top 24
abbrev iP:List Str:=["points", "spread", "about", "touched_by"]
def mW:FnScope iP ["points"] (c7 M4):=D9
abbrev dZ:dm:=top 25
abbrev wJ:List Str:=["faces", "corners", "plane", "ring"]
def sE:FnScope wJ ["faces"] (c7 dZ):=D9
abbrev mD:dm:=top 26
abbrev LA:List Str:=["points"]
def DJ:FnScope LA ["points"] (c7 mD):=D9
abbrev mL:dm:=top 27
abbrev JD:List Str:=["points"]
def CY:FnScope JD ["points"] (c7 mL):=D9
abbrev fG:dm:=top 29
abbrev BL:List Str:=["script", "k"]
def xH:FnScope BL ["script", "k"] (c7 fG):=D9
abbrev iT:dm:=top 30
abbrev GB:List Str:=["one", "other"]
def zP:FnScope GB ["one", "other"] (c7 iT):=D9
abbrev cI:dm:=top 31
abbrev wO:List Str:=["u", "v"]
def sD:FnScope wO ["u", "v"] (c7 cI):=D9
abbrev Z3:dm:=top 32
abbrev qK:List Str:=["u", "v"]
def oD:FnScope qK ["u", "v"] (c7 Z3):=D9
abbrev dG:dm:=top 33
abbrev yD:List Str:=["total", "way", "wide", "stir", "found", "k"]
def sK:FnScope yD ["total", "way"] (c7 dG):=D9
abbrev L9:dm:=top 34
abbrev aT:List Str:=["script", "most", "many", "totals", "k", "cell"]
def pJ:FnScope aT ["script", "most"] (c7 L9):=D9
abbrev Q5:dm:=top 35
abbrev dN:List Str:=["points", "ways", "u", "v", "crossed", "x", "y", "z"]
def sW:FnScope dN ["points"] (c7 Q5):=D9
abbrev T4:dm:=top 36
abbrev iD:List Str:=["cell", "slants", "far"]
def pQ:FnScope iD ["cell"] (c7 T4):=D9
abbrev Z8:dm:=top 37
abbrev pN:List Str:=["point", "slants", "x", "y", "z"]
def nP:FnScope pN ["point", "slants"] (c7 Z8):=D9
abbrev aK:dm:=top 38
abbrev mX:List Str:=["script", "most", "points", "cell"]
def wX:FnScope mX ["script", "most"] (c7 aK):=D9
abbrev W7:dm:=top 39
abbrev kM:List Str:=["crossed", "point", "one", "number", "other"]
def sQ:FnScope kM ["crossed", "point"] (c7 W7):=D9
abbrev L4:dm:=top 40
abbrev bF:List Str:=["points", "some", "found", "i", "j", "k", "crossed", "worths"]
def pR:FnScope bF ["points"] (c7 L4):=D9
abbrev mS:dm:=top 41
abbrev KD:List Str:=["plane", "point"]
def EZ:FnScope KD ["plane", "point"] (c7 mS):=D9
abbrev P4:dm:=top 42
abbrev fT:List Str:=["points", "planes"]
def oA:FnScope fT ["points", "planes"] (c7 P4):=D9
abbrev cZ:dm:=top 43
abbrev xJ:List Str:=["found", "due"]
def sG:FnScope xJ ["found", "due"] (c7 cZ):=D9
abbrev aR:dm:=top 44
abbrev sH:List Str:=["one", "two"]
def qV:FnScope sH ["one", "two"] (c7 aR):=D9
abbrev J2:dm:=top 45
abbrev Z9:List Str:=["script", "points", "key", "crossed", "other", "k", "one", "two", "at"]
def nV:FnScope Z9 ["script", "points"] (c7 J2):=D9
abbrev bA:dm:=top 46
abbrev sF:List Str:=["script", "points", "corners", "way", "fewer"]
def pA:FnScope sF ["script", "points", "corners"] (c7 bA):=D9
abbrev gT:dm:=top 47
abbrev ZD:List Str:=["script", "points", "corners", "other", "some", "due", "handed"]
def OE:FnScope ZD ["script"] (c7 gT):=D9
def eV:dm:=(u9 M4).getD 2 (.Pass ⟨0,0,0,0⟩)
abbrev GF:Str:= "faces_of.<locals>.about"
def L3:dm:=(u9 M4).getD 3 (.Pass ⟨0,0,0,0⟩)
abbrev kH:Str:= "faces_of.<locals>.touched_by"
def tbK:List (Pos×Str):=[(II eV,GF),(II L3,kH)]
section
variable [Tabs]
variable{P:be} {w:cq} {K:ka} {mg:fL} {base:cv}
def q8 (g:cF K mg "way_between" aU):u8 P w K mg base 1 "way_between" 2 o6:=by
 refine' m6 (k:=0) (F:=_) g pV (λf l m n=>?b) λe d o h=>?_
 case b=>refine' (d4<|j1<|DS (c5 x8 (PD.pb<|f9 (b8 1) d5)<|PD.pb<|f9 (b8 0) d5) (c5 x8 (PD.pb<|f9 (b8 1) d5)<|PD.pb<|f9 (b8 0) d5)<|c5 x8 (PD.pb<|f9 (b8 1) d5)<|PD.pb<|f9 (b8 0) d5)
 replace h:=C8 h;obtain⟨a,b,c,e,rfl,h⟩:=h;replace h:=C8 h;obtain⟨p,q,r,e,rfl,h⟩:=h;replace h:=A6 h;obtain⟨rfl,h⟩:=h;exact h
def E6 (g:cF K mg "cross_of" iW):u8 P w K mg base 1 "cross_of" 2 x9:=by
 refine' m6 (k:=0) (F:=_) g BV (λr s t u=>?b) λe d v h=>?_
 case b=>refine' (d4<|j1<|DS (c5 x8 (PD.pb<|c5 n4 (PD.pb<|f9 (b8 0) d5)<|PD.pb<|f9 (b8 1) d5)<|PD.pb<|c5 n4 (PD.pb<|f9 (b8 0) d5)<|PD.pb<|f9 (b8 1) d5) (c5 x8 (PD.pb<|c5 n4 (PD.pb<|f9 (b8 0) d5)<|PD.pb<|f9 (b8 1) d5)<|PD.pb<|c5 n4 (PD.pb<|f9 (b8 0) d5)<|PD.pb<|f9 (b8 1) d5)<|c5 x8 (PD.pb<|c5 n4 (PD.pb<|f9 (b8 0) d5)<|PD.pb<|f9 (b8 1) d5)<|PD.pb<|c5 n4 (PD.pb<|f9 (b8 0) d5)<|PD.pb<|f9 (b8 1) d5)
 replace h:=C8 h;obtain⟨a,b,c,e,rfl,h⟩:=h;replace h:=C8 h;obtain⟨x,y,z,e,rfl,h⟩:=h;replace h:=A6 h;obtain⟨rfl,h⟩:=h;split at h
 .rename_i q;obtain⟨⟨f,l,m⟩,n,o,p⟩:=q;rw[<-h];simp[j6,i8 (n6.of l p),i8 (n6.of m o),i8 (n6.of m n),i8 (n6.of f p),i8 (n6.of f o),i8 (n6.of l n)]
 .cases h
def A5 (g:cF K mg "product_of" cP):u8 P w K mg base 1 "product_of" 2 j9:=by
 refine' m6 (k:=0) (F:=_) g tJ (λr s u v=>?b) λe d x h=>?_
 case b=>refine' (d4<|j1<|c5 l7 (PD.pb<|c5 l7 (PD.pb<|c5 n4 (PD.pb<|f9 (b8 0) d5)<|PD.pb<|f9 (b8 1) d5)<|PD.pb<|c5 n4 (PD.pb<|f9 (b8 0) d5)<|PD.pb<|f9 (b8 1) d5)<|PD.pb<|c5 n4 (PD.pb<|f9 (b8 0) d5)<|PD.pb<|f9 (b8 1) d5)
 replace h:=XX h;obtain⟨a,b,c,t,e,rfl,h⟩:=h;replace h:=C8 h;obtain⟨y,z,A,e,rfl,h⟩:=h;replace h:=A6 h;obtain⟨rfl,h⟩:=h;split at h
 .rename_i f;obtain⟨⟨l,m,n⟩,o,p,q⟩:=f;rw[<-h];simp[j6,SF,RZ,ME,i8 (n6.of l o),i8 (n6.of m p),i8 (n6.of n q)]
 .cases h
def R5 (L:mg "abs"=none)(g:cF K mg "common_divisor" R8):u8 P w K mg base 1 "common_divisor" 1 K1:=by
 refine' m6 (k:=0) (F:=_) g jS (λN A O l=>?b) λy d Q h=>?_
 case b=>
  refine' (b9 (j2 1 d5 l)
   (b9 (F1 aAR rfl (oK<|c6 0) (k5 2 l) (b9 (j2 3 (CC OU<|b8 2) l)
   (d4 (gG (XR 3) aAR (k9 (kW A) (b8 3) w6) (b9 (j2 4 (c5 v5 (b8 1)<|b8 3) l)
   (b9 (j2 1 (c6 3) l)
   (d4<|j2 3 (c6 4) l)))))))
   (d4<|j1<|c6 1)))
 replace h:=C8 h;obtain⟨a,b,c,y,rfl,h⟩:=h;replace h:=A6 h;obtain⟨rfl,h⟩:=h;rw[<-h];simp only[j6,aAu,aDS,aBb,aCX];simp only[D7,F3,R.aa0,uI,B7,aAt,aBm,aEA,aEB,aDd,aDe,aAI,aAJ];refine fQ (λrest ρ=>∃(g:Nat) (n r f:Sl),ρ=[.v (.tup [.int a,.int b,.int c]),.v (.int g),n,r,f]/\∃e:List Int,rest=e.map D.int/\e.foldl (λg n=>aGi g n.natAbs) g=G.t7 ⟨a,b,c⟩) ?_ ⟨0,_,_,_,rfl,[a,b,c],rfl,by simp[G.t7]⟩ ?_
 .rintro d y ρ ⟨g,n,r,f,rfl,e,s,o⟩;match e,s,o with
  |x::e,s,o=>
   injection s with B C;subst B C;simp only[R1,aAI,aAJ,p8,v8,D2,G9,R.aa0,NG,B7];have E:(if x<0 then-x else x)=(x.natAbs:Int):=by split<;>lia
   rw[E];refine qI (λm ρ=>∃(p q:Nat) (f:Sl),ρ=[.v (.tup [.int a,.int b,.int c]),.v (.int p),.v (.int x),.v (.int q),f]/\q<m/\aGi p q=aGi g x.natAbs) ?_ (by rintro ρ ⟨p,q,f,_,h,_⟩;lia) ⟨g,x.natAbs,f,rfl,by show x.natAbs<((x.natAbs:Int).natAbs)+2;lia,rfl⟩ ?_
   .rintro m ρ ⟨p,q,f,rfl,H,u⟩;by_cases t:(q:Int)=0
    .exact .inl (by simp[t])
    .have I:q≠0:=by lia
     refine .inr ⟨by simp[I],_,?_,q,p%q,Sl.v (.int ((p%q:Nat):Int)),rfl,?_,?_⟩
     .have em:O9 (.int (p:Int)) (.int (q:Int))=.ok (.int ((p%q:Nat):Int)):=by rw[pK t,aDB _ (by lia)];rfl
      simp[em]
     .have:=aDP p (show 0<q by lia)
      lia
     .rw[aFS,<-Nat.gcd_rec,aFS];exact u
   .rintro m ρ ⟨p,q,f,rfl,H,u⟩ J;have t:q=0:=by
     by_cases z:q=0
     .exact z
     .simp[z]at J
    subst t;refine⟨p,_,_,_,rfl,e,rfl,?_⟩;rw[<-o,aDs,<-u,Nat.gcd_zero_right]
 .rintro ρ ⟨g,n,r,f,rfl,e,s,o⟩;have:e=[]:=by simpa using s.symm
  subst this;simp at o;simp[o]
def V5 (E6:u8 P w K mg base 1 "cross_of" 2 x9)(q8:u8 P w K mg base 1 "way_between" 2 o6)(R5:u8 P w K mg base 1 "common_divisor" 1 K1)(A5:u8 P w K mg base 1 "product_of" 2 j9)(g:cF K mg "plane_through" V4):u8 P w K mg base 2 "plane_through" 3 V8:=by
 refine' m6 (k:=1) (F:=_) g lG (λm hu cg A=>?b) λB d hl h=>?_
 case b=>
  refine' (b9 (j2 3 (R6 E6 m (R6 q8 m (c6 0)<|c6 1)<|R6 q8 m (c6 0)<|c6 2) A)
   (b9 (j2 4 (sZ R5 m<|c6 3) A)
   (b9 (y6 (k9 (K9 hu) (b8 4) w6) (d4 lH) o5)
   (b9 (j2 5 (DS (c5 u4 (PD.pb<|f9 (b8 3) d5)<|b8 4) (c5 u4 (PD.pb<|f9 (b8 3) d5)<|b8 4)<|c5 u4 (PD.pb<|f9 (b8 3) d5)<|b8 4) A)
   (d4<|j1<|xO<|f8 (f9 (b8 5) d5)<|f8 (f9 (b8 5) d5)<|f8 (f9 (b8 5) d5)<|f8 (R6 A5 m (c6 5)<|c6 0) o7)))))
 replace h:=C8 h;obtain⟨a,b,c,B,rfl,h⟩:=h;replace h:=C8 h;obtain⟨d,e,f,B,rfl,h⟩:=h;replace h:=C8 h;obtain⟨g,L,i,B,rfl,h⟩:=h;replace h:=A6 h;obtain⟨rfl,h⟩:=h
 .skip
  split at h
  .rename_i hz;obtain⟨⟨p,q,r⟩,o⟩:=hz;rw[<-h];obtain⟨P,E⟩:∃P:G.V,P=⟨a,b,c⟩:=⟨_,rfl⟩;obtain⟨Q,H⟩:∃P:G.V,P=⟨d,e,f⟩:=⟨_,rfl⟩;obtain⟨l,I⟩:∃P:G.V,P=⟨g,L,i⟩:=⟨_,rfl⟩;rw[<-E]at p o;rw[<-H]at q o;rw[<-I]at r o;have vP:(.tup [.int a,.int b,.int c]:D)=vd P:=by rw[E]
   have vQ:(.tup [.int d,.int e,.int f]:D)=vd Q:=by rw[H]
   have vR:(.tup [.int g,.int L,.int i]:D)=vd l:=by rw[I]
   rw[vP,vQ,vR,<-E,<-H,<-I];have s:=(q.sub p).cr (r.sub p);have c1:=bU (u:=Q-P) (v:=l-P) (q.sub p).mono (r.sub p).mono;obtain⟨N,g1,g2⟩:=G.gI o;have n:((G.t7 (G.cr (Q-P)<|l-P):Nat):Int)≠0:=by lia
   have gb:uA ((G.t7 (G.cr (Q-P)<|l-P):Nat):Int):=⟨n,y3 (tO s)⟩;have dv:=ET (G.cr (Q-P)<|l-P);have pl:G.d6 P Q l=(G.eN (G.cr (Q-P)<|l-P) (G.t7<|G.cr (Q-P)<|l-P),G.c9 (G.eN (G.cr (Q-P)<|l-P)<|G.t7<|G.cr (Q-P)<|l-P) P):=rfl;rw[pl];generalize hC:G.cr (Q-P) (l-P)=C at*
   have sn:Sz 2003 (G.eN C<|G.t7 C):=by have O:=bits_fdiv (b:=(G.t7 C:Int)) s.1;have T:=bits_fdiv (b:=(G.t7 C:Int)) s.2.1;have U:=bits_fdiv (b:=(G.t7 C:Int)) s.2.2;rw[fO N]at O T U;exact⟨O,T,U⟩
   have d1:∀t:Int,L0 (.int t) (.int (G.t7 C:Nat))=.ok (.int (t/(G.t7 C:Nat))):=λt=>by rw[Y6 gb,fO N]
   have Y:=dM (u:=G.eN C (G.t7 C)) (v:=P) sn.mono p.mono;have e0:(((G.t7 C:Nat):Int)==0)=false:=by simpa using n
   simp only[G.eN]at Y;have J:j9 [.tup [.int (C.x/(G.t7 C:Nat)),.int (C.y/(G.t7 C:Nat)),.int (C.z/(G.t7 C:Nat))],vd P]=_:=Y;simp[j6,c1,dv,e0,d1,J,G.eN]
  .cases h
def lP (g:cF K mg "side_of" lN):u8 P w K mg base 1 "side_of" 2 cC:=by
 refine' m6 (k:=0) (F:=_) g FB (λB C E v=>?b) λs d H h=>?_
 case b=>
  refine' (b9 (j2 2 (c5 x8 (PD.pb<|c5 l7 (PD.pb<|c5 l7 (PD.pb<|c5 n4 (PD.pb<|f9 (b8 0) d5)<|PD.pb<|f9 (b8 1) d5)<|PD.pb<|c5 n4 (PD.pb<|f9 (b8 0) d5)<|PD.pb<|f9 (b8 1) d5)<|PD.pb<|c5 n4 (PD.pb<|f9 (b8 0) d5)<|PD.pb<|f9 (b8 1) d5)<|PD.pb<|f9 (b8 0) d5) v)
   (b9 (y6 (k9 qX (b8 2) w6) (d4<|j1 d5) o5)
   (b9 (y6 (k9 zE (b8 2) w6) (d4<|j1<|iN d5) o5)
   (d4<|j1 d5))))
 replace h:=MC h;obtain⟨a,b,c,d,s,rfl,h⟩:=h;replace h:=C8 h;obtain⟨x,y,z,s,rfl,h⟩:=h;replace h:=A6 h;obtain⟨rfl,h⟩:=h
 .skip
  split at h
  .rename_i A;obtain⟨⟨e,f,l⟩,m,o,q⟩:=A;rw[<-h];obtain⟨t,u⟩:∃t,a*x+b*y+c*z-d=t:=⟨_,rfl⟩;have r:SA (.int (a*x+b*y+c*z)) (.int d)=.ok (.int t):=by rw[<-u];rfl
   rw[u];unfold sgn;by_cases p:0<t
   .simp[-wW,j6,i8 (n6.of e m),i8 (n6.of f o),i8 (n6.of l q),p,r]
   .by_cases n:t<0
    .simp[-wW,j6,i8 (n6.of e m),i8 (n6.of f o),i8 (n6.of l q),p,n,r]
    .simp[-wW,j6,i8 (n6.of e m),i8 (n6.of f o),i8 (n6.of l q),p,n,r]
  .cases h
def K6 (l:NP K mg "NO_WAY" [0,0,0])(g:cF K mg "first_real_way" T2):u8 P w K mg base 1 "first_real_way" 1 B4:=by
 refine' m6 (k:=0) (F:=_) g jY (λq m r n=>?b) λo d s h=>?_
 case b=>
  refine' (b9 (F1 aAR rfl (u5<|c6 0) (k5 1 n)<|d4<|y6 (k9 (kW m) (b8 1)<|PD.pb<|xF l) (d4<|j1<|c6 1) o5)
   (d4<|j1 EW))
 match o,h with
 |[.lst t],h=>
  simp only[B4]at h;split at h
  .rename_i e f;rw[p5 f];rw[<-h];simp[j6];generalize Sl.v (D.lst<|aCy vd e)=a;generalize Sl.no=b;clear h f;induction e generalizing b with
   |nil=>rfl
   |cons v e p=>
    rw[aAu,G.C1];by_cases c:v=0
    .rw[O7 (ρ2:=[a,.v (vd v)]) rfl (by simp[-mJ,ne0,c]),p];simp[c]
    .rw[kC (x:=vd v) rfl (by simp[-mJ,ne0,c])];simp[c,DZ]
  .cases h
def B6 (q8:u8 P w K mg base 1 "way_between" 2 o6)(K6:u8 P w K mg base 1 "first_real_way" 1 B4)(E6:u8 P w K mg base 1 "cross_of" 2 x9)(A5:u8 P w K mg base 1 "product_of" 2 j9)(br:mg "len"=none)(L:mg "any"=none)(g:cF K mg "dimension_of" D5):u8 P w K mg base 2 "dimension_of" 1 v7:=by
 refine' m6 (k:=1) (F:=_) g nR (λz hu cg O=>?b) λo d hl h=>?_
 case b=>
  refine' (b9 (y6 (k9 (K9 hu) (PD.pb<|CC Q9<|b8 0) w6) (d4 lH) o5)
   (b9 (bP 1 ["P"] ["points"] [0] O rfl (G5 (sc:=c7 D5) (N:=O5)) (u5<|c6 0) (LW λ_ _ _ _ _=>(R6 q8 z (f9 (b8 1) d5)<|c6 0))<|λ_=>t6)
   (b9 (j2 2 (sZ K6 z<|c6 1) O)
   (b9 (y6 (k9 NE (b8 2)<|PD.pb EW) (d4<|j1 d5) o5)
   (b9 (j2 3 (sZ K6 z<|N7 ["way"] ["along"] [2] rfl (G5 (sc:=c7 D5) (N:=O5)) (u5<|c6 1) (LW λ_ _ _ _ _=>(R6 E6 z (c6 1)<|c6 0))<|λ_=>t6) O)
   (b9 (y6 (k9 NE (b8 3)<|PD.pb EW) (d4<|j1 d5) o5)
   (b9 (y6 (GG<|CC (ZL rfl)<|PD.pb<|N7 ["way"] ["upright"] [3] rfl (G5 (sc:=c7 D5) (N:=O5)) (u5<|c6 1) (LW λ_ _ _ _ _=>(jB (kW hu) (PD.pb<|R6 A5 z (c6 1)<|c6 0) w6))<|λ_=>t6) (d4<|j1 d5) o5)
   (d4<|j1 d5))))))))
 match o,h with
 |[.lst xs],h=>
  simp only[v7]at h;split at h
  .rename_i J l;rw[p5 l];split at h
   .rename_i hz;rw[<-h];obtain⟨af,E⟩:=hz;match J,af with
    |p::r,_=>
    obtain⟨a,c⟩:∃a,(p::r).map vd=a:=⟨_,rfl⟩;have i0:V1 (.lst a) (.int 0)=.ok (vd p):=N0 (by rw[Z7 (by decide),<-c];rfl);have H:w5 (λd ρ=>R.ok (aCz ρ 0<|Sl.v d)) (λx=>R.ok true) (λρ=>(((tM 1 ρ).bind λx=>V1 x (D.int 0)).bind λd=>((V7 0 ρ).bind λd=>R.ok [d]).bind λo=>R.ok (d::o)).bind o6) [.no,.v (.lst a)] a=.ok (((p::r).map (· -p)).map vd):=by rw[aBw];rw[show w5 _ _ _ _ a=w5 _ _ _ _ ((p::r).map vd)by rw[c]];refine J8 vd _ _ λq m=>⟨[.v (vd q),Sl.v (.lst a)],rfl,?_⟩;show((V1 (.lst a)<|.int 0).bind _).bind _=_;rw[i0];rfl
    have l:∀w∈(p::r).map (· -p),Sz 1001 w:=λw l=>by obtain⟨q,m,rfl⟩:=aAp.mp l;exact(E.1 q m).sub (E.1 p (.head _))
    have I:(((p::r).map (· -p)).map vd).length<=sizeLine:=by rw[aAf,aAf];exact small E.2
    have M9:a.length<=sizeLine:=by rw[<-c,aAf];exact small E.2
    have e:((a.length:Int)==0)=false:=by rw[<-c];simp;lia
    have t:=FI ((p::r).map (· -p));unfold G.M7;dsimp only;rw[c];generalize(p::r).map (· -p)=W at*
    have n:=λu=>FI (W.map<|G.cr u);cases Q:G.C1 W with
    |none=>rw[Q]at t;simp[j6,i7,M9,e,H,t,DZ,MG]
    |some s=>
     rw[Q]at t;obtain⟨hm,_⟩:=G.v9 Q;have A:=l s hm;have B:w5 (λd ρ=>R.ok (aCz ρ 0<|Sl.v d)) (λx=>R.ok true) (λρ=>((V7 1 ρ).bind λd=>((V7 0 ρ).bind λd=>R.ok [d]).bind λo=>R.ok (d::o)).bind x9) [.no,.v (vd s)] (W.map vd)=.ok ((W.map<|G.cr s).map vd):=by rw[aBw];refine J8 vd _ _ λq m=>⟨[.v (vd q),Sl.v (vd s)],rfl,?_⟩;show x9 [vd s,vd q]=_;exact bU A.mono (l q m).mono
     have n:=FI (W.map<|G.cr s);have eW:(W.map vd).length=W.length:=aAf ..;rw[eW]at I;cases C:G.C1 (W.map<|G.cr s)with
     |none=>rw[C]at n;simp only[aBw]at B n;simp only[C];simp[j6,i7,M9,e,H,t,DZ,MG,I,B,n]
     |some f=>
      rw[C]at n;obtain⟨ku,_⟩:=G.v9 C;have T:Sz 2003 f:=by obtain⟨q,m,rfl⟩:=aAp.mp ku;exact(A.cr<|l q m).mono
      have U:w5 (λd ρ=>R.ok (aCz ρ 0<|Sl.v d)) (λx=>R.ok true) (λρ=>(((V7 1 ρ).bind λd=>((V7 0 ρ).bind λd=>R.ok [d]).bind λo=>R.ok (d::o)).bind j9).bind λx=>IC x (D.int 0)) [.no,.v (vd f)] (W.map vd)=.ok ((W.map λw=>decide (G.c9 f w≠0)).map D.bl):=by rw[aBw];refine J8 vd _ _ λq m=>⟨[.v (vd q),Sl.v (vd f)],rfl,?_⟩;show(j9 [vd f,vd q]).bind _=_;rw[dM T.mono (l q m).mono,R.aa0,OB];congr 2;rw[aCV];simp
      have y:=ZW (W.map λw=>decide (G.c9 f w≠0));have Y:(W.map λw=>decide (G.c9 f w≠0)).any id=W.any λw=>decide (G.c9 f w≠0):=by rw[List.any_map];rfl
      rw[Y]at y;simp only[aBw]at B n U y;simp only[C];generalize(λw=>decide (G.c9 f w≠0))=Bf at*
      cases hc:W.any Bf with
      |false=>rw[hc]at y;simp[j6,i7,M9,e,H,t,DZ,MG,I,B,n,U,y]
      |true=>rw[hc]at y;simp[j6,i7,M9,e,H,t,DZ,MG,I,B,n,U,y]
   .cases h
  .cases h
def aX (B6:u8 P w K mg base 2 "dimension_of" 1 v7)(g:cF K mg "refuse_flat" bH):u8 P w K mg base 3 "refuse_flat" 1 G1:=by
 refine' m6 (k:=2) (F:=_) g qC (λc p q r=>?b) λf d s h=>?_
 case b=>refine' (d4<|y6 (k9 zE (PD.pb<|sZ B6 c<|c6 0) w6) (d4 lH) o5)
 match f,h with
 |[.lst t],h=>
  simp only[G1]at h;split at h
  .rename_i J l;rw[p5 l];split at h
   .rename_i m;rw[<-h];obtain⟨n,a⟩:=m;have o:J≠[]:=λe=>by subst e;cases a
    have e:=OH o n;rw[a]at e;simp[j6,e]
   .cases h
  .cases h
def J0 (lP:u8 P w K mg base 1 "side_of" 2 cC)(g:cF K mg "points_on" aN):u8 P w K mg base 2 "points_on" 2 B1:=by
 refine' m6 (k:=1) (F:=_) g vY (λm n q r=>?b) λf d s h=>?_
 case b=>refine' (d4<|j1<|N7 ["P"] ["plane"] [0] rfl (G5 (sc:=c7 aN) (N:=nH)) (u5<|c6 1) (hxt λ_ _ _ _ _=>⟨(k9 (K9 n) (PD.pb<|R6 lP m (c6 1)<|c6 0) w6),(c6 0)⟩)<|λ_=>t6)
 replace h:=MC h;obtain⟨a,b,c,d,f,rfl,h⟩:=h;replace h:=jJ h;obtain⟨t,f,rfl,h⟩:=h;replace h:=A6 h;obtain⟨rfl,h⟩:=h
 .skip
  split at h
  .rename_i J o;rw[p5 o];split at h
   .rename_i l;rw[<-h];have e:=K5 vd (G:=λd ρ=>R.ok (aCz ρ 0<|Sl.v d)) (ft:=λρ=>((((V7 1 ρ).bind λd=>((V7 0 ρ).bind λd=>R.ok [d]).bind λf=>R.ok (d::f)).bind cC).bind λx=>GO x (D.int 0)).bind jT) (fe:=V7 0) (ρ:=[.no,.v (.tup [D.int a,D.int b,D.int c,D.int d])])
     (λX=>decide (G.c9 ⟨a,b,c⟩ X=d)) vd J λP p=>⟨[.v (vd P),Sl.v (D.tup [D.int a,D.int b,D.int c,D.int d])],rfl,by simp[TV l.1.mono (l.2.1 P p).mono,a2n,G.c9];exact decide_eq_decide.mpr (by lia),λ_=>rfl⟩
    simp[j6,i7,small l.2.2,e];rfl
   .cases h
  .cases h
def L7 (q8:u8 P w K mg base 1 "way_between" 2 o6)(A5:u8 P w K mg base 1 "product_of" 2 j9)(E6:u8 P w K mg base 1 "cross_of" 2 x9)(V5:u8 P w K mg base 2 "plane_through" 3 V8)(Y:NP K mg "NO_WAY" [0,0,0])(g:cF K mg "plane_about" aQ):u8 P w K mg base 3 "plane_about" 2 G3:=by
 refine' m6 (k:=2) (F:=_) g qN (λs hu cg q=>?b) λN d hl h=>?_
 case b=>
  refine' (b9 (j2 2 (R6 q8 s (f9 (b8 0) d5)<|f9 (b8 0) d5) q)
   (b9 (j2 3 (xF Y) q)
   (b9 (j2 4 (f9 (b8 0) d5) q)
   (b9 (F1 aAR rfl (u5<|c6 1) (k5 5 q) (b9 (j2 6 (R6 q8 s (f9 (b8 0) d5)<|c6 5) q)
   (d4 (y6 (EM.pt<|DG (k9 (K9 hu) (b8 3)<|PD.pb<|xF Y)<|wB<|k9 qX (PD.pb<|R6 A5 s (c6 3)<|c6 6) w6) (b9 (j2 3 (R6 E6 s (c6 2)<|c6 6) q)
   (d4<|j2 4 (c6 5) q)) o5))))
   (d4<|j1<|pc3 V5 s (f9 (b8 0) d5) (f9 (b8 0) d5)<|c6 4)))))
 replace h:=xN h;obtain⟨ys,N,rfl,h⟩:=h;replace h:=jJ h;obtain⟨xs,N,rfl,h⟩:=h;replace h:=A6 h;obtain⟨rfl,h⟩:=h;replace h:=C8 h;obtain⟨a,b,c,ys,rfl,h⟩:=h;replace h:=C8 h;obtain⟨d,e,f,ys,rfl,h⟩:=h;replace h:=A6 h;obtain⟨rfl,h⟩:=h
 .skip
  split at h
  .rename_i J hw;rw[p5 hw];split at h
   .rename_i hz;rw[<-h];obtain⟨r,H,hs,O⟩:=hz;have vA:(.tup [.int a,.int b,.int c]:D)=vd ⟨a,b,c⟩:=rfl;have vB:(.tup [.int d,.int e,.int f]:D)=vd ⟨d,e,f⟩:=rfl;rw[vA,vB];generalize(⟨a,b,c⟩:G.V)=A at*
    generalize(⟨d,e,f⟩:G.V)=B at*
    simp[j6];have z0:(.tup [.int 0,.int 0,.int 0]:D)=vd 0:=rfl;rw[z0];refine fQ (λrest ρ=>∃(m l:G.V) (n:List G.V) (x y:Sl),ρ=[.v (.tup [vd A,vd B]),.v (.lst (aCy vd J)),.v (vd<|B-A),.v (vd m),.v (vd l),x,y]/\rest=n.map vd/\Sz 2003 m/\Sz 1000 l/\(∀X∈n,Sz 1000 X)/\G.I0 (B-A) A n m l=G.I0 (B-A) A J 0 A) ?_ ⟨0,A,J,_,_,rfl,rfl,⟨by decide,by decide,by decide⟩,r,hs.1,rfl⟩ ?_
    .rintro d N ρ ⟨m,l,n,x,y,rfl,t,Q,T,C,o⟩;match n,t with
     |P::n,t=>
      injection t with e3 e4;subst e3 e4;have U:=C P (.head _);have I:=U.sub r;have e0:=eq0 m;rw[show(.tup [.int 0,.int 0,.int 0]:D)=vd 0 from rfl]at e0;have c1:=bU (u:=B-A) (v:=P-A) (H.sub r).mono I.mono;have p1:=dM (u:=m) (v:=P-A) Q.mono I.mono;have w1:=RA A P;have i0:V1 (.tup [vd A,vd B]) (.int 0)=.ok (vd A):=rfl
      conv at o=>lhs;unfold G.I0
      simp only[R1,aAI,aAJ,D2,G9,Q7,D7,R.aa0,i0,w1,B7,e0,IU,p1,xY];by_cases L:m=0
      .rw[i6 (.inl L)]at o;refine⟨_,?_,G.cr (B-A) (P-A),P,n,.v (vd P),.v (vd<|P-A),rfl,rfl,(((H.sub r).cr I).mono),U,λX E=>C X (.tail _ E),o⟩;rw[decide_eq_true L];simp only[if_true,R.aa0,c1,B7,aAI,aAJ,Q7,D7]
      .rw[decide_eq_false L];by_cases p:0<G.c9 m (P-A)
       .rw[i6 (.inr p)]at o;refine⟨_,?_,G.cr (B-A) (P-A),P,n,.v (vd P),.v (vd<|P-A),rfl,rfl,(((H.sub r).cr I).mono),U,λX E=>C X (.tail _ E),o⟩;rw[decide_eq_true p];simp only[if_true,aAs,if_false,R.aa0,c1,B7,aAI,aAJ,Q7,D7]
       .rw[ja (λz=>z.elim L p)]at o;refine⟨_,?_,m,l,n,.v (vd P),.v (vd<|P-A),rfl,rfl,Q,T,λX E=>C X (.tail _ E),o⟩;rw[decide_eq_false p];simp only[aAs,if_false,R.aa0]
    .rintro ρ ⟨m,l,n,x,y,rfl,t,Q,T,C,o⟩;have:n=[]:=by simpa using t.symm
     subst this;have o:(m,l)=G.I0 (B-A) A J 0 A:=o;have eo:(G.I0 (B-A) A J 0 A).2=l:=by rw[<-o]
     unfold G.b7 at O⊢;rw[eo]at O⊢;have pl:=MD ⟨r,H,T⟩ (WX O);simp[pl]
   .cases h
  .cases h
def cT (J0:u8 P w K mg base 2 "points_on" 2 B1)(L7:u8 P w K mg base 3 "plane_about" 2 G3)(B6:u8 P w K mg base 2 "dimension_of" 1 v7)(ud:mg "min"=none)(g:cF K mg "first_pair" dE):u8 P w K mg base 8 "first_pair" 1 K8:=by
 refine' m6 (k:=7) (F:=_) g tH (λe z cg o=>?b) λA d hl h=>?_
 case b=>
  have B:=e.ac6 (by decide);refine' (b9 (j2 1 (bN (XC rfl B)<|o9 (b8 0) w8) o)
   (b9 (j2 2 (HH (c6 1)<|DS (f9 (b8 1) d5) (f9 (b8 1) d5)<|c5 l7 (PD.pb<|f9 (b8 1) d5) w6) o)
   (b9 (j2 3 (R6 J0 e (R6 L7 e (c6 2)<|c6 0)<|c6 0) o)
   (b9 (y6 (k9 (K9 z) (PD.pb<|sZ B6 e<|c6 3) w6) (d4<|j1<|c6 2) o5)
   (d4<|j1<|HH (f9 (b8 3) d5)<|f9 (b8 3) d5)))))
 match A,h with
 |[.lst xs],h=>
  simp only[K8]at h;split at h
  .rename_i m J C;rw[p5 C];split at h
   .rename_i a;rw[<-h];have u:=kw a.good.ord;have f:Q8 1000 (m::J):=a.sz.mono;have l:Sz 900 m:=a.sz.1 m (.head _);obtain⟨E,H,I,N,O⟩:=G.zD a.good.solid a.good.mem a.good.least;have p:=P1 l.mono (QD l) f E;have q:=yQ l.mono (QD l) f;rw[a0i]at p;have v:=kF (d:=(G.b7 m (m+G.kk) (m::J)).2) q.mono f;obtain⟨x,y,r,c⟩:=MF H N O;have Q:=OG (n:=(G.b7 m (m+G.kk) (m::J)).1) (d:=(G.b7 m (m+G.kk) (m::J)).2) f;have s:=OH (J:=G.w9 (G.b7 m (m+G.kk) (m::J)).1 (G.b7 m (m+G.kk) (m::J)).2 (m::J)) (by rw[c];simp) Q;have T:V1 (.lst ((G.w9 (G.b7 m (m+G.kk) (m::J)).1 (G.b7 m (m+G.kk) (m::J)).2 (m::J)).map vd)) (.int 0)=.ok (vd x):=N0 (by rw[c];exact a0y _ _);have U:V1 (.lst ((G.w9 (G.b7 m (m+G.kk) (m::J)).1 (G.b7 m (m+G.kk) (m::J)).2 (m::J)).map vd)) (.int 1)=.ok (vd y):=N0 (by rw[c];exact a0t _ _ _);unfold G.e9;dsimp only;by_cases t:G.M7 (G.w9 (G.b7 m (m+G.kk) (m::J)).1 (G.b7 m (m+G.kk) (m::J)).2 (m::J))=2
    .rw[i6 t];rw[t]at s;generalize(m::J).map vd=L at*
     generalize(G.w9 (G.b7 m (m+G.kk) (m::J)).1 (G.b7 m (m+G.kk) (m::J)).2 (m::J)).map vd=L2 at*
     generalize(G.b7 m (m+G.kk) (m::J)).1=Y at*
     generalize(G.b7 m (m+G.kk) (m::J)).2=pm at*
     simp[j6,u,p,v,s,G.kk]
    .rw[ja t];have e0:(G.w9 (G.b7 m (m+G.kk) (m::J)).1 (G.b7 m (m+G.kk) (m::J)).2 (m::J)).getD 0 0=x:=by rw[c];rfl
     have e1:(G.w9 (G.b7 m (m+G.kk) (m::J)).1 (G.b7 m (m+G.kk) (m::J)).2 (m::J)).getD 1 0=y:=by rw[c];rfl
     rw[e0,e1];have hb:((G.M7 (G.w9 (G.b7 m (m+G.kk) (m::J)).1 (G.b7 m (m+G.kk) (m::J)).2 (m::J)):Int)==2)=false:=by rw[beq_eq_false_iff_ne];lia
     generalize(m::J).map vd=L at*
     generalize(G.w9 (G.b7 m (m+G.kk) (m::J)).1 (G.b7 m (m+G.kk) (m::J)).2 (m::J)).map vd=L2 at*
     generalize(G.M7 (G.w9 (G.b7 m (m+G.kk) (m::J)).1 (G.b7 m (m+G.kk) (m::J)).2 (m::J)):Int)=dd at*
     generalize(G.b7 m (m+G.kk) (m::J)).1=Y at*
     generalize(G.b7 m (m+G.kk) (m::J)).2=pm at*
     simp[j6,u,p,v,s,hb,T,U]
   .cases h
  .cases h
def lJ (A5:u8 P w K mg base 1 "product_of" 2 j9)(E6:u8 P w K mg base 1 "cross_of" 2 x9)(q8:u8 P w K mg base 1 "way_between" 2 o6)(g:cF K mg "turn_of" mH):u8 P w K mg base 2 "turn_of" 4 gH:=by
 refine' m6 (k:=1) (F:=_) g DD (λm A B C=>?b) λn d E h=>?_
 case b=>refine' (d4<|j1<|R6 A5 m (c6 0)<|R6 E6 m (R6 q8 m (c6 1)<|c6 2)<|R6 q8 m (c6 2)<|c6 3)
 replace h:=C8 h;obtain⟨a,b,c,n,rfl,h⟩:=h;replace h:=C8 h;obtain⟨d,e,f,n,rfl,h⟩:=h;replace h:=C8 h;obtain⟨g,o,i,n,rfl,h⟩:=h;replace h:=C8 h;obtain⟨j,k,l,n,rfl,h⟩:=h;replace h:=A6 h;obtain⟨rfl,h⟩:=h
 .skip
  split at h
  .rename_i y;obtain⟨p,q,r,s⟩:=y;rw[<-h];have t:=bU (u:=⟨g,o,i⟩-⟨d,e,f⟩) (v:=⟨j,k,l⟩-⟨g,o,i⟩) (r.sub q).mono (s.sub r).mono;have x:=dM (u:=⟨a,b,c⟩) (v:=G.cr (⟨g,o,i⟩-⟨d,e,f⟩) (⟨j,k,l⟩-⟨g,o,i⟩)) p.mono ((r.sub q).cr (s.sub r)).mono;simp only[vd,G.XS,G.YV,G.YY,G.TZ,G.US,G.UU]at t x;have z:∀a b c d e f:Int,o6 [.tup [.int a,.int b,.int c],.tup [.int d,.int e,.int f]]=.ok (.tup [.int (d-a),.int (e-b),.int (f-c)]):=λ_ _ _ _ _ _=>rfl;simp[j6,z,t,x,G.turn,G.i9]
  .cases h
def X0 (lJ:u8 P w K mg base 2 "turn_of" 4 gH)(br:mg "len"=none)(g:cF K mg "left_chain" eF):u8 P w K mg base 3 "left_chain" 2 X7:=by
 refine' m6 (k:=2) (F:=_) g tE (λhr hu cg Y=>?b) λp d N h=>?_
 case b=>
  refine' (b9 (kT 2 (qF o7) Y)
   (b9 (F1 aAR rfl (u5<|c6 1) (k5 3 Y) (b9 (gG (λ_=>1001) aAR (EM.pt<|oR (k9 qX (PD.pb<|CC Q9<|b8 2) w6)<|jU<|k9 a1k (PD.pb<|pc4 lJ hr (c6 0) (f9 (b8 2)<|iN d5) (f9 (b8 2)<|iN d5)<|c6 3) w6)<|d4<|UM 2)
   (d4<|cK 2<|c6 3)))
   (d4<|GT 2<|j1<|c6 2)))
 replace h:=C8 h;obtain⟨a,b,c,p,rfl,h⟩:=h;replace h:=jJ h;obtain⟨xs,p,rfl,h⟩:=h;replace h:=A6 h;obtain⟨rfl,h⟩:=h
 .skip
  split at h
  .rename_i J hw;rw[p5 hw];split at h
   .rename_i O;rw[<-h];obtain⟨sn,hs⟩:=O;have vn:(.tup [.int a,.int b,.int c]:D)=vd ⟨a,b,c⟩:=rfl;rw[vn];generalize(⟨a,b,c⟩:G.V)=n at*
    simp[j6];refine fQ (λrest ρ=>∃(c l:List G.V) (x:Sl),ρ=[.v (vd n),.v (.lst (aCy vd J)),.o (c.reverse.map vd),x]/\rest=l.map vd/\(∀X∈c,Sz 1000 X)/\(∀X∈l,Sz 1000 X)/\c.length+l.length<=1000/\l.foldl (λc P=>P::G.aI n P c) c=G.z7 n J) ?_ ⟨[],J,_,rfl,rfl,λX q=>by(cases q),hs.1,by simpa using hs.2,rfl⟩ ?_
    .rintro d p ρ ⟨c,l,x,rfl,y,sc,Q,N,A⟩;match l,y with
     |P::l,y=>
      injection y with e3 e4;subst e3 e4;have T:=Q P (.head _);simp only[aAt]at N;simp only[R1,aAI,aAJ];refine Exists.elim (qI (n:=1001) (ρ:=[.v (vd n),.v (.lst (aCy vd J)),.o (c.reverse.map vd),.v (vd P)]) (Post:=λρ=>∃e,ρ=[.v (vd n),.v (.lst (aCy vd J)),.o (e.reverse.map vd),.v (vd P)]/\(∀X∈e,Sz 1000 X)/\e.length<=c.length/\e=G.aI n P c)
       (c:=iz (λρ=>((((tM 2 ρ).bind λd=>R.ok [d]).bind RK).bind λx=>ZV x (D.int 1)).bind jT) λρ=>((((V7 0 ρ).bind λd=>(((tM 2 ρ).bind λx=>V1 x (D.int (-2))).bind λd=>(((tM 2 ρ).bind λx=>V1 x (D.int (-1))).bind λd=>((V7 3 ρ).bind λd=>R.ok [d]).bind λp=>R.ok (d::p)).bind λp=>R.ok (d::p)).bind λp=>R.ok (d::p)).bind gH).bind λx=>leR x (D.int 0)).bind jT) (F:=λρ=>(CZ 2 ρ).bind λz=>R.ok (Out.nx z.snd))
       (λm ρ=>∃e,ρ=[.v (vd n),.v (.lst (aCy vd J)),.o (e.reverse.map vd),.v (vd P)]/\(∀X∈e,Sz 1000 X)/\e.length<=c.length/\e.length<m/\G.aI n P e=G.aI n P c) ?_ (by rintro ρ ⟨e,_,_,_,h,_⟩;lia) ⟨c,rfl,sc,aAj _,by lia,rfl⟩ ?_) ?_
      .rintro m ρ ⟨e,rfl,sub,s,t,f⟩;match e,sub,s,t,f with
       |[],_,_,_,_=>exact .inl (by simp)
       |[a],_,_,_,_=>exact .inl (by simp)
       |b::a::r,sub,s,t,f=>
        have u:(b::a::r).reverse.map vd=r.reverse.map vd++[vd a,vd b]:=by simp
        have C:V1 (.lst ((b::a::r).reverse.map vd)) (.int (-1))=.ok (vd b):=N0 (by rw[u];exact XT _ _ _);have E:V1 (.lst ((b::a::r).reverse.map vd)) (.int (-2))=.ok (vd a):=N0 (by rw[u];exact XU _ _ _);have H:=HW sn (sub a<|.tail _ (.head _)) (sub b<|.head _) T;have I:(1:Int)<(aCy vd (b::a::r).reverse).length:=by rw[aAf,aBV];simp;lia
        by_cases U:G.turn n a b P<=0
        .refine .inr ⟨?_,[.v (vd n),.v (.lst (aCy vd J)),.o ((a::r).reverse.map vd),.v (vd P)],?_,a::r,rfl,λX q=>sub X (.tail _ q),?_,?_,?_⟩
         .simp only[xK,D2,FW,R.aa0,iO,xY,decide_eq_true I,IU,if_true,D7,Q7,C,E,H,EL,decide_eq_true U]
         .show(match(aCy vd (b::a::r).reverse)[(aCy vd (b::a::r).reverse).length-1]? with|some d=>_|none=>_:R (D×Ev)).bind _=_;rw[u];simp
         .simp only[aAt]at s⊢;lia
         .simp only[aAt]at t⊢;lia
         .rw[<-f]
          conv=>rhs;unfold G.aI
          rw[i6 U]
        .refine .inl ?_;simp only[xK,D2,FW,R.aa0,iO,xY,decide_eq_true I,IU,if_true,D7,Q7,C,E,H,EL,decide_eq_false U]
      .rintro m ρ ⟨e,rfl,sub,s,t,f⟩ L;refine⟨e,rfl,sub,s,?_⟩;match e,sub,s,t,f,L with
       |[],_,_,_,f,_=>exact f
       |[a],_,_,_,f,_=>exact f
       |b::a::r,sub,s,t,f,L=>
        have u:(b::a::r).reverse.map vd=r.reverse.map vd++[vd a,vd b]:=by simp
        have C:V1 (.lst ((b::a::r).reverse.map vd)) (.int (-1))=.ok (vd b):=N0 (by rw[u];exact XT _ _ _);have E:V1 (.lst ((b::a::r).reverse.map vd)) (.int (-2))=.ok (vd a):=N0 (by rw[u];exact XU _ _ _);have H:=HW sn (sub a<|.tail _ (.head _)) (sub b<|.head _) T;have I:(1:Int)<(aCy vd (b::a::r).reverse).length:=by rw[aAf,aBV];simp;lia
        simp only[xK,D2,FW,R.aa0,iO,xY,decide_eq_true I,IU,if_true,D7,Q7,C,E,H,EL,PJ,decide_eq_false_iff_not]at L;rw[<-f]
        conv=>rhs;unfold G.aI
        rw[ja L]
      .rintro ρ2 ⟨ew,e,rfl,sub,s,B⟩;refine⟨[.v (vd n),.v (.lst (aCy vd J)),.o ((P::e).reverse.map vd),.v (vd P)],?_,P::e,l,_,rfl,rfl,?_,λX q=>Q X (.tail _ q),?_,?_⟩
       .rw[ew];have O:(aCy vd e.reverse).length<sizeLine:=by rw[aAf,aBV];exact aDn (show e.length<=1000 by lia) (by decide)
        simp only[B7,Q7,D7,R.aa0];show(if(aCy vd e.reverse).length<sizeLine then _ else _)=_;rw[i6 O];simp
       .intro X q;rcases aAe.mp q with rfl|q
        .exact T
        .exact sub X q
       .simp;lia
       .rw[<-A,aDs,B]
    .rintro ρ ⟨c,l,x,rfl,y,sc,Q,N,A⟩;have:l=[]:=by simpa using y.symm
     subst this;have A:c=G.z7 n J:=A;subst A;simp[VI]
   .cases h
  .cases h
def mN (X0:u8 P w K mg base 3 "left_chain" 2 X7)(A:mg "list"=none)(B:mg "reversed"=none)(g:cF K mg "ring_of" lE):u8 P w K mg base 4 "ring_of" 2 T1:=by
 refine' m6 (k:=3) (F:=_) g CU (λf C E m=>?b) λo d H h=>?_
 case b=>
  refine' (b9 (j2 2 (R6 X0 f (c6 0)<|c6 1) m)
   (b9 (j2 3 (R6 X0 f (c6 0)<|PF.pd<|DX (b8 1) rfl) m)
   (d4<|j1<|c5 l7 (PD.pb<|iF (b8 2) P6<|F8<|iN d5)<|PD.pb<|iF (b8 3) P6<|F8<|iN d5)))
 replace h:=C8 h;obtain⟨a,b,c,o,rfl,h⟩:=h;replace h:=jJ h;obtain⟨I,o,rfl,h⟩:=h;replace h:=A6 h;obtain⟨rfl,h⟩:=h
 .skip
  split at h
  .rename_i J r;rw[p5 r];split at h
   .rename_i s;rw[<-h];obtain⟨p,e⟩:=s;have t:(.tup [.int a,.int b,.int c]:D)=vd ⟨a,b,c⟩:=rfl;rw[t];generalize(⟨a,b,c⟩:G.V)=n at*
    have u:=YL p e;have v:Q8 1000 J.reverse:=e.sub (λP x=>by simpa using x) (by simp);have q:=YL p v;rw[aEw (l:=J)]at q;have L:=vN n J;have y:=vN n J.reverse;rw[aBV]at y;have z:eS (.lst ((G.z7 n J).reverse.map vd).dropLast) (.lst ((G.z7 n J.reverse).reverse.map vd).dropLast)=.ok (.lst ((G.j8 n J).map vd)):=by rw[fZ (by simp only[aFW,aAf,aBV];exact aAr (show _<=2000 by have:=e.2;lia) (by decide))];unfold G.j8;rw[aBF,List.map_dropLast,List.map_dropLast]
    simp[-aEw,j6,u,q,UG,z,a0l]
   .cases h
  .cases h
def aO (n:mg "list"=none)(a:mg "zip"=none)(g:cF K mg "pairs_round" aY):u8 P w K mg base 1 "pairs_round" 1 A8:=by
 refine' m6 (k:=0) (F:=_) g rS (λo p q r=>?b) λf d s h=>?_
 case b=>refine' (d4<|j1<|PF.pd<|DQ (b8 0) (PD.pb<|c5 l7 (PD.pb<|iF (b8 0) (F8 d5) P6)<|PD.pb<|iF (b8 0) P6<|F8 d5) rfl)
 match f,h with
 |[.lst t],h=>
  simp only[A8]at h;split at h
  .rename_i J l;rw[p5 l];split at h
   .rename_i u;rw[<-h];have m:eS (.lst (J.map vd).tail) (.lst ((J.map vd).take 1))=.ok (.lst ((J.tail++J.take 1).map vd)):=by rw[fZ (by simp only[aDL,aBd,aAf];exact MZ (by lia))];rw[aBF,aGt,aFz]
    have c:(J.map vd).length=((J.tail++J.take 1).map vd).length:=by
     simp only[aAf,aAx,aDL,aBd]
     lia
    have e:XN [.lst (J.map vd),.lst ((J.tail++J.take 1).map vd)]=.ok ((G.U7 J).map J5):=by show(if _ then _ else _)=_;rw[i6 c,tW (β:=Unit)];rfl
    simp[-aBF,-aGt,-aFz,j6,HK,RJ,m,e]
   .cases h
  .cases h
def cM (L7:u8 P w K mg base 3 "plane_about" 2 G3)(mN:u8 P w K mg base 4 "ring_of" 2 T1)(aO:u8 P w K mg base 1 "pairs_round" 1 A8)(C:mg "len"=none)(I:mg "sorted"=none)(g:cF K mg "faces_from" cR):WS P w K mg base 8 3 "faces_from" K4:=by
 obtain⟨f,L,q,l⟩:=g;refine' WW (k:=7) (F:=_) l gO rfl (l.binds λ_ _ _ _ _ _ r t=>match r,t with|[_,_,_],_=>rfl) q (λT A c s H E a=>?hb) ?hm
 case hb=>
  have N:=a.units;have n:=a.af1;have u:=a.ac6 (by decide);have b:=gO.nd;refine' (b9 (kT 3 (qF o7) b)
   (b9 (AW 4 b)
   (b9 (kT 5 (qF<|f8 (c6 0) o7) b)
   (b9 (gG (λ_=>5000) aAR (k9 qX (PD.pb<|CC Q9<|b8 5) w6) (b9 (FX 6 5 b)
   (d4 (y6 (KU 4 (c6 6) n) (b9 (j2 7 (R6 L7 a (c6 6) (BS 1 (k:=3) (Φ:=LX P w K mg base 3 1) rfl (f8 (f9 (b8 6) d5) o7) (C3 cB) (a.mono (by decide)))) b)
   (b9 (j2 8 (R6 mN a (iF (b8 7) P6<|F8 d5) (BS 2 (k:=3) (Φ:=LX P w K mg base 3 1) rfl (f8 (c6 7) o7) (C3 cB) (a.mono (by decide)))) b)
   (b9 (cK 3<|HH (c6 7)<|c6 8)
   (d4 (F1 aAR rfl (u5<|sZ aO a<|c6 8) (k5 9 b) (b9 (jC 4 kU (c6 9) n)
   (d4<|cK 5<|HH (f9 (b8 9) d5)<|f9 (b8 9) d5))))))) o5))))
   (d4<|j1<|PF.pd<|CJ (b8 3) rfl u)))))
 case hm=>
  intro d O Q U h;simp only[K4]at h;split at h
  .rename_i Y v;split at h
   .rename_i m J x;split at h
    .rename_i e;rw[<-h];obtain⟨e,y,z,o,p⟩:=e;rw[p5 x]at o p;subst z o p;have B:(1:Nat)<=sizeLine:=by decide
     simp only[kZ,D7,p8,v8,R.aa0,aAt,aBm,aDO,B,if_true,B7];exact a1d (Φ:=LX P w K mg base 3 1) e y
    .cases h
   .cases h
  .cases h
def vD:Nst:=⟨"about",GF,G8 eV,u9 eV,c7 eV,II eV,["corner"],[],["spread"],[1],(λρ=>(V7 1 ρ).bind λd=>.ok (.rt d)),M0,2⟩
def fW:Nst:=⟨"touched_by",kH,G8 L3,u9 L3,c7 L3,II L3,["plane"],[],["spread"],[1],(λρ=>((t5 (V7 0) (t5 (V7 1) T8) ρ).bind B1).bind λd=>.ok (.rt d)),F4,3⟩
def LO {f:bb}{T:au}{A:cp}{a:List Env}{s:a9}{H:Hp}{E:XK}:NstOk (WV P w K mg base iP "faces_of" (c7 M4) f T A a s H E) 2 vD where
 sc:=⟨rfl,rfl,rfl,by decide+kernel,by decide+kernel,by decide+kernel,λx h=>GK h,by decide+kernel⟩
 one:=rfl
 body:=λr g c A a s H k=>by have t:=k.units;exact(d4<|j1<|c6 1)
 mm:=by
  intro l m d b e h;match l,m,b,e,h with
  |[_],[_],_,_,h=>cases h;rfl
 bind:=λc n u g o p q=>match p,q with|[_],_=>rfl
 len:=rfl
 at_:=λi j x b e=>match i,b,e with
  |0,b,e=>by obtain rfl:1=j:=aAl b;obtain rfl:("spread":Str)=x:=aAl e;exact⟨rfl,rfl⟩
  |i+1,b,_=>nomatch(show(none:Option Nat)=some j from b)
 d0:=rfl
 k0:=rfl
 nm:=rfl
 lc:=.inl rfl
 st:=.inl rfl
 dbg:=by decide
 cdt:=by decide
def qY (J0:u8 P w K mg base 2 "points_on" 2 B1){f:bb}{T:au}{A:cp}{a:List Env}{s:a9}{H:Hp}{E:XK}:NstOk (WV P w K mg base iP "faces_of" (c7 M4) f T A a s H E) 2 fW where
 sc:=⟨rfl,rfl,rfl,by decide+kernel,by decide+kernel,by decide+kernel,λx h=>GK h,by decide+kernel⟩
 one:=rfl
 body:=λu l c A a s H k=>by have y:=k.units;exact(d4<|j1<|R6 J0 k (c6 0)<|c6 1)
 mm:=by
  intro m n d b g h;match m,n,b,g,h with
  |[w],[p],_,_,h=>have h:B1 [p,w]=.ok d:=h;show N6 (((t5 (V7 0) (t5 (V7 1) T8) [.v p,.v w]).bind B1).bind λd=>.ok (.rt d))=.ok d;have e:t5 (V7 0) (t5 (V7 1) T8) [.v p,.v w]=.ok [p,w]:=rfl;rw[e,R.aa0,h];rfl
 bind:=λc o z l q r t=>match r,t with|[_],_=>rfl
 len:=rfl
 at_:=λi j x b g=>match i,b,g with
  |0,b,g=>by obtain rfl:1=j:=aAl b;obtain rfl:("spread":Str)=x:=aAl g;exact⟨rfl,rfl⟩
  |i+1,b,_=>nomatch(show(none:Option Nat)=some j from b)
 d0:=rfl
 k0:=rfl
 nm:=rfl
 lc:=.inl rfl
 st:=.inl rfl
 dbg:=by decide
 cdt:=by decide
def R9 {u:bb}(J0:u8 P w K mg base 2 "points_on" 2 B1)(aX:u8 P w K mg base 3 "refuse_flat" 1 G1)(cT:u8 P w K mg base 8 "first_pair" 1 K8)(cM:WS P w K mg base 8 3 "faces_from" K4)(ai:mg "sorted"=none)(ji:mg "set"=none)(T:jX mg base)(l:(u,tbK)∈Tabs.tbs)(g:a0j K mg "faces_of" M4 u):u8 P w K mg base 9 "faces_of" 1 S6:=by
 obtain⟨f,fd,cd,U,Y,y⟩:=g;refine' VC (k:=8) (F:=_) y mW (y.fn.binds λ_ _ _ _ _ _ us z=>match us,z with|[_],_=>rfl) U (λA o s H E a=>?hb) ?hm
 case hb=>
  have hu:=a.units;have cg:=a.af1;have qm:=a.ac6 (by decide);have B:=mW.nd;refine' (b9 (NF<|sZ aX a<|c6 0)
   (b9 (j2 1 (PF.pd<|W9 (b8 0) rfl qm) B)
   (FT (n1:=vD) (n2:=fW) (clos1:=[("spread",s.heap.objs.size+1)]) (clos2:=[("spread",s.heap.objs.size+1)]) (tb:=tbK) LO (qY J0) ?co1 ?co2 ?hA T rfl Y l (by decide+kernel) (by decide+kernel) (by decide+kernel) (by decide+kernel) (by decide) B cM (a.mono (by decide)) (sZ cT a<|c6 1) (λ_=>rfl))))
  case co1=>exact⟨rfl,rfl,rfl,λx c h=>h,λx p=>⟨_,by obtain rfl:x= "spread":=aAT.mp p;rfl⟩⟩
  case co2=>exact⟨rfl,rfl,rfl,λx c h=>h,λx p=>⟨_,by obtain rfl:x= "spread":=aAT.mp p;rfl⟩⟩
  case hA=>exact JR
 case hm=>
  intro q d z h;match q,h with
  |[.lst xs],h=>
   simp only[S6]at h;split at h
   .rename_i J hw;rw[p5 hw];split at h
    .rename_i hz;rw[<-h];obtain⟨C,I,N⟩:=hz;obtain⟨m,r,e,L⟩:=N8 C I (by lia);have t:=HB (J:=J) (by lia);have fl:=WP (C.mono (n:=1000)) I;rw[e]at N t⊢;have O:=a1j L;have Q:=fj L N;obtain⟨b,eL⟩:∃b,(m::r).map vd=b:=⟨_,rfl⟩;rw[eL]at t O Q;show N6 (C9 ((G1 [D.lst (J.map vd)]).bind λ_=>R.ok (Out.nx [.v (.lst (J.map vd)),.no,.no,.no])) _)=_;rw[fl,R.aa0,B7];show N6 (C9 (((zj<|.lst (J.map vd)).bind λq=>R.ok (D.lst q)).bind λd=>R.ok (Out.nx [.v (.lst (J.map vd)),.v d,.no,.no])) _)=_;rw[t,R.aa0,R.aa0,B7];show N6 (((K8 [D.lst b]).bind λd1=>(R.ok [D.lst b]).bind λw1=>(R.ok [D.lst b]).bind λw2=>K4 d1 (M0 w1) (F4 w2)).bind λd=>R.ok (Out.rt d))=_;rw[O,R.aa0,R.aa0,R.aa0,Q];rfl
    .cases h
   .cases h
def dI (t:mg "sorted"=none)(u:mg "set"=none)(g:cF K mg "corners_in" dZ):u8 P w K mg base 8 "corners_in" 1 J9:=by
 refine' m6 (k:=7) (F:=_) g sE (λm x y c=>?b) λo d z h=>?_
 case b=>
  have p:=m.ac6 (by decide);refine' (b9 (kT 1 (qF o7) c)
   (b9 (F1 aAR rfl (u5<|c6 0) (aM (n:=2) rfl<|t4 (k5 2 c)<|t4 (k5 3 c) U9)<|d4<|ER 1<|c6 3)
   (d4<|j1<|PF.pd<|W9 (b8 1) rfl p)))
 match o,h with
 |[.lst f],h=>
  simp only[J9]at h;split at h
  .rename_i q r;split at h
   .rename_i l;rw[<-h];obtain⟨A,B,e⟩:=nK (a:=Sl.v (D.lst f)) f q [] Sl.no Sl.no r (by simpa using l.1);rw[aDS,aCX]at e;have s:=HB l.2;simp[j6,-List.map_flatten,e,s]
   .cases h
  .cases h
def bS (dI:u8 P w K mg base 8 "corners_in" 1 J9)(R9:u8 P w K mg base 9 "faces_of" 1 S6)(g:cF K mg "body_of" mD):u8 P w K mg base 10 "body_of" 1 Y2:=by
 refine' m6 (k:=9) (F:=_) g DJ (λc t u v=>?b) λn d x h=>?_
 case b=>refine' (d4<|j1<|sZ dI c<|sZ R9 c<|c6 0)
 match n,h with
 |[.lst y],h=>
  simp only[Y2]at h;split at h
  .rename_i J o;rw[p5 o];split at h
   .rename_i p;rw[<-h];obtain⟨f,l,a⟩:=p;obtain⟨m,r,e,L⟩:=N8 f l (by lia);have q:=qL f l a;have z:((j5<|c8 J).flatMap (G.k8<|c8 J)).length<=200/\(c8<|(j5<|c8 J).flatMap (G.k8<|c8 J)).length<=14:=by rw[e]at a⊢;exact uQ L a
    have s:=CM (J:=c8 J) (fs:=j5 (c8 J)) (by lia) (by lia);simp[j6,q,s,l9]
   .cases h
  .cases h
end
section
variable [Tabs]
variable{P:be} {w:cq} {K:ka} {mg:fL} {base:cv}
def gD (B6:u8 P w K mg base 2 "dimension_of" 1 v7)(bS:u8 P w K mg base 10 "body_of" 1 Y2)(y:mg "len"=none)(g:cF K mg "is_body" mL):u8 P w K mg base 11 "is_body" 1 J6:=by
 refine' m6 (k:=10) (F:=_) g CY (λm o A C=>?b) λr d E h=>?_
 case b=>
  refine' (b9 (y6 (EM.pt<|DG (k9 (K9 o) (PD.pb<|CC Q9<|b8 0) w6)<|wB<|k9 zE (PD.pb<|sZ B6 m<|c6 0) w6) (d4<|j1 kU) o5)
   (d4<|j1<|jB (K9 o) (PD.pb<|sZ bS m<|c6 0)<|b8 0))
 match r,h with
 |[.lst H],h=>
  simp only[J6]at h;split at h
  .rename_i J s;rw[p5 s];split at h
   .rename_i c;rw[<-h];by_cases a:J=[]
    .subst a;simp[j6]
    .have c:Q8 1000 J/\¬G.j3 J:=by
      rcases c with z|z
      .exact absurd z a
      .exact z
     have e:=YX c.1 a;have lt:=my c.2;have lt':((G.M7 J:Nat):Int)<3:=by lia
     have f:¬(((J.map vd).length:Int)=0):=by
      rw[aAf];have:J.length≠0:=λz=>a (aBD z)
      lia
     generalize((G.M7 J:Nat):Int)=I at*
     generalize J.map vd=L at*
     simp[j6,f,e,lt']
   .rename_i l;split at h
    .rename_i c;rw[<-h];obtain⟨p,q,t,N⟩:=c;have a:J≠[]:=λz=>l (.inl z);have e:=YX (p.mono (n:=1000)) a;have u:=OS q;rw[u]at e;have b:=HF p q t;have f:¬(((J.map vd).length:Int)=0):=by
      rw[aAf];have:J.length≠0:=λz=>a (aBD z)
      lia
     have v:GO (.lst ((l9 J).map vd)) (.lst (J.map vd))=.ok (.bl (decide (l9 J=J))):=MO _ _;have x:J.map vd≠[]:=λz=>a (List.map_eq_nil_iff.mp z);generalize decide (l9 J=J)=B at*
     generalize(l9 J).map vd=L2 at*
     generalize J.map vd=L at*
     simp[j6,x,f,e,b,v]
    .cases h
  .cases h
end
section
variable [Tabs]
variable{P:be} {w:cq} {K:ka} {mg:fL} {base:cv}
def t9 (q:mg "len"=none)(g:cF K mg "_law_cell" fG):u8 P w K mg base 1 "_law_cell" 2 Y0:=by
 refine' m6 (k:=0) (F:=_) g xH (λr s t u=>?b) λl d v h=>?_
 case b=>
  refine' (b9 (y6 (k9 zE (b8 1)<|PD.pb<|CC Q9<|b8 0) (d4<|j1<|f9 (b8 0)<|c6 1) o5)
   (d4<|j1<|c5 l7 (PD.pb<|c5 l7 (PD.pb<|c5 n4 (PD.pb<|c5 n4 w6<|b8 1)<|b8 1)<|PD.pb<|c5 n4 w6<|b8 1) w6))
 match l,h with
 |[.lst a,.int k],h=>
  simp only[Y0]at h;split at h
  .rename_i m;obtain⟨n,x⟩:=m;rw[<-h];have c:bits k<=20:=B0 (by lia) (by lia);have o:bits (6*k)<=30:=B0 (by lia) (by lia);by_cases f:k<a.length
   .have e:a[k.toNat]?=some a[k.toNat]:=aAd (by lia);have p:pU a k=some a[k.toNat]:=by rw[Z7 n,e]
    simp[j6,f,N0 p,uY,e]
   .have e:a[k.toNat]?=none:=aBQ.mpr (by lia);simp[j6,f,uY,e,i8 (n6.of (show bits 6<=10 by decide) c),i8 (n6.of o c),i8 (n6.of (show bits 5<=10 by decide) c),M.AZ]
  .cases h
def M8 (g:cF K mg "_law_way" iT):u8 P w K mg base 1 "_law_way" 2 o6:=by
 refine' m6 (k:=0) (F:=_) g zP (λf l m n=>?b) λe d o h=>?_
 case b=>refine' (d4<|j1<|DS (c5 x8 (PD.pb<|f9 (b8 1) d5)<|PD.pb<|f9 (b8 0) d5) (c5 x8 (PD.pb<|f9 (b8 1) d5)<|PD.pb<|f9 (b8 0) d5)<|c5 x8 (PD.pb<|f9 (b8 1) d5)<|PD.pb<|f9 (b8 0) d5)
 replace h:=C8 h;obtain⟨a,b,c,e,rfl,h⟩:=h;replace h:=C8 h;obtain⟨p,q,r,e,rfl,h⟩:=h;replace h:=A6 h;obtain⟨rfl,h⟩:=h;exact h
def O8 (g:cF K mg "_law_cross" cI):u8 P w K mg base 1 "_law_cross" 2 x9:=by
 refine' m6 (k:=0) (F:=_) g sD (λr s t u=>?b) λe d v h=>?_
 case b=>refine' (d4<|j1<|DS (c5 x8 (PD.pb<|c5 n4 (PD.pb<|f9 (b8 0) d5)<|PD.pb<|f9 (b8 1) d5)<|PD.pb<|c5 n4 (PD.pb<|f9 (b8 0) d5)<|PD.pb<|f9 (b8 1) d5) (c5 x8 (PD.pb<|c5 n4 (PD.pb<|f9 (b8 0) d5)<|PD.pb<|f9 (b8 1) d5)<|PD.pb<|c5 n4 (PD.pb<|f9 (b8 0) d5)<|PD.pb<|f9 (b8 1) d5)<|c5 x8 (PD.pb<|c5 n4 (PD.pb<|f9 (b8 0) d5)<|PD.pb<|f9 (b8 1) d5)<|PD.pb<|c5 n4 (PD.pb<|f9 (b8 0) d5)<|PD.pb<|f9 (b8 1) d5)
 replace h:=C8 h;obtain⟨a,b,c,e,rfl,h⟩:=h;replace h:=C8 h;obtain⟨x,y,z,e,rfl,h⟩:=h;replace h:=A6 h;obtain⟨rfl,h⟩:=h;split at h
 .rename_i q;obtain⟨⟨f,l,m⟩,n,o,p⟩:=q;rw[<-h];simp[j6,i8 (n6.of l p),i8 (n6.of m o),i8 (n6.of m n),i8 (n6.of f p),i8 (n6.of f o),i8 (n6.of l n)]
 .cases h
def v6 (g:cF K mg "_law_product" Z3):u8 P w K mg base 1 "_law_product" 2 j9:=by
 refine' m6 (k:=0) (F:=_) g oD (λr s u v=>?b) λe d x h=>?_
 case b=>refine' (d4<|j1<|c5 l7 (PD.pb<|c5 l7 (PD.pb<|c5 n4 (PD.pb<|f9 (b8 0) d5)<|PD.pb<|f9 (b8 1) d5)<|PD.pb<|c5 n4 (PD.pb<|f9 (b8 0) d5)<|PD.pb<|f9 (b8 1) d5)<|PD.pb<|c5 n4 (PD.pb<|f9 (b8 0) d5)<|PD.pb<|f9 (b8 1) d5)
 replace h:=XX h;obtain⟨a,b,c,t,e,rfl,h⟩:=h;replace h:=C8 h;obtain⟨y,z,A,e,rfl,h⟩:=h;replace h:=A6 h;obtain⟨rfl,h⟩:=h;split at h
 .rename_i f;obtain⟨⟨l,m,n⟩,o,p,q⟩:=f;rw[<-h];simp[j6,SF,RZ,ME,i8 (n6.of l o),i8 (n6.of m p),i8 (n6.of n q)]
 .cases h
def cU (dh:mg "range"=none)(gu:mg "tuple"=none)(g:cF K mg "_law_point" dG):u8 P w K mg base 1 "_law_point" 2 bR:=by
 refine' m6 (k:=0) (F:=_) g sK (λhr v cg e=>?b) λC d hl h=>?_
 case b=>
  refine' (b9 (y6 (k9 (K9 v) (b8 1) w6) (b9 (j2 2 (c5 l7 (PD.pb<|c5 n4 w6<|PD.pb<|c5 jL w6 w6) w6) e)
   (d4<|j1<|DS (c5 x8 (PD.pb<|c5 v5 (b8 0)<|b8 2)<|PD.pb<|c5 jL w6 w6) (c5 x8 (PD.pb<|c5 v5 (PD.pb<|c5 u4 (b8 0)<|b8 2)<|b8 2)<|PD.pb<|c5 jL w6 w6)<|c5 x8 (PD.pb<|c5 v5 (PD.pb<|c5 u4 (b8 0)<|PD.pb<|c5 n4 (b8 2)<|b8 2)<|b8 2)<|PD.pb<|c5 jL w6 w6)) o5)
   (b9 (y6 (k9 (K9 v) (b8 1) w6) (b9 (j2 3 (c5 v5 (PD.pb<|c5 l7 (PD.pb<|c5 n4 (b8 0) w6) w6) w6) e)
   (b9 (kT 4 (qF o7) e)
   (b9 (F1 aAR rfl (S1<|o9 w6 w8) (k5 5 e) (b9 (j2 3 (c5 v5 (PD.pb<|c5 l7 (PD.pb<|c5 l7 (PD.pb<|c5 n4 (b8 3)<|b8 3)<|PD.pb<|c5 n4 w6<|b8 5) w6) w6) e)
   (d4<|cK 4<|c5 x8 (PD.pb<|c5 v5 (b8 3) w6)<|PD.pb<|c5 jL w6 w6)))
   (d4<|j1<|N4 qG<|o9 (b8 4) w8)))) o5)
   (b9 (j2 2 (f9 (PD.pb<|S9<|f8 d5<|f8 d5<|f8 d5 o7)<|c6 1) e)
   (d4<|j1<|DS (c5 x8 (PD.pb<|c5 v5 (b8 0)<|b8 2)<|PD.pb<|c5 u4 (b8 2) w6) (c5 x8 (PD.pb<|c5 v5 (PD.pb<|c5 u4 (b8 0)<|b8 2)<|b8 2)<|PD.pb<|c5 u4 (b8 2) w6)<|c5 x8 (PD.pb<|c5 v5 (PD.pb<|c5 u4 (b8 0)<|PD.pb<|c5 n4 (b8 2)<|b8 2)<|b8 2)<|PD.pb<|c5 u4 (b8 2) w6))))
 match C,h with
 |[.int t,.int a],h=>
  simp only[bR]at h;split at h
  .rename_i q;rw[<-h];obtain⟨q,h0,h4⟩:=q;have y:JC (.int 10) (.int 9)=.ok (.int 1000000000):=(yN ⟨by decide,by decide,by decide⟩).trans (by rfl);have m:∀{x w:Int},0<w->O9 (.int x) (.int w)=.ok (.int (x.fmod w)):=λE=>U0 E;have z:∀{w:Int},0<w->bits w<=80->P8 (.int w) (.int w)=.ok (.int (w*w))/\L0 (.int t) (.int w)=.ok (.int (t.fdiv w))/\L0 (.int t) (.int (w*w))=.ok (.int (t.fdiv<|w*w))/\L0 (.int w) (.int 2)=.ok (.int (w.fdiv 2)):=λ{w} f c=>by have ww:0<w*w:=aBa f f;exact⟨i8 (n6.of c c),Y6 ⟨by lia,y3 c⟩,Y6 ⟨by lia,y3 (bits_mul c c)⟩,bY (by decide) (by decide)⟩
   by_cases r:a=4
   .subst r;have H:P8 (.int t) (.int 40009)=.ok (.int (t*40009)):=i8 (n6.of q (show bits 40009<=80 by decide));have n:∀x:Int,bits (x.fmod 2147483647)<=80:=λx=>bits_fmod (by decide) (by decide);have I:P8 (.int (XZ t)) (.int (XZ t))=.ok (.int (XZ t*XZ t)):=i8 (n6.of (n _)<|n _);have J:∀s k:Int,P8 (.int (oM s k)) (.int (oM s k))=.ok (.int (oM s k*oM s k)):=λs k=>i8 (n6.of (n _)<|n _);have L:(t*40009+6007).fmod 2147483647=XZ t:=rfl;have N:∀s:Int,(s*s+11).fmod 2147483647=oM s 0:=λs=>by unfold oM;simp
    have O:∀s:Int,(s*s+5003+11).fmod 2147483647=oM s 1:=λs=>by unfold oM;simp
    have Q:∀s:Int,(s*s+10006+11).fmod 2147483647=oM s 2:=λs=>by unfold oM;simp
    have l:∀x:Int,O9 (.int x) (.int 2147483647)=.ok (.int (x.fmod 2147483647)):=λx=>m (by decide);have T:∀x:Int,O9 (.int x) (.int 2000000011)=.ok (.int (x.fmod 2000000011)):=λx=>m (by decide);have k0:P8 (.int 5003) (.int 0)=.ok (.int 0):=(i8 (n6.of (show bits 5003<=80 by decide) (show bits 0<=80 by decide))).trans (by rfl);have U:P8 (.int 5003) (.int 1)=.ok (.int 5003):=(i8 (n6.of (show bits 5003<=80 by decide) (show bits 1<=80 by decide))).trans (by rfl);have Y:P8 (.int 5003) (.int 2)=.ok (.int 10006):=(i8 (n6.of (show bits 5003<=80 by decide) (show bits 2<=80 by decide))).trans (by rfl);simp[j6,y,H,l,T,L,N,O,Q,I,J,k0,U,Y,R3,yP,YW,YO,xj,vd,vZ,eM,sizeLine,lU]
   .by_cases A:a=3
    .subst A;have k0:P8 (.int 2) (.int 1000000000)=.ok (.int 2000000000):=(i8 (n6.of (show bits 2<=80 by decide) (show bits 1000000000<=80 by decide))).trans (by rfl);obtain⟨o,u,p,B⟩:=z (w:=2000000001) (by decide) (by decide);have l:∀x:Int,O9 (.int x) (.int 2000000001)=.ok (.int (x.fmod 2000000001)):=λx=>m (by decide);simp only[Int.reduceMul]at o p;simp[j6,y,k0,o,u,p,l,YW,eI,dw,vd,eM,sizeLine]
    .have wi:V1 (.lst [.int 3,.int 5,.int 9]) (.int a)=.ok (.int (eI a))/\0<eI a/\bits (eI a)<=80:=by rcases(show a=0\/a=1\/a=2 by lia)with rfl|rfl|rfl<;>exact⟨rfl,by decide,by decide⟩
     obtain⟨iw,f,c⟩:=wi;have pt:YW t a=dw t (eI a):=ja r;rw[pt];generalize eI a=w at*
     obtain⟨o,u,p,B⟩:=z f c;have l:∀x:Int,O9 (.int x) (.int w)=.ok (.int (x.fmod w)):=λx=>m f;simp[j6,r,A,iw,o,u,p,B,l,dw,vd,eM,sizeLine,lU]
  .exact absurd h (by simp)
def aV (t9:u8 P w K mg base 1 "_law_cell" 2 Y0)(cU:u8 P w K mg base 1 "_law_point" 2 bR)(dh:mg "range"=none)(jl:mg "enumerate"=none)(g:cF K mg "_law_points" L9):u8 P w K mg base 2 "_law_points" 2 gE:=by
 refine' m6 (k:=1) (F:=_) g pJ (λB hu cg u=>?b) λp d Y h=>?_
 case b=>
  refine' (b9 (j2 2 (c5 l7 w6<|PD.pb<|c5 v5 (PD.pb<|R6 t9 B (c6 0) d5)<|PD.pb<|c5 x8 (b8 1) w6) u)
   (b9 (uW 3 ["k"] [] [] u rfl (G5 (sc:=c7 L9) (N:=aT)) (S1<|o9 (b8 2) w8) (LW λ_ _ _ _ _=>(c5 l7 (PD.pb<|c5 n4 (PD.pb<|c5 n4 w6<|b8 0)<|b8 0)<|PD.pb<|c5 n4 w6<|b8 0))<|λ_=>t6)
   (b9 (F1 aAR rfl (QQ<|iF (b8 0) (F8 d5)<|F8 d5) (aM (n:=2) rfl<|t4 (k5 4 u)<|t4 (k5 5 u) U9)<|d4<|JV 3 (c5 l7 (PD.pb<|f9 (b8 3)<|c5 v5 (b8 4)<|b8 2)<|b8 5)<|c5 v5 (b8 4)<|b8 2)
   (d4<|GT 3<|j1<|N7 ["total"] ["script"] [0] rfl (G5 (sc:=c7 L9) (N:=aT)) (u5<|c6 3) (LW λ_ _ _ _ _=>(R6 cU B (c6 0)<|c5 v5 (PD.pb<|R6 t9 B (c6 1) d5) w6))<|λ_=>t6))))
 match p,h with
 |[.lst e,.int c],h=>
  simp only[gE]at h;split at h
  .rename_i hc;rw[<-h];obtain⟨z,Y,L,h1⟩:=hc;obtain⟨c0,b0⟩:=qO z 0 (by decide) (by decide);obtain⟨c1,b1⟩:=qO z 1 (by decide) (by decide);have C:=iK e L;have O:O9 (.int (cJ e 0)) (.int (c-3))=.ok (.int ((cJ e 0).fmod (c-3))):=U0 (by lia);have Q:gK [.int (4+(cJ e 0).fmod (c-3))]=.ok ((aAQ<|A1 e c).map λ(k:Nat)=>D.int (k:Int)):=by rw[<-C.2.2];exact a0u (by lia)
   have t0:=HX (A1 e c) (by lia);have cm:w5 (λd ρ=>R.ok (aCz ρ 0<|Sl.v d)) (λx=>R.ok true) (λρ=>(((tM 0 ρ).bind λy=>P8 (D.int 5) y).bind λx=>(tM 0 ρ).bind λy=>P8 x y).bind λx=>((tM 0 ρ).bind λy=>P8 (D.int 3) y).bind λy=>eS x y) [.no] ((aAQ<|A1 e c).map λ(k:Nat)=>D.int (k:Int))=.ok ((AJ<|A1 e c).map D.int):=by
    unfold AJ;rw[aBw];refine J8 (λ(k:Nat)=>D.int (k:Int)) _ _ λk E=>⟨[.v (.int k)],rfl,?_⟩;have km:k<A1 e c:=by simpa using E
    have A:bits (k:Int)<=80:=B0 (by lia) (by lia);have m1:P8 (.int 5) (.int k)=.ok (.int (5*k)):=i8 (n6.of (show bits 5<=80 by decide) A);have m2:P8 (.int (5*(k:Int))) (.int k)=.ok (.int (5*k*k)):=i8 (n6.of (bits_mul (show bits 5<=80 by decide) A) A);have m3:P8 (.int 3) (.int k)=.ok (.int (3*k)):=i8 (n6.of (show bits 3<=80 by decide) A);simp[m1,m2,m3]
   have en:NL [.lst ((e.take 63).drop 2)]=.ok (uN 0<|(e.take 63).drop 2):=by rw[<-WE];rfl
   have l1:A1 e c<=sizeLine:=aAr (show A1 e c<=20 by lia) (by decide);have hlc:((e.take 63).drop 2).length<=61:=by simp;lia
   have H:G7 1048576 ((e.take 63).drop 2):=λx I=>z x (aDC<|aDD I);have T:=OT z L h1;have q5:=S7 (a:=cJ e 1) (b:=5) (by decide);have m5:O9 (.int (cJ e 1)) (.int 5)=.ok (.int ((cJ e 1).fmod 5)):=U0 (by decide);have cf:w5 (λd ρ=>R.ok (aCz ρ 0<|Sl.v d)) (λx=>R.ok true) (λρ=>((V7 0 ρ).bind λd=>(((((V7 1 ρ).bind λd=>R.ok [d,D.int 1]).bind Y0).bind λx=>O9 x (D.int 5)).bind λd=>R.ok [d]).bind λp=>R.ok (d::p)).bind bR) [.no,.v (.lst e)] ((zG e c).map D.int)=.ok ((iQ e c).map vd):=by unfold iQ;rw[aBw];refine J8 D.int _ _ λt ht=>⟨[.v (.int t),Sl.v (.lst e)],rfl,?_⟩;have:=JY (t:=t) (way:=(cJ e 1).fmod 5) (m9 (T.2 t ht) (by decide)) q5.1 (by lia);simp[c1,m5,this]
   have U:((zG e c).map D.int).length<=sizeLine:=by rw[aAf,T.1];exact aAr (show A1 e c<=20 by lia) (by decide)
   have q:0<A1 e c:=by lia
   simp only[<-C.2.2]at Q O⊢;simp-implicitDefEqProofs [j6,c0,O,Q,cm,l1,i7,fy,en,<-C.2.2];refine fQ (λp ρ=>∃(k:Nat) (l:List D) (ts:List Int) (a b:Sl),p=uN k l/\ρ=[.v (.lst e),.v (.int c),.v (.int (A1 e c:Int)),.o (ts.map D.int),a,b]/\zA (A1 e c) k l ts=zG e c/\ts.length=A1 e c/\G7 1048576 l) ?_ ⟨0,(e.take 63).drop 2,AJ (A1 e c),_,_,rfl,rfl,rfl,t0.1,H⟩ ?_
   .rintro d p ρ ⟨k,l,ts,a,b,m,rfl,f,J,r⟩;match l,m,f,r with
    |y::l,m,f,r=>
     obtain⟨i,rfl,hb⟩:=r _ (.head _);injection m with m e2;subst m e2;have E:k%A1 e c<ts.length:=by rw[J];exact aDP _ q
     have mk:O9 (.int (k:Int)) (.int (A1 e c:Int))=.ok (.int ((k%A1 e c:Nat):Int)):=(U0 (by lia)).trans (by rw[aDB _ (by lia)];rfl);have ix:V1 (.lst (ts.map D.int)) (.int ((k%A1 e c:Nat):Int))=.ok (.int (ts.getD (k%A1 e c) 0)):=N0 (by rw[Z7 (by lia),aAZ,aAF,aAi,aAd E];rfl)
     have s:ES (ts.map D.int).length ((k%A1 e c:Nat):Int)=some (k%A1 e c):=by unfold ES;rw[i6 (by lia),i6 (by rw[aAf];lia),aAZ]
     refine⟨[.v (.lst e),.v (.int c),.v (.int (A1 e c:Int)),.o ((ts.set (k%A1 e c)<|ts.getD (k%A1 e c) 0+i).map D.int),.v (.int (k:Int)),.v (.int i)],?_,k+1,l,_,_,_,rfl,rfl,f,by simpa using J,λx I=>r x (.tail _ I)⟩;clear f;rw[aAf]at s;generalize k%A1 e c=j at*
     generalize ts.getD j 0=tj at*
     simp[aE,bO,E8,fJ,mk,ix,ZR,s]
   .rintro ρ ⟨k,l,ts,a,b,m,rfl,f,J,r⟩;match l,m,f with
    |[],_,f=>
     have f:ts=zG e c:=f;subst f;have l3:(zG e c).length<=sizeLine:=by rw[aAf]at U;exact U
     simp[VI,Q1,l3,cf]
  .exact absurd h (by simp)
def dD (M8:u8 P w K mg base 1 "_law_way" 2 o6)(O8:u8 P w K mg base 1 "_law_cross" 2 x9)(v6:u8 P w K mg base 1 "_law_product" 2 j9)(g:cF K mg "_law_solid" Q5):u8 P w K mg base 2 "_law_solid" 1 eU:=by
 refine' m6 (k:=1) (F:=_) g sW (λA e cg f=>?b) λm d s h=>?_
 case b=>
  refine' (b9 (bP 1 ["one"] ["points"] [0] f rfl (G5 (sc:=c7 Q5) (N:=dN)) (u5<|c6 0) (LW λ_ _ _ _ _=>(R6 M8 A (f9 (b8 1) d5)<|c6 0))<|λ_=>t6)
   (b9 (F1 aAR rfl (u5<|c6 1) (k5 2 f) (d4 (F1 aAR rfl (u5<|c6 1) (k5 3 f) (b9 (j2 4 (R6 O8 A (c6 2)<|c6 3) f)
   (d4<|y6 (EM.pt<|oR (k9 (kW e) (b8 4)<|PD.pb<|DS d5 d5 d5)<|jU<|k9 (kW e) (PD.pb<|N7 ["w"] ["crossed"] [4] rfl (G5 (sc:=c7 Q5) (N:=dN)) (u5<|c6 1) (hxt λ_ _ _ _ _=>⟨(k9 (kW e) (PD.pb<|R6 v6 A (c6 1)<|c6 0) w6),(c6 0)⟩)<|λ_=>t6)<|PD.pb<|S9 o7) (d4<|j1<|c6 0) o5)))))
   (b9 (oO (f9 (b8 0) d5)<|aM (n:=3) rfl<|t4 (k5 5 f)<|t4 (k5 6 f)<|t4 (k5 7 f) U9)
   (d4<|j1<|c5 l7 (b8 0)<|PD.pb<|S9<|f8 (DS (c5 l7 (b8 5) w6) (c6 6)<|c6 7)<|f8 (DS (c6 5) (c5 l7 (b8 6) w6)<|c6 7)<|f8 (DS (c6 5) (c6 6)<|c5 l7 (b8 7) w6) o7))))
 match m,h with
 |[.lst xs],h=>
  simp only[eU]at h;split at h
  .rename_i J e1;rw[p5 e1];split at h
   .rename_i hz;rw[<-h];obtain⟨af,B,s⟩:=hz;match J,af with
    |P::ps,_=>
    have o:=UQ (P:=P) (ps:=ps);have E:=ax (P:=P) (ps:=ps);obtain⟨J,hpts⟩:∃q,P::ps=q:=⟨_,rfl⟩;have H:V1 (.lst (J.map vd)) (.int 0)=.ok (vd P):=N0 (by rw[Z7 (by decide),<-hpts];rfl);rw[hpts]at o E B s⊢;have c1:w5 (λd ρ=>R.ok (aCz ρ 0<|Sl.v d)) (λx=>R.ok true) (λρ=>(((tM 1 ρ).bind λx=>V1 x (D.int 0)).bind λd=>((V7 0 ρ).bind λd=>R.ok [d]).bind λm=>R.ok (d::m)).bind o6) [.no,.v (.lst (J.map vd))] (J.map vd)=.ok ((J.map (· -P)).map vd):=by rw[aBw];refine J8 vd _ _ λq I=>⟨[.v (vd q),Sl.v (.lst (J.map vd))],rfl,?_⟩;show((V1 (.lst (J.map vd))<|.int 0).bind _).bind _=_;rw[H];rfl
    have l:∀w∈J.map (· -P),Sz 301 w:=λw l=>by obtain⟨q,I,rfl⟩:=aAp.mp l;exact(B q I).sub (B P (by rw[<-hpts];exact .head _))
    have M9:J.length<=sizeLine:=aAr s (by decide);have O:(J.map (· -P)).length<=sizeLine:=by rw[aAf];exact M9
    generalize J.map (· -P)=W at*
    have c2:∀u∈W,∀v∈W,w5 (λd ρ=>R.ok (aCz ρ 0<|Sl.v d)) (λρ=>((((V7 1 ρ).bind λd=>((V7 0 ρ).bind λd=>R.ok [d]).bind λm=>R.ok (d::m)).bind j9).bind λx=>IC x (D.int 0)).bind jT) (V7 0) [.no,.v (vd<|G.cr u v)] (W.map vd)=.ok ((W.filter λw=>decide (G.c9 (G.cr u v) w≠0)).map vd):=λu e v t=>by refine K5 vd _ _ _ λw hW=>⟨[.v (vd w),Sl.v (vd<|G.cr u v)],rfl,?_,λ_=>rfl⟩;show((j9 [vd (G.cr u v),vd w]).bind _).bind _=_;rw[dM ((l u e).cr (l v t)).mono (l w hW).mono,R.aa0,OB];show R.ok _=_;congr 1;rw[aCV];simp
    simp[j6,i7,M9,c1,Q1];refine VX (x:=.lst (J.map vd)) vd (iy W) (λρ=>∃a b c,ρ=[.v (.lst (J.map vd)),.v (.lst (W.map vd)),a,b,c,.no,.no,.no]) ⟨_,_,_,rfl⟩ ?_ ?_ ?_
    .rintro u e ρ ⟨a,b,c,rfl⟩;simp[Q1];refine pB vd (fx W u) (λρ=>∃b c,ρ=[.v (.lst (J.map vd)),.v (.lst (W.map vd)),.v (vd u),b,c,.no,.no,.no]) ?_ W _ ⟨_,_,rfl⟩ ?_
     .rintro ρ ⟨b,c,rfl⟩;exact⟨_,_,_,rfl⟩
     .rintro v t ρ ⟨b,c,rfl⟩;have C:=bU (l u e).mono (l v t).mono;have Q:=c2 u e v t;have c4:((W.filter λw=>decide (G.c9 (G.cr u v) w≠0)).map vd)=((W.filter λw=>decide (G.c9 (G.cr u v) w≠0)).map vd):=rfl;have T:(!(W.filter λw=>decide (G.c9 (G.cr u v) w≠0)).isEmpty)=true↔∃w∈W,G.c9 (G.cr u v) w≠0:=by rw[Bool.not_eq_true',<-Bool.not_eq_true,List.isEmpty_iff,List.filter_eq_nil_iff];simp
      have y:=XB (W.filter λw=>decide (G.c9 (G.cr u v) w≠0));unfold fx;rw[<-T];clear T c4;generalize(W.filter λw=>decide (G.c9 (G.cr u v) w≠0))=L at*
      generalize G.cr u v=X at*
      have p:=ne0 X;by_cases r:X=0
      .refine .inr ⟨λz=>z.1 r,[.v (.lst (J.map vd)),.v (.lst (W.map vd)),.v (vd u),.v (vd v),.v (vd X),.no,.no,.no],?_,_,_,rfl⟩;simp only[r,decide_true,aDa]at p;simp[-mJ,C,r,p,jT]
      .simp only[r,decide_false,Bool.not_false]at p;cases U:L.isEmpty with
       |true=>rw[U]at y;refine .inr ⟨λz=>by simp at z,[.v (.lst (J.map vd)),.v (.lst (W.map vd)),.v (vd u),.v (vd v),.v (vd X),.no,.no,.no],?_,_,_,rfl⟩;simp[-mJ,C,p,jT,Q1,O,Q,y,seen]
       |false=>rw[U]at y;refine .inl ⟨⟨r,rfl⟩,?_⟩;simp[-mJ,C,p,jT,Q1,O,Q,y,seen]
    .intro q;rw[o q]
    .rintro q ρ ⟨a,b,c,rfl⟩;rw[E q];have Y:(J.map vd).length+3<=sizeLine:=by rw[aAf];exact aAr (Nat.add_le_add_right s 3) (by decide)
     rw[aAf]at Y;have s3:3<=sizeLine:=by decide
     simp[H,DF,bO,E8,fJ,eM,lU,eS,s3,Y]
   .exact absurd h (by simp)
  .exact absurd h (by simp)
def bK (g:cF K mg "_law_slants" T4):u8 P w K mg base 1 "_law_slants" 1 Y4:=by
 refine' m6 (k:=0) (F:=_) g pQ (λY J cg p=>?b) λL d hl h=>?_
 case b=>
  refine' (b9 (j2 1 (S9<|f8 (c5 x8 (PD.pb<|c5 v5 (PD.pb<|c5 u4 (b8 0) w6) w6) w6)<|f8 (c5 x8 (PD.pb<|c5 v5 (PD.pb<|c5 u4 (b8 0) w6) w6) w6)<|f8 (c5 x8 (PD.pb<|c5 v5 (PD.pb<|c5 u4 (b8 0) w6) w6) w6) o7) p)
   (b9 (y6 (k9 (K9 J) (PD.pb<|c5 v5 (b8 0) w6) w6) (d4<|bP 1 ["number"] [] [] p rfl (G5 (sc:=c7 T4) (N:=iD)) (u5<|c6 1) (LW λ_ _ _ _ _=>(c5 n4 (b8 0) w6))<|λ_=>t6) o5)
   (b9 (j2 2 (c5 x8 (PD.pb<|c5 v5 (PD.pb<|c5 n4 (PD.pb<|c5 u4 (b8 0) w6) w6)<|PD.pb<|c5 l7 (PD.pb<|c5 n4 w6<|PD.pb<|c5 jL w6 w6) w6)<|PD.pb<|c5 jL w6 w6) p)
   (d4<|j1<|c5 l7 (b8 1)<|PD.pb<|S9<|f8 (c6 2)<|f8 (c5 x8 w6<|PD.pb<|c5 u4 (b8 2) w6)<|f8 (c5 v5 (PD.pb<|c5 u4 (b8 0) w6) w6)<|f8 (c5 v5 (PD.pb<|c5 u4 (b8 0) w6) w6) o7))))
 match L,h with
 |[.int t],h=>
  simp only[Y4]at h;split at h
  .rename_i O;rw[<-h];have e:JC (.int 10) (.int 20)=.ok (.int 100000000000000000000):=(yN ⟨by decide,by decide,by decide⟩).trans (by rfl);have f:P8 (.int 2) (.int 100000000000000000000)=.ok (.int 200000000000000000000):=(i8 (n6.of (show bits 2<=80 by decide) (show bits 100000000000000000000<=80 by decide))).trans (by rfl);have l:∀{x w:Int},0<w->O9 (.int x) (.int w)=.ok (.int (x.fmod w)):=λQ=>U0 Q;have c:∀{x w:Int},0<w->bits w<=80->L0 (.int x) (.int w)=.ok (.int (x.fdiv w)):=λw0 T=>Y6 ⟨by lia,y3 T⟩;have q:L0 (.int t) (.int 3)=.ok (.int (t.fdiv 3)):=c (by decide) (by decide);have m:L0 (.int t) (.int 21)=.ok (.int (t.fdiv 21)):=c (by decide) (by decide);have a:L0 (.int t) (.int 147)=.ok (.int (t.fdiv 147)):=c (by decide) (by decide);have r:L0 (.int t) (.int 9)=.ok (.int (t.fdiv 9)):=c (by decide) (by decide);have s:L0 (.int t) (.int 1029)=.ok (.int (t.fdiv 1029)):=c (by decide) (by decide);have u:L0 (.int (yU t)) (.int 7)=.ok (.int ((yU t).fdiv 7)):=c (by decide) (by decide);have U:bits (t.fdiv 1029)<=3000000:=bits_fdiv O;have v:P8 (.int (t.fdiv 1029)) (.int 271828182845904523536)=.ok (.int (t.fdiv 1029*271828182845904523536)):=i8 (n6.of U (show bits 271828182845904523536<=80 by decide));have y:∀x:Int,O9 (.int x) (.int 7)=.ok (.int (x.fmod 7)):=λx=>l (by decide);have z:∀x:Int,O9 (.int x) (.int 3)=.ok (.int (x.fmod 3)):=λx=>l (by decide);have o:∀x:Int,O9 (.int x) (.int 50)=.ok (.int (x.fmod 50)):=λx=>l (by decide);have A:∀x:Int,O9 (.int x) (.int 2)=.ok (.int (x.fmod 2)):=λx=>l (by decide);have B:∀x:Int,O9 (.int x) (.int 200000000000000000001)=.ok (.int (x.fmod 200000000000000000001)):=λx=>l (by decide);have C:(t.fdiv 1029*271828182845904523536).fmod 200000000000000000001-100000000000000000000=yU t:=rfl;have E:∀k:Int,(t.fdiv k).fmod 7-3=s7 t k:=λk=>rfl;have H:∀k:Int,P8 (.int (s7 t k)) (.int 7654321)=.ok (.int (s7 t k*7654321)):=λk=>by exact i8 (n6.of (bits_sub (n:=80) (bits_fmod (by decide) (by decide)) (by decide)) (show bits 7654321<=80 by decide))
   by_cases I:t.fmod 3=2
   .simp[j6,e,f,q,m,a,r,s,u,v,y,z,o,A,B,C,E,H,I,XO,PN,sizeLine,lU,eS,i7]
   .simp[j6,e,f,q,m,a,r,s,u,v,y,z,o,A,B,C,E,H,I,XO,PN,sizeLine,lU,eS,i7]
  .exact absurd h (by simp)
def Z0 (g:cF K mg "_law_slanted" Z8):u8 P w K mg base 1 "_law_slanted" 2 M5:=by
 refine' m6 (k:=0) (F:=_) g nP (λhr T cg o=>?b) λU d hl h=>?_
 case b=>
  refine' (b9 (oO (c6 0)<|aM (n:=3) rfl<|t4 (k5 2 o)<|t4 (k5 3 o)<|t4 (k5 4 o) U9)
   (b9 (j2 2 (c5 l7 (b8 2)<|PD.pb<|c5 n4 (PD.pb<|f9 (b8 1) d5)<|b8 3) o)
   (b9 (j2 3 (c5 l7 (b8 3)<|PD.pb<|c5 n4 (PD.pb<|f9 (b8 1) d5)<|b8 4) o)
   (b9 (j2 4 (c5 l7 (b8 4)<|PD.pb<|c5 n4 (PD.pb<|f9 (b8 1) d5)<|b8 2) o)
   (b9 (y6 (k9 (K9 T) (PD.pb<|f9 (b8 1) d5) w6) (d4<|QO 2 3 rfl o<|f8 (c6 3)<|f8 (c6 2) o7) o5)
   (d4<|j1<|DS (c5 l7 (b8 2)<|PD.pb<|f9 (b8 1) d5) (c5 l7 (b8 3)<|PD.pb<|f9 (b8 1) d5)<|c5 l7 (b8 4)<|PD.pb<|f9 (b8 1) d5))))))
 match U,h with
 |[p,.lst xs],h=>
  simp only[M5]at h;split at h
  .rename_i P l Y e2;rw[uV Y,pL e2];split at h
   .rename_i r;rw[<-h];obtain⟨⟨t,q⟩,hP⟩:=r;match l,t,q with
    |[a,b,c,f,m,e,s],_,q=>
     obtain⟨x,y,z⟩:=P;obtain⟨hx,u,r⟩:=hP;have v:bits a<=100:=q a (by simp);have jf:bits b<=100:=q b (by simp);have hc:bits c<=100:=q c (by simp);have A:P8 (.int a) (.int y)=.ok (.int (a*y)):=i8 (n6.of v u);have B:P8 (.int b) (.int z)=.ok (.int (b*z)):=i8 (n6.of jf r);have C:P8 (.int c) (.int (x+a*y))=.ok (.int (c*(x+a*y))):=i8 (n6.of hc<|bits_add (y3 (n:=600) hx)<|bits_mul v u);have E:V1 (.lst [.int a,.int b,.int c,.int f,.int m,.int e,.int s]) (.int 0)=.ok (.int a):=N0 rfl;have H:V1 (.lst [.int a,.int b,.int c,.int f,.int m,.int e,.int s]) (.int 1)=.ok (.int b):=N0 rfl;have I:V1 (.lst [.int a,.int b,.int c,.int f,.int m,.int e,.int s]) (.int 2)=.ok (.int c):=N0 rfl;have J:V1 (.lst [.int a,.int b,.int c,.int f,.int m,.int e,.int s]) (.int 3)=.ok (.int f):=N0 rfl;have L:V1 (.lst [.int a,.int b,.int c,.int f,.int m,.int e,.int s]) (.int 4)=.ok (.int m):=N0 rfl;have N:V1 (.lst [.int a,.int b,.int c,.int f,.int m,.int e,.int s]) (.int 5)=.ok (.int e):=N0 rfl;have O:V1 (.lst [.int a,.int b,.int c,.int f,.int m,.int e,.int s]) (.int 6)=.ok (.int s):=N0 rfl;by_cases Q:s=1
     .subst Q;simp[j6,vd,PN,A,B,C,E,H,I,J,L,N,O,zJ,G.Sl.put,eM,sizeLine,DF,bO,E8,fJ]
     .simp[j6,vd,PN,A,B,C,E,H,I,J,L,N,O,zJ,G.Sl.put,eM,sizeLine,DF,bO,E8,fJ,Q]
   .exact absurd h (by simp)
  .exact absurd h (by simp)
def fA (dD:u8 P w K mg base 2 "_law_solid" 1 eU)(aV:u8 P w K mg base 2 "_law_points" 2 gE)(t9:u8 P w K mg base 1 "_law_cell" 2 Y0)(Z0:u8 P w K mg base 1 "_law_slanted" 2 M5)(bK:u8 P w K mg base 1 "_law_slants" 1 Y4)(g:cF K mg "_law_land" aK):u8 P w K mg base 3 "_law_land" 2 oP:=by
 refine' m6 (k:=2) (F:=_) g wX (λf J cg n=>?b) λl d o h=>?_
 case b=>
  refine' (b9 (j2 2 (sZ dD f<|R6 aV f (c6 0)<|c6 1) n)
   (b9 (j2 3 (c5 u4 (PD.pb<|R6 t9 f (c6 0) d5) w6) n)
   (b9 (y6 (k9 (K9 J) (PD.pb<|c5 v5 (b8 3) w6) w6) (d4<|j1<|c6 2) o5)
   (d4<|j1<|N7 ["point"] ["cell"] [3] rfl (G5 (sc:=c7 aK) (N:=mX)) (u5<|c6 2) (LW λ_ _ _ _ _=>(R6 Z0 f (c6 0)<|sZ bK f<|c6 1))<|λ_=>t6))))
 match l,h with
 |[.lst e,.int a],h=>
  simp only[oP]at h;split at h
  .rename_i L;rw[<-h];obtain⟨m,o,r,s⟩:=L;obtain⟨t,O⟩:=qO m 1 (by decide) (by decide);obtain⟨u,y,p3⟩:=QY m r s;have ne:iQ e a≠[]:=λz=>by rw[z]at y;simp at y
   have A:=DU m o r s;have B:=KS ne (λp Q=>(u p Q).mono) (by lia);have E:L0 (.int (cJ e 1)) (.int 5)=.ok (.int ((cJ e 1).fdiv 5)):=bY (by decide) (by decide);have H:O9 (.int ((cJ e 1).fdiv 5)) (.int 3)=.ok (.int (((cJ e 1).fdiv 5).fmod 3)):=U0 (by decide);have T:=DE (c:=(cJ e 1).fdiv 5) (bits_fdiv<|y3 O);have U:=QP ((cJ e 1).fdiv 5);obtain⟨Y,q2⟩:=PC u;have ql:(gN<|iQ e a).length<=sizeLine:=aAr (show(gN<|iQ e a).length<=40 by lia) (by decide);unfold nI;generalize(cJ e 1).fdiv 5=C at*
   generalize gN (iQ e a)=S at*
   by_cases I:C.fmod 3=0
   .simp-implicitDefEqProofs [j6,t,A,B,E,H,I]
   .have cm:w5 (λd ρ=>R.ok (aCz ρ 0<|Sl.v d)) (λx=>R.ok true) (λρ=>((V7 0 ρ).bind λd=>((((V7 1 ρ).bind λd=>R.ok [d]).bind Y4).bind λd=>R.ok [d]).bind λl=>R.ok (d::l)).bind M5) [.no,.v (.int C)] (S.map vd)=.ok ((S.map (zJ<|XO C).put).map vd):=by rw[aBw];refine J8 vd _ _ λq hq=>⟨[.v (vd q),Sl.v (.int C)],rfl,?_⟩;have:=AI (P:=q) U ((Y q hq).mono);simp only[D7,Q7,R.aa0,T,this];rfl
    simp-implicitDefEqProofs [j6,t,A,B,E,H,I,Q1,ql,i7,cm]
  .exact absurd h (by simp)
def X5 (v6:u8 P w K mg base 1 "_law_product" 2 j9)(uc:mg "abs"=none)(gu:mg "tuple"=none)(g:cF K mg "_law_plane" W7):u8 P w K mg base 2 "_law_plane" 2 kJ:=by
 refine' m6 (k:=1) (F:=_) g sQ (λhr hu cg s=>?b) λI d hl h=>?_
 case b=>
  refine' (b9 (j2 2 d5 s)
   (b9 (F1 aAR rfl (oK<|c6 0) (k5 3 s) (b9 (j2 4 (CC OU<|b8 3) s)
   (d4<|gG (XR 4) aAR (k9 qX (b8 4) w6)<|d4<|oO (HH (c6 4)<|c5 v5 (b8 2)<|b8 4)<|aM (n:=2) rfl<|t4 (k5 2 s)<|t4 (k5 4 s) U9)))
   (b9 (j2 0 (N4 qG<|o9 (PD.pb<|N7 ["number"] ["one"] [2] rfl (G5 (sc:=c7 W7) (N:=kM)) (oK<|c6 0) (LW λ_ _ _ _ _=>(c5 u4 (b8 0)<|b8 1))<|λ_=>t6) w8) s)
   (d4<|j1<|c5 l7 (b8 0)<|PD.pb<|xO<|f8 (R6 v6 hr (c6 0)<|c6 1) o7))))
 replace h:=C8 h;obtain⟨a,b,c,I,rfl,h⟩:=h;replace h:=C8 h;obtain⟨d,e,f,I,rfl,h⟩:=h;replace h:=A6 h;obtain⟨rfl,h⟩:=h;split at h
 .rename_i hz;obtain⟨U,A,Y⟩:=hz;rw[<-h];obtain⟨C,J⟩:∃P:G.V,P=⟨a,b,c⟩:=⟨_,rfl⟩;obtain⟨B,L⟩:∃P:G.V,P=⟨d,e,f⟩:=⟨_,rfl⟩;rw[<-J]at U A;rw[<-L]at Y;have vC:(.tup [.int a,.int b,.int c]:D)=vd C:=by rw[J]
  have vP:(.tup [.int d,.int e,.int f]:D)=vd B:=by rw[L]
  rw[vC,vP,<-J,<-L];obtain⟨g0,g1,g2⟩:=G.gI U;have O:((G.t7 C:Nat):Int)≠0:=by lia
  have gb:uA ((G.t7 C:Nat):Int):=⟨O,y3 (tO A)⟩;simp only[j6,aAu,aDS,aBb,aCX];simp only[D7,F3,R.aa0,uI,B7,aAt,aBm,aEA,aEB,aDd,aDe,aAI,aAJ];refine fQ (λrest ρ=>∃(g:Nat) (n r:Sl),ρ=[.v (vd C),.v (vd B),.v (.int g),n,r]/\∃l:List Int,rest=l.map D.int/\l.foldl (λg n=>aGi g n.natAbs) g=G.t7 C) ?_ ⟨0,_,_,rfl,[C.x,C.y,C.z],rfl,by simp[G.t7]⟩ ?_
  .rintro d I ρ ⟨g,n,r,rfl,l,E,o⟩;match l,E,o with
   |x::l,E,o=>
    injection E with e3 e4;subst e3 e4;simp only[R1,aAI,aAJ,p8,v8,D2,G9,R.aa0,NG,B7];have ea:(if x<0 then-x else x)=(x.natAbs:Int):=by split<;>lia
    rw[ea];refine qI (λm ρ=>∃(p q:Nat),ρ=[.v (vd C),.v (vd B),.v (.int p),.v (.int x),.v (.int q)]/\q<m/\aGi p q=aGi g x.natAbs) ?_ (by rintro ρ ⟨p,q,_,h,_⟩;lia) ⟨g,x.natAbs,rfl,by show x.natAbs<((x.natAbs:Int).natAbs)+2;lia,rfl⟩ ?_
    .rintro m ρ ⟨p,q,rfl,hq,Q⟩;by_cases H:(q:Int)=0
     .exact .inl (by simp[H])
     .have h1:q≠0:=by lia
      refine .inr ⟨by simp;lia,_,?_,q,p%q,rfl,?_,?_⟩
      .have em:O9 (.int (p:Int)) (.int (q:Int))=.ok (.int ((p%q:Nat):Int)):=by rw[pK H,aDB _ (by lia)];rfl
       simp[em,DF,bO,E8,fJ,eM,sizeLine]
      .have:=aDP p (show 0<q by lia)
       lia
      .rw[aFS,<-Nat.gcd_rec,aFS];exact Q
    .rintro m ρ ⟨p,q,rfl,hq,Q⟩ hc;have H:q=0:=by
      by_cases z:q=0
      .exact z
      .simp at hc;lia
     subst H;refine⟨p,_,_,rfl,l,rfl,?_⟩;rw[<-o,aDs,<-Q,Nat.gcd_zero_right]
  .rintro ρ ⟨g,n,r,rfl,l,E,o⟩;have:l=[]:=by simpa using E.symm
   subst this;have o:g=G.t7 C:=o;subst o;have sn:Sz 2003 (G.eN C<|G.t7 C):=by have f1:=bits_fdiv (b:=(G.t7 C:Int)) A.1;have f2:=bits_fdiv (b:=(G.t7 C:Int)) A.2.1;have f3:=bits_fdiv (b:=(G.t7 C:Int)) A.2.2;rw[fO g0]at f1 f2 f3;exact⟨f1,f2,f3⟩
   have d1:∀t:Int,L0 (.int t) (.int (G.t7 C:Nat))=.ok (.int (t/(G.t7 C:Nat))):=λt=>by rw[Y6 gb,fO g0]
   have p2:=dM (u:=G.eN C (G.t7 C)) (v:=B) sn.mono Y.mono;have T:j9 [.tup [.int (C.x/(G.t7 C:Nat)),.int (C.y/(G.t7 C:Nat)),.int (C.z/(G.t7 C:Nat))],vd B]=_:=p2;have s4:4<=sizeLine:=by decide
   have s3:3<=sizeLine:=by decide
   have s1:1<=sizeLine:=by decide
   simp[d1,i7,T,vZ,eM,eS,s4,s3,s1,bL,WF,G.eN]
 .cases h
def M1 (O8:u8 P w K mg base 1 "_law_cross" 2 x9)(M8:u8 P w K mg base 1 "_law_way" 2 o6)(v6:u8 P w K mg base 1 "_law_product" 2 j9)(X5:u8 P w K mg base 2 "_law_plane" 2 kJ)(ai:mg "sorted"=none)(ji:mg "set"=none)(dh:mg "range"=none)(br:mg "len"=none)(ud:mg "min"=none)(b_max:mg "max"=none)(gu:mg "tuple"=none)(g:cF K mg "_law_planes" L4):u8 P w K mg base 8 "_law_planes" 1 cA:=by
 refine' m6 (k:=7) (F:=_) g pR (λm hu cg p=>?b) λds d hl h=>?_
 case b=>
  have qm:=m.ac6 (by decide);refine' (b9 (j2 1 (PF.pd<|W9 (b8 0) rfl qm) p)
   (b9 (AW 2 p)
   (b9 (F1 aAR rfl (S1<|o9 (PD.pb<|CC Q9<|b8 1) w8) (k5 3 p) (d4 (F1 aAR rfl (S1<|o9 (PD.pb<|c5 l7 (b8 3) w6)<|o9 (PD.pb<|CC Q9<|b8 1) w8) (k5 4 p) (d4 (F1 aAR rfl (S1<|o9 (PD.pb<|c5 l7 (b8 4) w6)<|o9 (PD.pb<|CC Q9<|b8 1) w8) (k5 5 p) (b9 (j2 6 (R6 O8 m (R6 M8 m (f9 (b8 1)<|c6 3)<|f9 (b8 1)<|c6 4)<|R6 M8 m (f9 (b8 1)<|c6 3)<|f9 (b8 1)<|c6 5) p)
   (b9 (bP 7 ["one"] ["crossed", "some", "i"] [6,1,3] p rfl (G5 (sc:=c7 L4) (N:=bF)) (u5<|c6 1) (LW λ_ _ _ _ _=>(R6 v6 m (c6 1)<|R6 M8 m (f9 (b8 2)<|c6 3)<|c6 0))<|λ_=>t6)
   (b9 (y6 (EM.pt<|oR (k9 (K9 hu) (PD.pb<|bN (GE rfl)<|o9 (b8 7) w8) w6)<|jU<|k9 zE (PD.pb<|bN (GZ rfl)<|o9 (b8 7) w8) w6) (d4<|jC 2 kU (R6 X5 m (c6 6)<|f9 (b8 1)<|c6 3) cg) o5)
   (d4<|y6 (EM.pt<|oR (k9 (K9 hu) (PD.pb<|bN (GZ rfl)<|o9 (b8 7) w8) w6)<|jU<|k9 qX (PD.pb<|bN (GE rfl)<|o9 (b8 7) w8) w6) (d4<|jC 2 kU (R6 X5 m (N4 qG<|o9 (PD.pb<|N7 ["number"] [] [] rfl (G5 (sc:=c7 L4) (N:=bF)) (oK<|c6 6) (LW λ_ _ _ _ _=>(c5 x8 w6<|b8 0))<|λ_=>t6) w8)<|f9 (b8 1)<|c6 3) cg) o5)))))))))
   (d4<|j1<|PF.pd<|EO 2 rfl qm))))
 replace h:=wH h;obtain⟨J,ds,rfl,h⟩:=h;replace h:=A6 h;obtain⟨rfl,h⟩:=h;replace h:=DO h;obtain⟨⟨h1,Q⟩,rfl⟩:=h;have SS:=HB (J:=J) (by lia);have s:=l5 J;have sz:∀X∈c8 J,Sz 900 X:=λX hX=>h1.1 X (j4.mp hX);have PS:=λU=>DM (U:=U) h1 Q;generalize c8 J=S at*
 have hS1:S.length<=sizeLine:=aAr Q (by decide);have r1:=QZ (n:=S.length) (by lia);have r2:∀i:Nat,i<S.length->gK [.int ((i:Int)+1),.int (S.length:Int)]=.ok (cD (i+1)<|S.length-(i+1)):=λi T=>a2x (a:=i+1) (b:=S.length) (by lia) (by lia);simp-implicitDefEqProofs [j6,SS,r1];refine HA (pv1 (.lst (J.map vd)) S) ?_ ⟨[],_,_,_,_,_,rfl,⟨⟨.nil,λz=>absurd rfl z⟩,λx hx=>by cases hx⟩,λi' j' k' _ _ l=>by lia⟩ ?_
 .rintro i _ T ρ ⟨U,a3,Y,H,I,t,rfl,K,Dn⟩;have T:i<S.length:=by lia
  obtain⟨A,eA⟩:∃A,S[i]?=some A:=⟨S[i],aAd T⟩;have e:=aAo eA;simp-implicitDefEqProofs [r2 i T];refine OL (pv2 (.lst (J.map vd)) S i) ?_ ⟨U,_,_,_,_,rfl,K,Dn.j0⟩ ?_
  .rintro j _ hj ρ ⟨U,Y,H,I,t,rfl,K,Dn⟩;have hj:j<S.length:=by lia
   obtain⟨B,eB⟩:∃A,S[j]?=some A:=⟨S[j],aAd hj⟩;have hB:=aAo eB;simp-implicitDefEqProofs [r2 j hj];refine OL (pv3 (.lst (J.map vd)) S i j) ?_ ⟨U,_,_,_,rfl,K,Dn.k0⟩ ?_
   .rintro k _ hk ρ ⟨U,H,I,t,rfl,K,Dn⟩;have hk:k<S.length:=by lia
    obtain⟨C,eC⟩:∃A,S[k]?=some A:=⟨S[k],aAd hk⟩;have hC:=aAo eC;obtain⟨K2,sub,cu,cd⟩:=qy e hB hC K;refine⟨[.v (.lst (J.map vd)),.v (.lst (S.map vd)),.d (VW S U A B C),.v (.int (i:Int)),.v (.int (j:Int)),.v (.int (k:Int)),.v (vd<|G.cr (B-A)<|C-A),.v (.lst ((bW S (G.cr (B-A)<|C-A) A).map D.int))],?_,_,_,_,_,rfl,K2,Dn.step sub λA' B' C' x1 x2 x3=>by rw[eA]at x1;rw[eB]at x2;rw[eC]at x3;cases x1;cases x2;cases x3;exact⟨cu,cd⟩⟩
    have few:=K.few s Q;have o:=(RT e hB hC K).1.few s Q;have iA:=pT eA;have iB:=pT eB;have iC:=pT eC;have zB:=(sz B hB).sub (sz A e);have zC:=(sz C hC).sub (sz A e);have cc:=bU zB.mono zC.mono;have sc:Sz 2003 (G.cr (B-A)<|C-A):=(zB.cr zC).mono;have up:G.Up S A B C↔_:=(IP e).1;have dn:G.Dn S A B C↔_:=(IP e).2;have nt:=RI A B C;have pu:=λz=>vU (c:=G.cr (B-A) (C-A)) z sc (sz A e).mono;rw[kO]at pu;have pd:=λz=>vU (c:=G.cr (C-A) (B-A)) z ((zC.cr zB).mono) (sz A e).mono;rw[kO,<-nt]at pd;obtain⟨L,O⟩:=WL (S:=S) (c:=G.cr (B-A) (C-A)) (A:=A) (λz=>by rw[z]at e;cases e);have cne:∀{c X:G.V},G.c9 c X≠0->c≠0:=λ{c X} q z=>q (by rw[z];simp[G.c9]);have dd:=λ(f:G.V×Int) (r:Ev)=>HY (f:=f) (v:=.bl true) (a:=Sl.v (.lst (J.map vd))) (b:=Sl.v (.lst (S.map vd))) (r:=r) few;have dd1:=λ(f:G.V×Int) (r:Ev)=>HY (f:=f) (v:=.bl true) (a:=Sl.v (.lst (J.map vd))) (b:=Sl.v (.lst (S.map vd))) (r:=r) o;have xb:G.Up S A B C->G.cr (B-A) (C-A)≠0:=λ⟨_,X,_,l⟩=>cne (X:=X-A) (by lia);have hd0:G.Dn S A B C->(⟨0-(G.cr (B-A)<|C-A).x,0-(G.cr (B-A)<|C-A).y,0-(G.cr (B-A)<|C-A).z⟩:G.V)≠0:=λv=>by rw[nt];obtain⟨_,X,_,l⟩:=G.BC.mp v;exact cne (X:=X-A) (by lia)
    have e1:G.Up S A B C->QK S U A B C=aH U (bL<|G.d6 A B C) (.bl true):=λu=>i6 u;have e2:¬G.Up S A B C->QK S U A B C=U:=λu=>ja u;have f1:G.Dn S A B C->VW S U A B C=aH (QK S U A B C) (bL<|G.d6 A C B) (.bl true):=λu=>i6 u;have f2:¬G.Dn S A B C->VW S U A B C=QK S U A B C:=λu=>ja u;have pq:=λq hq=>dM sc.mono ((sz q hq).sub (sz A e)).mono;clear cu cd sub Dn K2 nt few o cne K zB zC sc sz;generalize rX (bW S (G.cr (B-A)<|C-A) A)=M at*
    generalize sJ (bW S (G.cr (B-A)<|C-A) A)=mm at*
    obtain⟨W,eW⟩:∃W,(bW S (G.cr (B-A)<|C-A) A).map D.int=W:=⟨_,rfl⟩;rw[eW]at L O⊢;unfold bW at eW;generalize G.cr (B-A) (C-A)=c at*
    generalize VW S U A B C=k2 at*
    generalize QK S U A B C=k1 at*
    simp only[R1,aAI,aAJ];refine SX (ρ:=[.v (.lst (J.map vd)),.v (.lst (S.map vd)),.d U,.v (.int (i:Int)),.v (.int (j:Int)),.v (.int (k:Int)),.v (vd c),t]) (by simp[iA,iB,iC,cc]) ?_;refine SX (ρ:=[.v (.lst (J.map vd)),.v (.lst (S.map vd)),.d U,.v (.int (i:Int)),.v (.int (j:Int)),.v (.int (k:Int)),.v (vd c),.v (.lst W)]) ?_ ?_
    .simp-implicitDefEqProofs [i7,hS1];rw[yZ vd D.int (λX=>G.c9 c (X-A)) S ?h,eW]
     case h=>intro q hq;refine⟨[.v (vd q),.v (vd c),.v (.lst (S.map vd)),.v (.int (i:Int))],rfl,?_⟩;simp only[Q7,D7,D2,G9,R.aa0,iA,RA];exact pq q hq
     rfl
    clear iB iC cc pq eW;refine SX (ρ:=[.v (.lst (J.map vd)),.v (.lst (S.map vd)),.d k1,.v (.int (i:Int)),.v (.int (j:Int)),.v (.int (k:Int)),.v (vd c),.v (.lst W)]) ?_ ?_
    .by_cases u:G.Up S A B C
     .rw[e1 u];simp[L,O,up.mp u,iA,pu (xb u),dd]
     .rw[e2 u];by_cases E:M=0
      .have q2:¬mm<0:=λz=>u (up.mpr ⟨E,z⟩);simp[L,O,E,q2]
      .simp[L,E]
    .clear e1 e2 pu xb up dd;by_cases v:G.Dn S A B C
     .rw[f1 v];have pd:=pd (hd0 v);simp only[Int.zero_sub]at pd;have pd:kJ [D.tup [D.int (-c.x),D.int (-c.y),D.int (-c.z)],vd A]=_:=pd;have s3:3<=sizeLine:=by decide
      have t3:∀a b c:D,vZ [.lst [a,b,c]]=.ok (.tup [a,b,c]):=λ_ _ _=>rfl;simp[L,O,dn.mp v,iA,i7,s3,t3,pd,dd1]
     .rw[f2 v];by_cases E:mm=0
      .have q2:¬0<M:=λz=>v (dn.mpr ⟨E,z⟩);simp[L,O,E,q2]
      .simp[O,E]
   .rintro ρ ⟨U,H,I,t,rfl,K,Dn⟩;rw[show j+1+(S.length-(j+1))=S.length by lia]at Dn;exact⟨U,_,_,_,_,rfl,K,Dn.j⟩
  .rintro ρ ⟨U,Y,H,I,t,rfl,K,Dn⟩;rw[show i+1+(S.length-(i+1))=S.length by lia]at Dn;exact⟨U,_,_,_,_,_,rfl,K,Dn.i⟩
 .rintro ρ ⟨U,a3,Y,H,I,t,rfl,K,Dn⟩;rw[aDO]at Dn;have few:=K.few s Q;have ps:=PS U K Dn;have pt:(U.map (·.1)).all Y5=true:=aBu.mpr λd hd=>by obtain⟨f,rfl,_⟩:=K.2 d hd;rfl
  have sd:sdR 2 [.v (.lst (J.map vd)),.v (.lst (S.map vd)),.d U,a3,Y,H,I,t]=.ok (F9<|Q4 U):=i6 ⟨pt,few⟩;rw[sd,ps];rfl
def mC (v6:u8 P w K mg base 1 "_law_product" 2 j9)(g:cF K mg "_law_on" mS):u8 P w K mg base 2 "_law_on" 2 uM:=by
 refine' m6 (k:=1) (F:=_) g EZ (λn o s t=>?b) λl d u h=>?_
 case b=>refine' (d4<|j1<|jB (K9 o) (PD.pb<|R6 v6 n (c6 0)<|c6 1)<|PD.pb<|f9 (b8 0) d5)
 replace h:=MC h;obtain⟨a,b,c,e,l,rfl,h⟩:=h;replace h:=C8 h;obtain⟨x,y,z,l,rfl,h⟩:=h;replace h:=A6 h;obtain⟨rfl,h⟩:=h;split at h
 .rename_i m;rw[<-h];have p:j9 [.tup [.int a,.int b,.int c,.int e],.tup [.int x,.int y,.int z]]=_:=RN (f:=(⟨a,b,c⟩,e)) m.1 m.2;generalize G.c9 _ _=q at*
  have r:V1 (.tup [.int a,.int b,.int c,.int e]) (.int 3)=.ok (.int e):=rfl;simp-implicitDefEqProofs [j6,p,r];rfl
 .cases h
def aF (mC:u8 P w K mg base 2 "_law_on" 2 uM)(H:mg "len"=none)(I:mg "sorted"=none)(L:mg "set"=none)(g:cF K mg "_law_corners" P4):u8 P w K mg base 8 "_law_corners" 2 aD:=by
 refine' m6 (k:=7) (F:=_) g oA (λp O Q T=>?b) λa d U h=>?_
 case b=>have t:=p.ac6 (by decide);refine' (d4<|j1<|N7 ["one"] ["planes"] [1] rfl (G5 (sc:=c7 P4) (N:=fT)) (u5<|PF.pd<|W9 (b8 0) rfl t) (hxt λ_ _ _ _ _=>⟨(k9 qX (PD.pb<|CC Q9<|PD.pb<|N7 ["plane"] ["one"] [0] rfl VZ (u5<|c6 1) (hxt λ_ _ _ _ _=>⟨(GG<|R6 mC p (c6 0)<|c6 1),(c6 0)⟩)<|λ_=>t6) w6),(c6 0)⟩)<|λ_=>t6)
 match a,h with
 |[.lst Y,.lst ys],h=>
  simp only[aD]at h;split at h
  .rename_i J u;rw[p5 u];split at h
   .rename_i y;rw[<-h];obtain⟨rfl,e,q,l⟩:=y;have z:=HB (J:=J) (by lia);have r:=kI e q l;obtain⟨s,af,m⟩:=vH e q l;have sz:∀X∈c8 J,Sz 900 X:=λX c=>e.1 X (j4.mp c);have n:∀f∈j5 (c8 J),Sz 2003 f.1:=λf o=>UC e ((s f).mp o);have A:(c8 J).length<=sizeLine:=aAr l (by decide);have B:(j5<|c8 J).length<=sizeLine:=aAr m (by decide);rw[<-r];clear r s;generalize j5 (c8 J)=fs at*
    generalize c8 J=S at*
    have C:∀X∈S,w5 (λd ρ=>R.ok (aCz ρ 0<|Sl.v d)) (λρ=>(((V7 0 ρ).bind λd=>((V7 1 ρ).bind λd=>R.ok [d]).bind λa=>R.ok (d::a)).bind uM).bind jT) (V7 0) [.no,.v (vd X)] (fs.map bL)=.ok ((LZ fs X).map bL):=λX c=>K5 bL (λf=>decide (G.c9 f.1 X=f.2)) bL fs λf o=>⟨[.v (bL f),.v (vd X)],rfl,by have:=ZJ (n f o) (sz X c).mono;show(uM [bL f,vd X]).bind jT=_;rw[this];rfl,λ_=>rfl⟩
    have E:w5 (λd ρ=>R.ok (aCz ρ 0<|Sl.v d)) (λρ=>((((((V7 1 ρ).bind Q1).bind λa=>if a.length<=sizeLine then(w5 (λd ρ=>R.ok (aCz ρ 0<|Sl.v d)) (λρ=>(((V7 0 ρ).bind λd=>((V7 1 ρ).bind λd=>R.ok [d]).bind λa=>R.ok (d::a)).bind uM).bind jT) (V7 0) (i7 [aCB "plane"] [0] ρ) a).bind λa=>R.ok (D.lst a)else R.bad).bind λd=>R.ok [d]).bind RK).bind λx=>ZV x (D.int 2)).bind jT) (V7 0) [.no,.v (.lst (aCy bL fs))] (S.map vd)=.ok ((S.filter λX=>decide (2<(LZ fs X).length)).map vd):=K5 vd (λX=>decide (2<(LZ fs X).length)) vd S λX c=>⟨[.v (vd X),Sl.v (D.lst<|aCy bL fs)],rfl,by
     have:=C X c;have gt:(decide ((2:Int)<((LZ fs X).length:Int)))=decide (2<(LZ fs X).length):=by rw[aCV];simp;lia
     simp-implicitDefEqProofs [i7,B,this];try lia,λ_=>rfl⟩
    simp-implicitDefEqProofs [j6,z,A];rw[show i7 [aCB "one"] [1] [.v (.lst (aCy vd J)),.v (.lst (aCy bL fs))]=[.no,.v (.lst (aCy bL fs))]from rfl,E];rfl
   .exact absurd h (by simp)
  .exact absurd h (by simp)
def X4 (f:mg "isinstance"=none)(l:mg "bool"=none)(g:cF K mg "_law_truth" cZ):u8 P w K mg base 1 "_law_truth" 2 jZ:=by
 refine' m6 (k:=0) (F:=_) g sG (λm e n o=>?b) λc d p h=>?_
 case b=>refine' (d4<|j1<|CK (ZG MU<|b8 0)<|PM<|jB (K9 e) (b8 0)<|b8 1)
 replace h:=YQ h;obtain⟨a,c,rfl,h⟩:=h;replace h:=YQ h;obtain⟨b,c,rfl,h⟩:=h;replace h:=A6 h;obtain⟨rfl,h⟩:=h;rw[<-h];cases a<;>cases b<;>rfl
def L8 (g:cF K mg "_law_middle" aR):u8 P w K mg base 1 "_law_middle" 2 mB:=by
 refine' m6 (k:=0) (F:=_) g qV (λn o p q=>?b) λl d r h=>?_
 case b=>refine' (d4<|j1<|DS (c5 u4 (PD.pb<|c5 l7 (PD.pb<|f9 (b8 0) d5)<|PD.pb<|f9 (b8 1) d5) w6) (c5 u4 (PD.pb<|c5 l7 (PD.pb<|f9 (b8 0) d5)<|PD.pb<|f9 (b8 1) d5) w6)<|c5 u4 (PD.pb<|c5 l7 (PD.pb<|f9 (b8 0) d5)<|PD.pb<|f9 (b8 1) d5) w6)
 replace h:=C8 h;obtain⟨a,b,c,l,rfl,h⟩:=h;replace h:=C8 h;obtain⟨d,e,f,l,rfl,h⟩:=h;replace h:=A6 h;obtain⟨rfl,h⟩:=h;rw[<-h];have m:∀x:Int,L0 (.int x) (.int 2)=.ok (.int (x.fdiv 2)):=λx=>bY (by decide) (by decide);simp[j6,SF,RZ,ME,m,eM,sizeLine,vd,yJ]
def Y8 (t9:u8 P w K mg base 1 "_law_cell" 2 Y0)(L8:u8 P w K mg base 1 "_law_middle" 2 mB)(ai:mg "sorted"=none)(dh:mg "range"=none)(br:mg "len"=none)(g:cF K mg "_law_changed" J2):u8 P w K mg base 8 "_law_changed" 2 iY:=by
 refine' m6 (k:=7) (F:=_) g nV (λf hu cg c=>?b) λds d hl h=>?_
 case b=>
  have qm:=f.ac6 (by decide);refine' (b9 (j2 2 (c5 l7 w6<|PD.pb<|c5 v5 (PD.pb<|c5 u4 (PD.pb<|R6 t9 f (c6 0) d5) w6) w6) c)
   (b9 (j2 3 (PF.pd<|pC (PD.pb<|N7 ["k"] ["key"] [2] rfl (G5 (sc:=c7 J2) (N:=Z9)) (S1<|o9 (PD.pb<|CC Q9<|b8 1) w8) (LW λ_ _ _ _ _=>(HH (c5 v5 (PD.pb<|c5 n4 (PD.pb<|c5 n4 (PD.pb<|c5 l7 (b8 0) w6)<|PD.pb<|c5 l7 (b8 0)<|b8 1) w6) w6)<|c6 0))<|λ_=>t6) rfl qm) c)
   (b9 (bP 4 ["number", "k"] ["points"] [1] c rfl (G5 (sc:=c7 J2) (N:=Z9)) (u5<|c6 3) (by rintro Y fp X2 ⟨s0,H1,C,rfl⟩;exact⟨(aM (n:=2) rfl (t4 (k5 0 (show(["number", "k", "points"]:List Str).Nodup by decide+kernel)) (t4 (k5 1 (show(["number", "k", "points"]:List Str).Nodup by decide+kernel)) U9))),yG,(f9 (b8 2)<|c6 1)⟩)<|λ_=>SR)
   (b9 (F1 aAR rfl (S1<|o9 (PD.pb<|c5 l7 w6<|PD.pb<|c5 v5 (PD.pb<|c5 u4 (PD.pb<|R6 t9 f (c6 0) d5) w6) w6) w8) (k5 5 c) (b9 (j2 6 (f9 (b8 1)<|c5 v5 (PD.pb<|R6 t9 f (c6 0)<|c5 l7 w6<|b8 5)<|PD.pb<|CC Q9<|b8 1) c)
   (b9 (j2 7 (f9 (b8 1)<|c5 v5 (PD.pb<|c5 u4 (PD.pb<|R6 t9 f (c6 0)<|c5 l7 w6<|b8 5) w6)<|PD.pb<|CC Q9<|b8 1) c)
   (b9 (j2 8 (c5 v5 (PD.pb<|R6 t9 f (c6 0)<|c5 l7 w6<|b8 5)<|PD.pb<|c5 l7 (PD.pb<|CC Q9<|b8 4) w6) c)
   (d4<|j2 4 (c5 l7 (PD.pb<|c5 l7 (PD.pb<|iF (b8 4) P6<|F8<|c6 8)<|PD.pb<|S9<|f8 (R6 L8 f (c6 6)<|c6 7)<|f8 (c6 6) o7)<|PD.pb<|iF (b8 4) (F8<|c6 8) P6) c)))))
   (d4<|j1<|c6 4)))))
 replace h:=jJ h;obtain⟨xs,ds,rfl,h⟩:=h;replace h:=wH h;obtain⟨J,ds,rfl,h⟩:=h;replace h:=A6 h;obtain⟨rfl,h⟩:=h;replace h:=DO h;obtain⟨⟨r,p,hl⟩,rfl⟩:=h;obtain⟨c0,b0⟩:=qO r 0 (by decide) (by decide);obtain⟨c1,b1⟩:=qO r 1 (by decide) (by decide);have s:=λ(j:Int) h0 h1=>(qO r j h0 h1).1;have l0:(0:Int)<J.length:=by
  have:J.length≠0:=λz=>p (aBD z)
  lia
 have t:∀{x w:Int},0<w->w<1000000000000000->L0 (.int x) (.int w)=.ok (.int (x.fdiv w)):=λu w1=>bY u w1;have m:∀{x w:Int},0<w->O9 (.int x) (.int w)=.ok (.int (x.fmod w)):=λu=>U0 u;have ad:∀x y:Int,eS (.int x) (.int y)=.ok (.int (x+y)):=λ_ _=>rfl;have kr:=S7 (a:=(cJ xs 0).fdiv 5) (b:=1000) (by decide);have r1:=QZ (n:=J.length) (by lia);have nl:(cD 0 J.length).length<=sizeLine:=by unfold cD;rw[aAf,List.length_range'];exact small (by lia)
 have sp:spR (.lst ((aAQ J.length).map (DV<|R0 xs)))=.ok (F9<|(aAQ J.length).map (DV<|R0 xs)):=i6 ⟨aBu.mpr (qZ _ _),LH _ _,by rw[aAf,List.length_range];lia⟩;have sl:(F9<|(aAQ J.length).map (DV<|R0 xs)).length<=sizeLine:=by have:=BN (xs:=xs) (J:=J);unfold kE at this;rw[aAf]at this;exact aAr this (small (by lia))
 have kb:1<=R0 xs/\R0 xs<=1000:=by unfold R0;lia
 simp only[j6,aAu,aDS,aBb,aCX,aAt,aBm,aEA,aEB,aDd,aDe];refine B5 (by simp-implicitDefEqProofs [c0,t,m,R0];rfl) ?_;refine B5 (ρ:=[.v (.lst xs),.v (.lst (J.map vd)),.v (.int (R0 xs)),.v (.lst (F9<|(aAQ J.length).map (DV<|R0 xs))),.no,.no,.no,.no,.no]) ?_ ?_
 .simp-implicitDefEqProofs only[p8,v8,D2,G9,R.aa0,iO,aAf,r1,i6 nl];unfold cD;rw[J8 (λ(k:Nat)=>D.int (k:Int)) (DV<|R0 xs) (List.range' 0 J.length) ?h,<-aGb]
  case h=>intro k l;obtain⟨k1,k2⟩:=List.mem_range'_1.mp l;have E:P8 (.int ((k:Int)+1)) (.int ((k:Int)+R0 xs))=.ok (.int (((k:Int)+1)*((k:Int)+R0 xs))):=i8 (n6.of (B0 (n:=20) (by lia) (by lia)) (B0 (n:=20) (by lia) (by lia)));have H:P8 (.int (((k:Int)+1)*((k:Int)+R0 xs))) (.int 9013)=.ok (.int (((k:Int)+1)*((k:Int)+R0 xs)*9013)):=i8 (n6.of (bits_mul (B0 (n:=20) (by lia) (by lia)) (B0 (n:=20) (by lia) (by lia))) (show bits 9013<=20 by decide));refine⟨[.v (.int (k:Int)),.v (.int (R0 xs))],rfl,?_⟩;have q:O9 (.int (((k:Int)+1)*((k:Int)+R0 xs)*9013)) (.int 10007)=_:=m (by decide);simp-implicitDefEqProofs only[p8,v8,D2,G9,D7,F3,R.aa0,ad,E,H,q];rfl
  simp-implicitDefEqProofs only[R.aa0,sp];rfl
 refine B5 (ρ:=[.v (.lst xs),.v (.lst (J.map vd)),.v (.int (R0 xs)),.v (.lst (F9<|(aAQ J.length).map (DV<|R0 xs))),.v (.lst ((kE xs J).map vd)),.no,.no,.no,.no]) ?_ ?_
 .simp-implicitDefEqProofs only[Q7,D7,R.aa0,tU,i6 sl];rw[DL.K5 (λd=>vd (J.getD (fw d).toNat 0)) ?h]
  case h=>
   intro d hd;obtain⟨k,l,rfl⟩:=aAp.mp ((A0 (qZ _ _) d).mp hd);have l:=aBP.mp l;refine⟨[.v (.int ((((k:Int)+1)*((k:Int)+R0 xs)*9013).fmod 10007)),.v (.int (k:Int)),.v (.lst (J.map vd))],rfl,?_⟩;have ix:=pT (aAd l);have e:J.getD (fw<|DV (R0 xs) k).toNat 0=J[k]:=by show J.getD ((k:Int)).toNat 0=_;rw[aAZ,aAi,aAd l];rfl
   rw[e];simp-implicitDefEqProofs only[D2,G9,Q7,D7,R.aa0,ix]
  unfold kE;rw[aBw];rfl
 obtain⟨n3,ne⟩:=YD xs;have r2:=QZ (n:=nC xs) (by lia);rw[ne]at r2;refine a0n (x:=cD 0 (nC xs)) (by simp-implicitDefEqProofs [c1,t,m,r2]) ?_;generalize D.lst (F9<|(aAQ J.length).map (DV<|R0 xs))=B at*
 refine HA (λk ρ=>∃I O T U,ρ=[.v (.lst xs),.v (.lst (J.map vd)),.v (.int (R0 xs)),.v B,.v (.lst ((lp k (iE xs J)<|kE xs J).map vd)),I,O,T,U]) ?_ ⟨_,_,_,_,rfl⟩ ?_
 .rintro k _ l ρ ⟨I,O,T,U,rfl⟩;have ok:=FN (xs:=xs) p k;have e1:lp (k+1) (iE xs J) (kE xs J)=iE xs J k (lp k (iE xs J)<|kE xs J):=rfl;rw[e1];generalize lp k (iE xs J) (kE xs J)=o at*
  have ol:o.length<=30:=by have:=ok.2.2;lia
  have x2:=s (2+(k:Int)) (by lia) (by lia);have x3:=s (3+(k:Int)) (by lia) (by lia);have x4:=s (4+(k:Int)) (by lia) (by lia);unfold iE;have i1:=ZA p (cJ xs<|2+(k:Int));have i2:=ZA p ((cJ xs<|3+(k:Int)).fdiv 7);have E:O9 (.int (cJ xs<|2+(k:Int))) (.int (J.length:Int))=_:=m l0;have H:O9 (.int ((cJ xs<|3+(k:Int)).fdiv 7)) (.int (J.length:Int))=_:=m l0;have f7:L0 (.int (cJ xs<|3+(k:Int))) (.int 7)=_:=t (by decide) (by decide);have q:O9 (.int (cJ xs<|4+(k:Int))) (.int ((o.length:Int)+1))=_:=m (by lia);have ar:=S7 (a:=cJ xs (4+(k:Int))) (b:=(o.length:Int)+1) (by lia);obtain⟨A,eA⟩:∃A:Nat,(cJ xs<|4+(k:Int)).fmod ((o.length:Int)+1)=(A:Int):=⟨((cJ xs<|4+(k:Int)).fmod ((o.length:Int)+1)).toNat,by lia⟩;rw[eA]at q ar;rw[eA,aAZ];have s1:=TQ (L:=o) (k:=A) (by lia);have s2:=VR (L:=o) (k:=A) (by lia);generalize cJ xs (2+(k:Int))=g2 at*
  generalize cJ xs (3+(k:Int))=g3 at*
  generalize cJ xs (4+(k:Int))=g4 at*
  generalize RD J g2=P at*
  generalize RD J (g3.fdiv 7)=Q at*
  have lm:=WU P Q;have ls:lU [vd (yJ P Q),vd P]=.ok (.lst ([yJ P Q,P].map vd)):=rfl;have a1:eS (.lst ((o.take A).map vd)) (.lst ([yJ P Q,P].map vd))=.ok (.lst ((o.take A).map vd++[yJ P Q,P].map vd)):=fZ (small (by simp only[aAf,aBd,aAt,aBm];lia));have a2:eS (.lst ((o.take A).map vd++[yJ P Q,P].map vd)) (.lst ((o.drop A).map vd))=.ok (.lst ((o.take A).map vd++[yJ P Q,P].map vd++(o.drop A).map vd)):=fZ (small (by simp only[aAx,aAf,aBd,aCu,aAt,aBm];lia));simp-implicitDefEqProofs only[R1,aAI,aAJ];refine CL (by simp-implicitDefEqProofs only[p8,v8,D2,G9,D7,F3,R.aa0,ad,x2,iO,aAf,E,i1,aAI,aAJ];rfl) ?_;refine CL (by simp-implicitDefEqProofs only[p8,v8,D2,G9,D7,F3,R.aa0,ad,x3,iO,aAf,f7,H,i2,aAI,aAJ];rfl) ?_;refine CL (by simp-implicitDefEqProofs only[p8,v8,D2,G9,D7,F3,R.aa0,ad,x4,iO,aAf,q,aAI,aAJ];rfl) ?_;refine⟨[.v (.lst xs),.v (.lst (J.map vd)),.v (.int (R0 xs)),.v B,.v (.lst ((o.take A).map vd++[yJ P Q,P].map vd++(o.drop A).map vd)),.v (.int (k:Int)),.v (vd P),.v (vd Q),.v (.int (A:Int))],?_,_,_,_,_,by rw[aBF,aBF]⟩;simp-implicitDefEqProofs only[p8,v8,D2,G9,Q7,D7,R.aa0,toI,s1,s2,lm,ls,a1,a2,aAI,aAJ]
 .rintro ρ ⟨I,O,T,U,rfl⟩;rw[aDO];rfl
def bI (t9:u8 P w K mg base 1 "_law_cell" 2 Y0)(L8:u8 P w K mg base 1 "_law_middle" 2 mB)(M1:u8 P w K mg base 8 "_law_planes" 1 cA)(ai:mg "sorted"=none)(g:cF K mg "_law_spoilt" bA):u8 P w K mg base 9 "_law_spoilt" 3 lZ:=by
 refine' m6 (k:=8) (F:=_) g pA (λq e cg r=>?b) λs d E h=>?_
 case b=>
  have H:=q.ac6 (by decide);refine' (b9 (j2 3 (c5 v5 (PD.pb<|c5 u4 (PD.pb<|R6 t9 q (c6 0) d5) w6) w6) r)
   (b9 (y6 (k9 (K9 e) (b8 3) w6) (d4<|j1<|S9<|f8 (az (b8 2)<|F8<|iN d5)<|f8 kU o7) o5)
   (b9 (y6 (k9 (K9 e) (b8 3) w6) (d4<|j1<|S9<|f8 (c5 l7 (PD.pb<|iF (b8 2) P6<|F8 d5)<|b8 2)<|f8 kU o7) o5)
   (b9 (y6 (k9 (K9 e) (b8 3) w6) (d4<|j1<|S9<|f8 (PF.pd<|pC (PD.pb<|c5 l7 (b8 2)<|PD.pb<|S9<|f8 (R6 L8 q (f9 (b8 2) d5)<|f9 (b8 2)<|iN d5) o7) rfl H)<|f8 kU o7) o5)
   (b9 (y6 (k9 (K9 e) (b8 3) w6) (d4<|j1<|S9<|f8 (c6 1)<|f8 (jB (K9 e) (b8 1)<|b8 2) o7) o5)
   (b9 (j2 4 (iF (b8 2) (F8 d5) P6) r)
   (d4<|j1<|S9<|f8 (c6 4)<|f8 (jB (kW e) (PD.pb<|sZ M1 q<|c6 4)<|PD.pb<|S9 o7) o7)))))))
 replace h:=jJ h;obtain⟨o,s,rfl,h⟩:=h;replace h:=wH h;obtain⟨J,s,rfl,h⟩:=h;replace h:=wH h;obtain⟨C,s,rfl,h⟩:=h;replace h:=A6 h;obtain⟨rfl,h⟩:=h;replace h:=DO h;obtain⟨⟨t,I,E,r,v,A⟩,rfl⟩:=h;have L:=(qO t 2 (by decide) (by decide)).1;have N:0<C.length:=by
  have:C.length≠0:=λz=>I (aBD z)
  lia
 have O:a1m (.lst (C.map vd))=.ok (.lst (C.reverse.map vd)):=by rw[aEw];rfl
 have Q:EX (.lst (C.map vd)) none (some 1)=.ok (.lst ((C.take 1).map vd)):=by rw[RJ,aFz]
 have T:eS (.lst ((C.take 1).map vd)) (.lst (C.map vd))=.ok (.lst ((C.take 1++C).map vd)):=by rw[aBF];exact fZ (small (by simp only[aAf,aBd];lia))
 have B:∀i,i<C.length->C[i]?=some (C.getD i 0):=λi t=>by rw[aAi,aAd t];rfl
 have U:V1 (.lst (C.map vd)) (.int 0)=.ok (vd<|C.getD 0 0):=pT (B 0 N);have Y:V1 (.lst (C.map vd)) (.int (-1))=.ok (vd<|C.getD (C.length-1) 0):=by
  refine N0 ?_;unfold pU;have ix:ES (C.map vd).length (-1)=some (C.length-1):=by rw[aAf];unfold ES;rw[ja (by decide)];simp;try lia
  rw[ix];show(C.map vd)[C.length-1]?=_;rw[aAF,B _ (by lia)];rfl
 have lm:mB [vd (C.getD 0 0),vd (C.getD (C.length-1) 0)]=.ok (vd<|CA C):=rfl;have u:lU [vd (CA C)]=.ok (.lst ([CA C].map vd)):=rfl;have a2:eS (.lst (C.map vd)) (.lst ([CA C].map vd))=.ok (.lst ((C++[CA C]).map vd)):=by rw[aBF];exact fZ (small (by simp only[aAf,aAt,aBm];lia))
 have SP:=JI r (by rw[aAx];simp;lia);have st:EX (.lst (C.map vd)) (some 1) none=.ok (.lst (C.tail.map vd)):=by rw[HK,aGt]
 have PL:=nD v A;have ne:=jy v A;have ep:=MO J C;have c:∀x y:Int,GO (.int x) (.int y)=.ok (.bl (decide (x=y))):=λ_ _=>rfl;have p:∀a b:D,lU [a,b]=.ok (.lst [a,b]):=λ_ _=>rfl;have ln:lU []=.ok (.lst []):=rfl;have ng:rq (.int 1)=.ok (.int (-1)):=rfl;have fd:L0 (.int (cJ o 2)) (.int 11)=.ok (.int ((cJ o 2).fdiv 11)):=bY (by decide) (by decide);have md:O9 (.int ((cJ o 2).fdiv 11)) (.int 5)=.ok (.int (IQ o)):=U0 (by decide);simp only[j6,aAu,aDS,aBb,aCX,aAt,aBm,aEA,aEB,aDd,aDe];refine B5 (by simp-implicitDefEqProofs only[p8,v8,D7,F3,R.aa0,L,fd,md,aAI,aAJ];rfl) ?_;unfold XI vq;generalize IQ o=W at*
 by_cases f:W=0
 .rw[i6 f,i6 f];refine kG ?_;simp-implicitDefEqProofs only[p8,v8,D2,G9,F3,R.aa0,c,decide_eq_true f,jT,if_true,O,p]
 rw[ja f,ja f];refine B5 (by simp-implicitDefEqProofs only[D2,G9,F3,R.aa0,c,decide_eq_false f,jT,aAs,if_false];rfl) ?_;by_cases l:W=1
 .rw[i6 l,i6 l];refine kG ?_;simp-implicitDefEqProofs only[p8,v8,D2,G9,F3,R.aa0,c,decide_eq_true l,jT,if_true,toI,Q,T,p]
 rw[ja l,ja l];refine B5 (by simp-implicitDefEqProofs only[D2,G9,F3,R.aa0,c,decide_eq_false l,jT,aAs,if_false];rfl) ?_;by_cases m:W=2
 .rw[i6 m,i6 m];refine kG ?_;simp-implicitDefEqProofs only[p8,v8,D2,G9,F3,R.aa0,c,decide_eq_true m,jT,if_true,ng,U,Y,lm,u,a2,SP,p]
 rw[ja m,ja m];refine B5 (by simp-implicitDefEqProofs only[D2,G9,F3,R.aa0,c,decide_eq_false m,jT,aAs,if_false];rfl) ?_;by_cases n:W=3
 .rw[i6 n,i6 n];refine kG ?_;simp-implicitDefEqProofs only[p8,v8,D2,G9,Q7,D7,F3,R.aa0,c,decide_eq_true n,jT,if_true,ep,p]
 rw[ja n,ja n];refine B5 (by simp-implicitDefEqProofs only[D2,G9,F3,R.aa0,c,decide_eq_false n,jT,aAs,if_false];rfl) ?_;refine B5 (by simp-implicitDefEqProofs only[D2,G9,F3,R.aa0,toI,st,aAI,aAJ];rfl) ?_;simp-implicitDefEqProofs only[p8,v8,Q7,D7,R.aa0,PL,ln,ne,p];rfl
section
seal PySem.eval
def o_law {f:bb}{fd:d9}(fA:u8 P w K mg base 3 "_law_land" 2 oP)(aF:u8 P w K mg base 8 "_law_corners" 2 aD)(M1:u8 P w K mg base 8 "_law_planes" 1 cA)(Y8:u8 P w K mg base 8 "_law_changed" 2 iY)(R9:u8 P w K mg base 9 "faces_of" 1 S6)(bS:u8 P w K mg base 10 "body_of" 1 Y2)(bI:u8 P w K mg base 9 "_law_spoilt" 3 lZ)(X4:u8 P w K mg base 1 "_law_truth" 2 jZ)(gD:u8 P w K mg base 11 "is_body" 1 J6)(jg:mg "list"=none)(F0:Fun K "law" "law" gT f fd):FnOk P w K mg base wN 12 f fd ["script"] (tw K 1 jQ):=by
 refine' fnD (k:=11) (F:=_) F0 OE (λT A O s H E c=>?b) λds d hl h=>?_
 case b=>
  have g:=c.units;have cg:=c.af1;have m:=OE.nd;refine' (b9 (bP 1 ["x", "y", "z"] [] [] m rfl (G5 (sc:=c7 gT) (N:=ZD)) (u5<|R6 fA c (c6 0) d5) (by rintro Y fp X2 ⟨s0,H1,C,rfl⟩;exact⟨(aM (n:=3) rfl (t4 (k5 0 (show(["x", "y", "z"]:List Str).Nodup by decide+kernel)) (t4 (k5 1 (show(["x", "y", "z"]:List Str).Nodup by decide+kernel)) (t4 (k5 2 (show(["x", "y", "z"]:List Str).Nodup by decide+kernel)) U9)))),yG,(DS (c5 n4 w6<|b8 0) (c5 n4 w6<|b8 1)<|c5 n4 w6<|b8 2)⟩)<|λ_=>GA)
   (b9 (j2 2 (R6 aF c (c6 1)<|sZ M1 c<|c6 1) m)
   (b9 (j2 3 (R6 Y8 c (c6 0)<|c6 1) m)
   (b9 (y6 (EM.pt<|DG (k9 (kW g) (PD.pb<|sZ bS c<|N4 jN<|o9 (b8 3) w8)<|b8 2)<|wB<|k9 (kW g) (PD.pb<|sZ R9 c<|N4 jN<|o9 (b8 3) w8)<|PD.pb<|sZ R9 c<|N4 jN<|o9 (b8 2) w8) (d4<|j1 kU) o5)
   (b9 (oO (pc3 bI c (c6 0) (c6 1)<|c6 2)<|aM (n:=2) rfl<|t4 (k5 4 m)<|t4 (k5 5 m) U9)
   (b9 (j2 6 (N4 jN<|o9 (b8 4) w8) m)
   (d4<|j1<|CK (R6 X4 c (sZ gD c<|N4 jN<|o9 (b8 2) w8) kU)<|CK (R6 X4 c (sZ gD c<|c6 6)<|c6 5)<|PM<|jB (K9 g) (b8 6)<|b8 4)))))))
 match ds,h with
 |[.lst xs],h=>
  simp only[jQ]at h;split at h
  .rename_i hc;rw[<-h];obtain⟨hl,u⟩:=hc;have LL:=MV u hl (most:=6) (by decide) (by decide);obtain⟨a1,a2,a3⟩:=XG u (most:=6) (by decide) (by decide);generalize nI xs 6=a at*
   have ll:a.length<=sizeLine:=small (by lia);obtain⟨B,r,I,k4⟩:=UD (L:=a) (t:=2) (by decide) (by decide) a2 a1 (by lia);have pl:(a.map<|G.yI 2).length<=9:=by rw[aAf];lia
   have Q:=TU a;have t2:∀p∈a,P8 (.int 2) (.int p.x)=.ok (.int (2*p.x))/\P8 (.int 2) (.int p.y)=.ok (.int (2*p.y))/\P8 (.int 2) (.int p.z)=.ok (.int (2*p.z)):=λp hp=>have z:=a2 p hp;⟨i8 (n6.of (show bits 2<=10 by decide) z.1),i8 (n6.of (show bits 2<=10 by decide) z.2.1),i8 (n6.of (show bits 2<=10 by decide) z.2.2)⟩;obtain⟨J,ep⟩:∃q,a.map (G.yI 2)=q:=⟨_,rfl⟩;rw[ep]at B r I k4 pl Q;have g:Hu J:=⟨B,r,I⟩;have s8:∀P∈J,Sz 800 P:=λP U=>(k4 P U).mono;have hn:J≠[]:=λz=>by obtain⟨A,hA,_⟩:=r;rw[z]at hA;cases hA
   have PL:=FJ B r I;have CO:=BG B r I;have CH:=BJ u hn (by lia);have ch:W3 J (tq xs J) (nC xs):=FN hn (nC xs);have n3:=(YD xs).1;have e:=YE ch s8 r (by lia);have eo:=GC ch g e Q;have BO:=HF e.1 e.2.1 e.2.2;have FO:=qL e.1 e.2.1 e.2.2;have fs:=EH e;rw[eo]at BO fs;obtain⟨so,ib,ic,hC,bC⟩:=UP (xs:=xs) g (by lia) s8 Q rfl;have FC:=qL hC.1 hC.2.1 hC.2.2;rw[fs]at FC;have SO:=FA (J:=J) u so;have dB:=oJ (l9 J);have n1:=IH dB;have dF:D8 (.lst ((j5<|c8<|tq xs J).map (l8<|c8<|tq xs J)))<=40:=LP _ _;have n2:=IH dF;have dS:=oJ (XI xs J<|l9 J);have e2:GO (.lst ((XI xs J<|l9 J).map vd)) (.lst ((XI xs J<|l9 J).map vd))=.ok (.bl true):=by unfold GO;rw[i6 ⟨dS,dS⟩,U1]
   have tr:∀b:Bool,jZ [.bl b,.bl b]=.ok (.bl true):=λb=>by cases b<;>rfl
   have lr:∀l:List D,YU [.lst l]=.ok (.lst l):=λ_=>rfl;generalize XI xs J (l9 J)=W at*
   generalize vq xs J (l9 J)=b at*
   generalize l9 J=C at*
   generalize tq xs J=o at*
   generalize D.lst ((j5<|c8 o).map (l8<|c8 o))=FF at*
   generalize D.lst ((j5<|c8 J).map bL)=PP at*
   simp only[j6,aAu,aDS,aBb,aCX,aAt,aBm,aEA,aEB,aDd,aDe];refine B5 (ρ:=[.v (.lst xs),.v (.lst (J.map vd)),.no,.no,.no,.no,.no]) ?_ ?_
   .simp-implicitDefEqProofs only[p8,v8,D7,F3,R.aa0,LL,tU,aAf,i6 ll];rw[yZ vd vd (G.yI 2) a ?h,ep]
    case h=>intro P U;obtain⟨u1,u2,u3⟩:=t2 P U;refine⟨[.v (.int P.x),.v (.int P.y),.v (.int P.z)],rfl,?_⟩;simp-implicitDefEqProofs only[p8,v8,D2,G9,F3,R.aa0,u1,u2,u3];rfl
    rfl
   refine B5 (by simp-implicitDefEqProofs only[p8,v8,Q7,D7,R.aa0,PL,CO,aAI,aAJ];rfl) ?_;refine B5 (by simp-implicitDefEqProofs only[p8,v8,Q7,D7,R.aa0,CH,aAI,aAJ];rfl) ?_;refine B5 (by simp-implicitDefEqProofs only[orB,p8,v8,D2,G9,R.aa0,lr,BO,FO,FC,n1,n2,jT,aAs,if_false];rfl) ?_;refine B5 (ρ:=[.v (.lst xs),.v (.lst (J.map vd)),.v (.lst (C.map vd)),.v (.lst (o.map vd)),.v (.lst (W.map vd)),.v (.bl b),.no]) (by unfold DF;simp-implicitDefEqProofs only[p8,v8,Q7,D7,R.aa0,SO];rfl) ?_
   refine B5 (by simp-implicitDefEqProofs only[p8,v8,D2,G9,R.aa0,lr,aAI,aAJ];rfl) ?_;simp-implicitDefEqProofs only[a0g,p8,v8,D2,G9,Q7,D7,F3,R.aa0,lr,ic,ib,tr,jT,if_true,e2];rfl
  .cases h
end
end
end K14
section
namespace K14
open PySem L2 DL M
def truth (ns:List Int)(a:ns.length<=63)(b:∀x∈ns,aBe x<=1048576):jQ [.lst (ns.map D.int)]=.ok (.bl true):=by unfold jQ;exact i6 ⟨by simpa using a,WM b⟩
section
variable [Tabs]
def all_mk {l:PySem.W.OpenLaw}{w:cq}{K:ka}{h:cv}{mg:fL}{fa f39 Pt:bb}(X:K.In h)(G:h.Ns bt mg)(hfa:mg "law"=some (.ref fa))
  (g0:Got K "way_between" aU)
  (g1:Got K "cross_of" iW)
  (g2:Got K "product_of" cP)
  (g3:Got K "common_divisor" R8)
  (g4:Got K "plane_through" V4)
  (g5:Got K "side_of" lN)
  (g6:Got K "first_real_way" T2)
  (g7:Got K "dimension_of" D5)
  (g8:Got K "refuse_flat" bH)
  (g9:Got K "points_on" aN)
  (g10:Got K "plane_about" aQ)
  (g11:Got K "first_pair" dE)
  (g12:Got K "turn_of" mH)
  (g13:Got K "left_chain" eF)
  (g14:Got K "ring_of" lE)
  (g15:Got K "pairs_round" aY)
  (g16:Got K "faces_from" cR)
  (g17:UA K "faces_of" M4 Pt)
  (g18:Got K "corners_in" dZ)
  (g19:Got K "body_of" mD)
  (g20:Got K "is_body" mL)
  (g21:Got K "_law_cell" fG)
  (g22:Got K "_law_way" iT)
  (g23:Got K "_law_cross" cI)
  (g24:Got K "_law_product" Z3)
  (g25:Got K "_law_point" dG)
  (g26:Got K "_law_points" L9)
  (g27:Got K "_law_solid" Q5)
  (g28:Got K "_law_slants" T4)
  (g29:Got K "_law_slanted" Z8)
  (g30:Got K "_law_land" aK)
  (g31:Got K "_law_plane" W7)
  (g32:Got K "_law_planes" L4)
  (g33:Got K "_law_on" mS)
  (g34:Got K "_law_corners" P4)
  (g35:Got K "_law_truth" cZ)
  (g36:Got K "_law_middle" aR)
  (g37:Got K "_law_changed" J2)
  (g38:Got K "_law_spoilt" bA)
  {od39 an39:Option bb} {sl39:Array (Option au)} {oc39 kV39 dc39 pm39 cd39 ct39:au}
  (a39:PySem.W.nsIn K bt "law"=some (some (.ref f39))) (l39:K.lookup f39=some ⟨oc39,od39,.func (PySem.W.fnOf "law" "law" (G8 gT) (u9 gT) (c7 gT) .none kV39 dc39 pm39 an39 cd39 ct39),sl39⟩) (e39:PySem.W.codeIn K cd39 "law"=true) (k39:PySem.W.keepIn K (.ref f39)=true)
  (z_abs:PySem.W.nsIn K bt "abs"=some none)
  (z_len:PySem.W.nsIn K bt "len"=some none)
  (z_any:PySem.W.nsIn K bt "any"=some none)
  (z_min:PySem.W.nsIn K bt "min"=some none)
  (z_list:PySem.W.nsIn K bt "list"=some none)
  (I:PySem.W.nsIn K bt "reversed"=some none)
  (z_zip:PySem.W.nsIn K bt "zip"=some none)
  (z_sorted:PySem.W.nsIn K bt "sorted"=some none)
  (z_set:PySem.W.nsIn K bt "set"=some none)
  (z_range:PySem.W.nsIn K bt "range"=some none)
  (z_tuple:PySem.W.nsIn K bt "tuple"=some none)
  (E:PySem.W.nsIn K bt "enumerate"=some none)
  (z_max:PySem.W.nsIn K bt "max"=some none)
  (q:PySem.W.nsIn K bt "isinstance"=some none)
  (z_bool:PySem.W.nsIn K bt "bool"=some none)
  {mo:bb} {O:Option bb} {J L N:Tok} {Q:Nat} {T:Array (Option au)}
  (U:PySem.W.nsIn K bt "NO_WAY"=some (some (.ref mo))) (Y:K.lookup mo=some ⟨.type "tuple",O,.seq #[.int 0 J,.int 0 L,.int 0 N] Q,T⟩)
  (nt:(Pt,tbK)∈Tabs.tbs)
  (truth:∀ns:List Int,ns.length<=63->(∀x∈ns,aBe x<=1048576)->jQ [.lst (ns.map D.int)]=.ok (.bl true)):
  ∃fd:d9,(∀(s:a9) (v:au),BindsTo s fd ⟨[v],[]⟩ [("script",v)])/\∀base:cv,K.In base->base.Ns bt mg->jX mg base->FnOk l.prog w K mg base wN 12 fa fd ["script"] (xS K):=by
 have e:=hfa.symm.trans (PySem.W.mg_of X G a39);cases e;have uc:=PySem.W.mg_none_of X G z_abs;have br:=PySem.W.mg_none_of X G z_len;have b_any:=PySem.W.mg_none_of X G z_any;have ud:=PySem.W.mg_none_of X G z_min;have jg:=PySem.W.mg_none_of X G z_list;have kh:=PySem.W.mg_none_of X G I;have b_zip:=PySem.W.mg_none_of X G z_zip;have ai:=PySem.W.mg_none_of X G z_sorted;have ji:=PySem.W.mg_none_of X G z_set;have dh:=PySem.W.mg_none_of X G z_range;have gu:=PySem.W.mg_none_of X G z_tuple;have jl:=PySem.W.mg_none_of X G E;have b_max:=PySem.W.mg_none_of X G z_max;have jc:=PySem.W.mg_none_of X G q;have xn:=PySem.W.mg_none_of X G z_bool;have dc:NP K mg "NO_WAY" [0,0,0]:=ZP (PySem.W.mg_of X G U) Y;refine⟨PySem.W.fnOf "law" "law" (G8 gT) (u9 gT) (c7 gT) .none kV39 dc39 pm39 an39 cd39 ct39,λs v=>.of_eq rfl,λbase _ _ hB=>?_⟩;have bo:u8 l.prog w K mg base 1 "way_between" 2 o6:=q8 (g0.def X G);have fb:u8 l.prog w K mg base 1 "cross_of" 2 x9:=E6 (g1.def X G);have bu:u8 l.prog w K mg base 1 "product_of" 2 j9:=A5 (g2.def X G);have a:u8 l.prog w K mg base 1 "common_divisor" 1 K1:=R5 uc (g3.def X G);have c:=V5 fb bo a bu (g4.def X G);have r_side_of:u8 l.prog w K mg base 1 "side_of" 2 cC:=lP (g5.def X G);have b:u8 l.prog w K mg base 1 "first_real_way" 1 B4:=K6 dc (g6.def X G);have de:=B6 bo b fb bu br b_any (g7.def X G);have k:=aX de (g8.def X G);have jm:=J0 r_side_of (g9.def X G);have gv:=L7 bo bu fb c dc (g10.def X G);have r:=cT jm gv de ud (g11.def X G);have r_turn_of:=lJ bu fb bo (g12.def X G);have t:=X0 r_turn_of br (g13.def X G);have r_ring_of:=mN t jg kh (g14.def X G);have m:u8 l.prog w K mg base 1 "pairs_round" 1 A8:=aO jg b_zip (g15.def X G);have u:=cM gv r_ring_of m br ai (g16.def X G);have ki:=R9 jm k r u ai ji hB nt (g17.def X G);have y:u8 l.prog w K mg base 8 "corners_in" 1 J9:=dI ai ji (g18.def X G);have nc:=bS y ki (g19.def X G);have r_is_body:=gD de nc br (g20.def X G);have eh:u8 l.prog w K mg base 1 "_law_cell" 2 Y0:=t9 br (g21.def X G);have kl:u8 l.prog w K mg base 1 "_law_way" 2 o6:=M8 (g22.def X G);have jd:u8 l.prog w K mg base 1 "_law_cross" 2 x9:=O8 (g23.def X G);have bh:u8 l.prog w K mg base 1 "_law_product" 2 j9:=v6 (g24.def X G);have z:u8 l.prog w K mg base 1 "_law_point" 2 bR:=cU dh gu (g25.def X G);have n:=aV eh z dh jl (g26.def X G);have A:=dD kl jd bh (g27.def X G);have o:u8 l.prog w K mg base 1 "_law_slants" 1 Y4:=bK (g28.def X G);have d:u8 l.prog w K mg base 1 "_law_slanted" 2 M5:=Z0 (g29.def X G);have H:=fA A n eh d o (g30.def X G);have B:=X5 bh uc gu (g31.def X G);have ia:=M1 jd kl bh B ai ji dh br ud b_max gu (g32.def X G);have r__law_on:=mC bh (g33.def X G);have f:=aF r__law_on br ai ji (g34.def X G);have C:u8 l.prog w K mg base 1 "_law_truth" 2 jZ:=X4 jc xn (g35.def X G);have ie:u8 l.prog w K mg base 1 "_law_middle" 2 mB:=L8 (g36.def X G);have g:=Y8 eh ie ai dh br (g37.def X G);have p:=bI eh ie ia ai (g38.def X G);exact VL (o_law H f ia g ki nc p C r_is_body jg<|OA (st:=gT) l39 e39 k39) truth
end
end K14
namespace PySem.W.Fast
def tw13910011251246121657:=0
def tw2886381310407750704:=0
def tw4231236813871041030:=0
def tw1920008980284251861:=0
def tw2502088870392288032:=0
def tw17933294092067294300:=0
def tw10265447987248805703:=0
def tw8819507463234544249:=0
def tw10349167242942079486:=0
def tw16381881631141609942:=0
def tw11245745142100643604:=0
def tw6489427328331229162:=0
def tw5063399784955057649:=0
def tw8649606941420678001:=0
def tw5484492613635322651:=0
def tw7457515195766067188:=0
def tw12522176004739469221:=0
def tw1736711742791612715:=0
def tw17179435124108558549:=0
def tw1335029558753612019:=0
def tw15775710072647232238:=0
def tw1781324913548434832:=0
def tw11818478561548210612:=0
def tw384882721507540907:=0
def tw4948726492651326615:=0
def tw11568691931288144628:=0
def tw11127747686678599653:=0
def tw17845425210398273888:=0
def tw16507250207189153663:=0
def tw4283615192845091804:=0
def tw11191023441750185651:=0
def tw11588885551137618707:=0
def tw2995583560357122247:=0
def tw11215278924695340339:=0
def tw8144066279566964953:=0
def tw17203399310143910690:=0
def tw11892543612870252039:=0
def tw370659483567717559:=0
def tw4426159636779588787:=0
def tw2128830853212818590:=0
def tw12556945036763524743:=0
def tw7623928880975021589:=0
def tw8549751308167555311:=0
def tw4190056077320872210:=0
def tw8849539486066517957:=0
def tw11119406438439108313:=0
def tw4661450300080299034:=0
def tw5205929563019214287:=0
def tw16977637708831538733:=0
def tw14605082736837780288:=0
def tw17069611874981920396:=0
def tw7232797171744757782:=0
def tw6113964776861847177:=0
def tw12728805265744460767:=0
def tw10771568001240252969:=0
def tw9657906354696894641:=0
def tw10884161069449194875:=0
def tw5270774803031403784:=0
def tw11482494190070577791:=0
def tw1564689978340767199:=0
def tw7905320970148931123:=0
def tw795263221472538044:=0
def tw9974311581384016165:=0
def tw17534243863869713104:=0
def tw8128424534394663738:=0
def tw1527063403385533847:=0
def tw1594574653103962531:=0
def tw4155546539043361460:=0
def tw11399558165888718541:=0
def tw7314328422575150639:=0
def tw1293173354293562040:=0
def tw3227660435498899886:=0
def tw17564720762488647822:=0
def tw10083616205171176565:=0
def tw7739891008474545637:=0
def tw14747518531307672513:=0
def tw18163109306470394990:=0
def tw12418603491493351575:=0
def tw3749324119603941931:=0
def tw684061677027545127:=0
def tw16946955311599381701:=0
def tw14696113159868730918:=0
def tw3967494381955345340:=0
def tw4309632758417627950:=0
def tw3307906317077423795:=0
def tw17927602129371941068:=0
def tw3929283884802158190:=0
def tw9505176077652315507:=0
def tw3723857507151546428:=0
def tw14455772351451147968:=0
def tw10977196831668887068:=0
def tw5976528828961800036:=0
def tw2221854231208636278:=0
def tw3735598182283698099:=0
def tw10343285773308881584:=0
def tw6881383618371113913:=0
def tw11613159593927608505:=0
def tw16344572902359703845:=0
def tw11923302697121360020:=0
def tw6358085137659597375:=0
def tw11382661291137894916:=0
def tw4609416027403048116:=0
def tw11241816416898405738:=0
def tw592500825696411556:=0
def tw1220680914589616748:=0
def tw4653796870557197550:=0
def tw3255153636990232521:=0
def tw3814897237113023591:=0
def tw5052159935693461784:=0
def tw5854288185056699078:=0
def tw12723563199889872413:=0
def tw940536560527263002:=0
def tw4692024425662891181:=0
def tw10781583747355369643:=0
def tw16415782207812247299:=0
def tw291225098082514444:=0
def tw9414135630153368345:=0
def tw18232653455724729305:=0
def tw40834394308491879:=0
def tw5564910775873770289:=0
def tw1466918880823996389:=0
def tw15716554679566128044:=0
def tw10365722039798613330:=0
def tw12697860328674123380:=0
def tw13456743816301412342:=0
def tw944678124666254392:=0
def tw5457203540687711304:=0
def tw14418865378441674762:=0
def tw16651909645286037846:=0
def tw16878949179847489434:=0
def tw17038132082267889785:=0
def tw8083860367611821095:=0
def tw10560263499446452791:=0
def tw2471712690719846909:=0
def tw10606174728547209371:=0
def tw13356347207556904095:=0
def tw15789726372976230230:=0
def tw8801917460596053658:=0
def tw3707301014376035834:=0
def tw15388697747685914112:=0
def tw9250495360901163190:=0
def tw7251533831700587652:=0
def tw3559791940121086990:=0
def tw3649452692196191251:=0
def tw10078754691133082450:=0
def tw1051304957650372150:=0
def tw10682611022221956141:=0
def tw11970716159825666366:=0
def tw12538740793662964709:=0
def tw13622628956745493187:=0
def tw14005376157415795564:=0
def tw14047309490133960748:=0
def tw14068326782172005508:=0
def tw14820269973989220003:=0
def tw15102431764446272608:=0
def tw15166932721571587709:=0
def tw15344520071176788076:=0
def tw15726080287655888911:=0
def tw16058307220422725868:=0
def tw16385006417668428579:=0
def tw16637432788072537829:=0
def tw16808507981538910581:=0
def tw17782892496743186998:=0
def tw2226058313483050668:=0
def tw2336657085630610853:=0
def tw3080177455277287368:=0
def tw3294397947753633650:=0
def tw3611292708259580690:=0
def tw3686589172867591135:=0
def tw3693624530575017613:=0
def tw3928751906417126996:=0
def tw5594775795871095665:=0
def tw5680780540619180741:=0
def tw640911156677507620:=0
def tw6758414845905714436:=0
def tw7897195660279090826:=0
def tw898931913665722771:=0
def tw10288362277713604341:=0
def tw502922963906456704:=0
def tw627000114698272304:=0
def tw9375154122286660196:=0
def tw3998530838665044080:=0
def tw11154202553485122501:=0
def tw14025298070048368028:=0
def tw14611379897980411973:=0
def tw1622702571144662849:=0
def tw16861487253891768273:=0
def tw2607095999133892768:=0
def tw6446963807586658748:=0
def tw5155229807515686061:=0
def tw5108584684562448548:=0
def tw1055127960890501509:=0
def tw9012318082740932189:=0
def tw12896426808142801600:=0
def tw10905015824614327472:=0
def tw10914599665919444298:=0
def tw12135568076642851257:=0
def tw12299325031723168235:=0
def tw13965740889590571458:=0
def tw3249042994299157705:=0
def tw2883711520966038584:=0
def tw12180830918142164002:=0
def tw14838564825490357209:=0
def tw437024178152590590:=0
def tw9644372292682563918:=0
def tw16485325438165130659:=0
def tw7042028305819498494:=0
def tw584037949498248082:=0
def tw12130677661838657572:=0
def tw15891949689678736445:=0
def tw17348348364590918594:=0
def tw10250039292871246236:=0
def tw1070839169307156151:=0
def tw10840821384624574941:=0
def tw15727086221808283042:=0
def tw15745587513370521063:=0
def tw16058107471033700477:=0
def tw18419229184651119685:=0
def tw2779292979406794517:=0
def tw4002594613684887518:=0
def tw4158879709692596942:=0
def tw4627016505383877785:=0
def tw8857439775020666931:=0
def tw9422024193276283452:=0
def tw15692248416747060928:=0
def tw3018146654643494039:=0
def tw10266960905813519512:=0
def tw10390813551886558727:=0
def tw10501757161086575:=0
def tw10624902335449093321:=0
def tw10735382216860002960:=0
def tw11029759552468983220:=0
def tw11119992256170662361:=0
def tw11589552935742395278:=0
def tw11630177759717279958:=0
def tw11775885712942019519:=0
def tw12345055565731594808:=0
def tw13209949698312299166:=0
def tw13279296663927894371:=0
def tw13412147633271399815:=0
def tw13693085858026378525:=0
def tw14233387757082586779:=0
def tw15129562141703432808:=0
def tw15500621853138598946:=0
def tw15527101540097101994:=0
def tw15643060299870661387:=0
def tw15690538639469828886:=0
def tw15766352792740767003:=0
def tw15839554778031851346:=0
def tw15983618153118824908:=0
def tw16129131168379523773:=0
def tw16488383391894724814:=0
def tw16825737099572130362:=0
def tw17155470878682278719:=0
def tw17275802716513467161:=0
def tw17539596397008962008:=0
def tw17892158919401534186:=0
def tw1941281725874799355:=0
def tw221982351917556851:=0
def tw2484561933624842502:=0
def tw2532997879330836461:=0
def tw2687974729646225247:=0
def tw2915595664497621593:=0
def tw3029360114566274715:=0
def tw3213130101235037458:=0
def tw4543595785389300371:=0
def tw4552517448837648484:=0
def tw488488466207860144:=0
def tw4911268219964920338:=0
def tw5423533482161306404:=0
def tw5822746349183271432:=0
def tw5982523316575336432:=0
def tw6157655964888598489:=0
def tw6606732838402168715:=0
def tw6708499092461793472:=0
def tw702418262035081492:=0
def tw7201865980991775445:=0
def tw7291148196261472278:=0
def tw8545731854494521198:=0
def tw8609734285118373465:=0
def tw9287834675010710437:=0
def tw9650030087666226213:=0
def tw9760003111034090477:=0
def tw9972337750512067420:=0
end PySem.W.Fast
open PySem PySem.W PyProof.Rows
set_option maxRecDepth 100000 in
theorem PySem.Challenge.cw_stakebodies_k14_the_same_body_holds : PySem.Challenge.rw_stakebodies_k14_the_same_body.Holds := by
 w_on;o_law;k_head;(case hw=>w_witness2)
 k_fill
 letI tabs9:DL.Tabs:=⟨[(169,K14.tbK)]⟩
 refine DL.VM (l:=PySem.Challenge.rw_stakebodies_k14_the_same_body) (k:=12) rfl rfl ⟨rfl,by decide,by decide⟩ (λw h Y=>⟨PySem.W.km_in_of Y,PySem.W.km_tabs_of Y⟩) (DL.XM (c:=173) (by k_mem) (λw=>by kernel_rfl)) (aAH.mpr ⟨aAG,aDh⟩) (λw=>by kernel_rfl) ?F
 case F=>
  intro w mg fa h KX G hmg;refine' K14.all_mk KX G hmg ?_ ?_ ?_ ?_ ?_ ?_ ?_ ?_ ?_ ?_ ?_ ?_ ?_ ?_ ?_ ?_ ?_ ?_ ?_ ?_ ?_ ?_ ?_ ?_ ?_ ?_ ?_ ?_ ?_ ?_ ?_ ?_ ?_ ?_ ?_ ?_ ?_ ?_ ?_ ?a39 ?l39 ?e39 ?k39 ?z_abs ?z_len ?z_any ?z_min ?z_list ?z_reversed ?z_zip ?z_sorted ?z_set ?z_range ?z_tuple ?z_enumerate ?z_max ?z_isinstance ?z_bool ?ca_NO_WAY ?cl_NO_WAY (aAT.mpr rfl) K14.truth
  all_goals first|(refine' DL.qz ?a ?l ?c ?k;(case a=>k_is);(case l=>k_is);(case c=>k_is);(case k=>k_is))|(refine' DL.UF ?a ?l ?c ?k rfl ?n;(case a=>k_is);(case l=>k_is);(case c=>k_is);(case k=>k_is);(case n=>kernel_rfl))|k_is|skip
end
