import PyProof.Rows.All
import Wide.All
import OpenK.AllK
import Wide.FinOn
import Lean
import PyProof.EqAt
import PyProof.EqKinds
import PyProof.TupleCall
import PyProof.NeKinds
import KE.RegKIsAll
import PyProof.ExcClass3
import PySem.SetTable
import PySem.Value
import PyProof.CollectIter
import PyProof.SetKind
import PyProof.Walks
import PyProof.ForAny
import PyProof.FactsAll.set_1
import PyProof.FactsAll.set_2
import PyProof.Rows.SortShellK
import PyProof.ZipIter
import KE.KRevIter
import PyProof.ListNew
import OpenK.KOwn
import PyProof.ConsumeS
import KE.KNestM
import KE.KIsAll
import PyProof.Rows.StrWeight2
import PyProof.DictWalks
import KE.KDictList
import PySem.Challenge.RW_stakebodies_k22_where_by_planes
set_option Elab.async false
set_option linter.all false
set_option backward.eqns.nonrecursive false
set_option maxRecDepth 100000
set_option maxHeartbeats 4000000
open PySem renaming wpAny_bind → aAa, wpAny_pure → aAb, wpAny_holding → aAJ, wpAny_Call_Name_kw → aAM, wpAny_newObj_type → aAS, wpAny_call_entry → aBf, wpAny_specialOf → aBp, codeAny_builtin → aBr, wpAny_seqItems → aBL, plainId_quiet → aBO, wpAny_truthy_bool → aBQ, wpAny_callSpecial?_slot → aBV, wpAny_setField_rec → aBY, wpAny_setState_of → aCe, builtinLookup_eq_fast → aCk, wpAny_updateSeq → aCl, wpAny_mono → aCn, wpAny_forIn_list → aCp, wpAny_field → aCL, wpAny_passesOwn → aCO, wpAny_isInstance → aCY, wpAny_typeNameOfWhole_keyiter → aDa, wpAny_nextOf_list_item → aDd, wpAny_callSpecialIfBoundUnlessNone?_slot → aDi, typeLookup_type → aDn, wpAny_rule → aDq, wpAny_pyIter_list → aDr, codeAny_mono → aDG, wpAny_typeOf → aDH, wpAny_comprehension_free → aDI, wpAny_standAt → aDL, wpAny_attempt → aDR, wpAny_pyIter_slot → aDW, wpAny_letGo → aDX, wpAny_execs_cons → aEi, wpAny_execs_nil → aEs, pushCells_keeps → aEt, wpAny_setEntries_of → aEv, slot_dict_contains → aES, isSubtype_type → aEU, wpAny_tryCatch → aEV, wpAny_assign_Name → aEX, wpAny_Assign_Name → aEY, sizeLine_eq → aFg, noFill_tuple_add → aFn, beq_builtin_none → aFp, wpAny_askSetting → aFq, concat_meets → aFz, wpAny_runValue → aFR, wpAny_fieldsOf → aFS, wpAny_setField → aFT, isSubtype_stop → aFU, wpAny_newTuple → aFV, wpAny_of_eq → aFZ
open PySem.Heap renaming get?_push_of_some → aAc, lt_size → aAf, get?_push_size → aAp, get?_update_other → aAC, get?_update_self → aAY, size_push → aBv, get?_none_of_le → aEo
open List renaming mem_cons → aAd, mem_cons_of_mem → aAe, getElem?_eq_getElem → aAg, length_map → aAk, mem_of_getElem? → aAl, getD_eq_getElem?_getD → aAn, mem_map → aAo, size_toArray → aAq, getElem?_eq_some_iff → aAv, length_cons → aAx, map_cons → aAy, getElem?_append_right → aAz, pairwise_cons → aAA, getElem?_map → aAD, not_mem_nil → aAE, mem_append_right → aAF, nodup_cons → aAG, reverse_cons → aAH, mem_cons_self → aAL, length_append → aAN, getElem?_append_left → aAO, mem_append → aAP, lookup_cons → aAZ, getElem_of_mem → aBd, getLast?_cons_cons → aBh, map_map → aBi, mem_map_of_mem → aBk, dropLast_concat → aBl, mem_singleton → aBm, getElem?_replicate → aBn, cons_append → aBq, getElem_mem → aBs, mem_flatMap → aBt, range → aBu, getElem?_zip_eq_some → aBx, lookup_cons_self → aBB, all_eq_true → aBC, pairwise_map → aBD, mem_append_left → aBE, set_cons_succ → aBG, set_cons_zero → aBH, getElem?_set_self → aBI, getElem?_eq_none_iff → aBJ, length_take → aBN, mem_iff_getElem? → aBR, mem_filterMap → aBS, zip_cons_cons → aBT, length_nil → aBU, forall_mem_cons → aCa, nodup_iff_pairwise_ne → aCc, pairwise_iff_getElem → aCf, length_replicate → aCi, mem_reverse → aCr, getElem?_set_ne → aCs, map → aCu, mem_range → aCv, mem_filter → aCz, filterMap_cons → aCA, append_nil → aCB, length_reverse → aCD, map_append → aCE, set → aCG, getElem?_toArray → aCI, replicate → aCJ, mem_of_getLast? → aCN, forIn_cons → aCR, nodup_append → aCS, getElem?_cons_zero → aCU, getElem?_cons_succ → aCV, eq_nil_of_length_eq_zero → aCZ, nodup_nil → aDb, filterMap_map → aDe, foldl_cons → aDm, ext_getElem? → aDs, perm_ext_iff_of_nodup → aDu, mem_of_mem_drop → aDw, drop_eq_getElem_cons → aDy, length_drop → aDC, length_pos_iff → aDE, map_congr_left → aDF, of_mem_zip → aDM, pairwise_singleton → aDO, sum_cons → aDT, take_of_length_le → aDU, length_pos_of_mem → aDV, forIn_nil → aDY, dropLast_eq_take → aEa, pairwise_reverse → aEc, getElem?_eq_none → aEe, any_eq_true → aEk, zipIdx_cons → aEm, getElem_map → aEn, mem_of_mem_take → aEq, zipIdx_nil → aEy, nil_append → aEA, replicate_succ → aEC, replicate_zero → aED, exists_cons_of_ne_nil → aEF, head?_reverse → aEN, getLast?_cons → aEO, exists_mem_of_ne_nil → aEW, length_erase_of_mem → aFe, eraseIdx_cons_succ → aFi, map_reverse → aFt, range_succ_eq_map → aFv, drop_eq_nil_of_le → aFx, length_set → aFA, map_nil → aFB, take_append_drop → aFC, length_dropLast → aFK, mem_erase_of_ne → aFO, drop_zero → aFQ, length → aFW, all_cons → aGf
open Nat renaming le_refl → aAh, ne_of_lt → aAi, le_trans → aAr, lt_of_lt_of_le → aAs, zero_le → aBc, lt_irrefl → aBe, lt_succ_of_lt → aBw, ne_of_gt → aCh, le_of_succ_le → aCy, lt_of_le_of_lt → aDf, lt_or_eq_of_le → aDg, le_of_lt → aDk, lt_succ_self → aDD, mod_lt → aDJ, mul_le_mul → aDZ, le_of_eq → aEb, zero_add → aEd, le_of_not_lt → aEj, lt_or_gt_of_ne → aET, le_of_lt_succ → aFf, gcd_dvd_left → aFo, le_add_right → aFr, not_lt_zero → aFE, min_eq_left → aFF, gcd_comm → aFI, gcd → aFY, reduceAdd → aGj, reduceSub → aGk, lt_trans → aGt, succ_pos → aGv
open Option.some renaming inj → aAj, injEq → aGn
open False renaming elim → aAm
open Bool renaming false_eq_true → aAt, and_eq_true → aAK, false_ne_true → aBg, eq_iff_iff → aCQ, not_true → aCW
open Int renaming mul_eq_zero → aAu, mul_le_mul_of_nonneg_right → aAQ, mul_pos → aAU, mul_le_mul_of_nonneg_left → aAV, le_of_lt → aAW, mul_neg_of_pos_of_neg → aBj, toNat_natCast → aBy, mul_nonneg → aBK, le_refl → aCq, neg_mul_neg → aDl, lt_or_le → aDo, fmod_eq_emod_of_nonneg → aDv, eq_of_mul_eq_mul_left → aDz, mul_nonpos_of_nonneg_of_nonpos → aDK, mul_zero → aEh, mul_ediv_cancel' → aEp, toNat → aEw, mul_lt_mul_of_pos_left → aEH, le_of_mul_le_mul_right → aEI, natAbs_eq_zero → aEP, ofNat_dvd_left → aEQ, neg_nonneg_of_nonpos → aFc, mul_assoc → aFl, reduceMul → aFm, gcd → aGq, le_total → aGs, mul_comm → aGw
open Array renaming getElem?_eq_getElem → aAw, getElem?_toList → aAB, length_toList → aBa, getElem?_eq_none → aBz, getElem?_eq_some_iff → aCd, forIn_toList → aCo, replicate → aEu, perm_iff_toList_perm → aEG, getD → aFd, toList → aFy, getElem_toList → aFP, toList_append → aGc
open PySem.Builtin.Tuple renaming tupleHashOf → aAI, tupleExact → aCP, tupleItemsOf → aDt
open PySem.PassesOwn renaming never → aAR
open PySem.Builtin.Int renaming intBits → aAT
open PySem.Around renaming under_plainId → aAX, frames_deeper → aFJ
open PyProof.Rows renaming callWith_type1 → aBb, wpS_bind → aBo, callWith_builtin1 → aBF, wpS_pure → aCg, slot_tuple_getitem → aCx, wpS_forRange → aEf, listItems_at → aEg, envOfC → aEB, assignInOrder_cons → aEJ, pairsOf_size → aER, KK_mirror_equal → aFD, mirror_perm → aGa, wpS_reverse → aGb
open PySem.Obj renaming mapSeq → aBA, putSet → aEr
open PySem.Builtin.SmallTypes renaming nextOf → aBM, ownedTupleIsFree → aBP, ownedTupleHandOut → aDB
open Or renaming inr → aBW, inl → aCM
open PySem.NameKind renaming cell → aBX
open PySem.Builtin.List renaming listExtendWith → aBZ, listLengthHint → aCC, listItems → aCF, listSameRef → aCT, listTouch → aFw
open Ne renaming symm → aCb
open ForInStep renaming yield → aCj
open PySem.Value renaming type → aCm, ref → aDj, bool → aDp, builtin → aGg, int → aGy
open PySem.Builtin.Range renaming rangeSize → aCt, small → aFX
open PySem.Str renaming ofString → aCw
open PySem.F renaming plain_min_loop → aCH, plain_extend_loop → aCX, slot_dict_keyiterator_next → aDh, slot_zip_next → aDS, entry_min_loop → aFs
open PySem.Builtin.Slice renaming slicePlaces → aCK, sliceAdjust → aDx, sliceApplied → aEE
open Option renaming map_eq_some_iff → aDc, isSome_iff_exists → aFa
open PySem.SetTable renaming below → aDA, bits → aDP, fits → aGh, insertAt → aGr, tooFull → aGx
open PySem.SeqAt.EqAt renaming same → aDN, int_int → aEL, of_refs → aEM, int_tuple → aFL, tuple_int → aFM, int_str → aGd, str_int → aGe
open Classical renaming propDecidable → aDQ
open PySem.Heap.SameBut renaming update → aEx, refl → aFb
open PySem.Builtin.Builtins renaming bindParams → aEz
open PySem.Calls renaming spliced_cons → aEK, spliced_nil → aEZ, callWith_builtin → aFu
open Prod renaming ext → aFh
open PySem.Moved renaming trans → aFj
open PySem.Builtin.Frozenset renaming slot0 → aFk
open List.cons renaming injEq → aFG
open PySem.Builtin.Dict renaming showsAll → aFH
open List.Pairwise renaming filter → aFN, nil → aGp
open Function renaming comp → aGi
open Sum renaming inl → aGl, inr → aGm
open True renaming intro → aGo
open PySem.pickOrder renaming go → aGu
open Array.Perm renaming refl → aGz
abbrev C8:=PySem.Value->PySem.Shared->Prop
abbrev N5:=List (PySem.Addr×PySem.Obj)
abbrev cF:=PySem.Str->Option PySem.Value
abbrev yH:=Bool->PySem.Shared->Prop
noncomputable section
namespace L2
open PySem PySem.Spec PyProof.Rows
abbrev wA:=Sum Int Str
def ML:wA->Value->Bool
 |.inl k,v=>Value.isInt k v
 |.inr x,v=>Value.isStrOf x v
def rz (w:World):wA->Int
 |.inl k=>hashInt k
 |.inr x=>hashStr w x
theorem A7:∀{k:wA} {v:Value},ML k v=true->(∃i t,k=aGl i/\v=aGy i t)\/(∃x t,k=aGm x/\v=Value.str x t)
 |.inl i,v,h=>by obtain⟨t,e⟩:=Value.isInt_shape (k:=i) (v:=v) h;exact .inl ⟨i,t,rfl,e⟩
 |.inr x,v,h=>by obtain⟨t,e⟩:=Value.isStrOf_shape (x:=x) (v:=v) h;exact .inr ⟨x,t,rfl,e⟩
def VF (a b:Int):decide ((aGl a:wA)=aGl b)=(a==b):=by
 by_cases e:a=b
 ·subst e;simp
 ·have h:¬(aGl a:wA)=aGl b:=λq=>e (Sum.inl.inj q);rw[decide_eq_false h];exact(beq_eq_false_iff_ne.mpr e).symm
def XM (a b:Str):decide ((aGm a:wA)=aGm b)=decide (a=b):=by
 by_cases e:a=b
 ·subst e;simp
 ·have h:¬(aGm a:wA)=aGm b:=λq=>e (Sum.inr.inj q);rw[decide_eq_false h,decide_eq_false e]
def XQ (a:Int)(b:Str):decide ((aGl a:wA)=aGm b)=false:=decide_eq_false (λq=>nomatch q)
def YF (a:Str)(b:Int):decide ((aGm a:wA)=aGl b)=false:=decide_eq_false (λq=>nomatch q)
def sW (prog:Program)(w:World):PySem.KeyKind prog w wA where
 is:=ML
 hash:=rz w
 inj:=λv a b ha hb=>by
  rcases A7 ha with⟨i,t,rfl,rfl⟩|⟨x,t,rfl,rfl⟩
  ·rcases A7 hb with⟨j,u,rfl,e⟩|⟨y,u,rfl,e⟩
   ·injection e with e1 _;rw[e1]
   ·exact nomatch e
  ·rcases A7 hb with⟨j,u,rfl,e⟩|⟨y,u,rfl,e⟩
   ·exact nomatch e
   ·injection e with e1 _;rw[e1]
 byValue:=λk v h=>by rcases A7 h with⟨i,t,rfl,rfl⟩|⟨x,t,rfl,rfl⟩<;>rfl
 pyHash:=λhv h=>by
  rcases A7 hv with⟨i,t,rfl,rfl⟩|⟨x,t,rfl,rfl⟩
  ·exact wpAny_pyHash_int h
  ·exact wpAny_pyHash_str h
 eqBool:=λhu hv h=>by
  rcases A7 hu with⟨i,t,rfl,rfl⟩|⟨x,t,rfl,rfl⟩
  ·rcases A7 hv with⟨j,u,rfl,rfl⟩|⟨y,u,rfl,rfl⟩
   ·rw[VF]at h;exact wpAny_eqBool_int h
   ·rw[XQ]at h;exact aGd i t y u _ _ _ _ h
  ·rcases A7 hv with⟨j,u,rfl,rfl⟩|⟨y,u,rfl,rfl⟩
   ·rw[YF]at h;exact aGe x t j u _ _ _ _ h
   ·rw[XM]at h;exact wpAny_eqBool_str h
 «strs»:=λk x t v h=>by
  rcases A7 h with⟨i,u,rfl,e⟩|⟨y,u,rfl,e⟩
  ·exact nomatch e
  ·injection e with e1 _;subst e1;cases v<;>rfl
def XJ (prog:Program)(w:World)(k:wA)(v:Value):(sW prog w).is k v=ML k v:=rfl
end L2
namespace L2
open PySem PySem.Spec PyProof.Rows
inductive V where
 |non|bl (b:Bool)|int (i:Int)|str (x:Str)|byt (b:Array UInt8)|flt (b:UInt64)|ref (a:Addr)|ty (n:String)
 deriving DecidableEq
def RelV:V->Value->Prop
 |.non,u=>u=Value.none
 |.bl b,u=>u=aDp b
 |.int i,u=>∃t,u=aGy i t
 |.str x,u=>∃t,u=Value.str x t
 |.byt b,u=>∃t,u=Value.bytes b t
 |.flt b,u=>∃t,u=Value.float b t
 |.ref a,u=>u=aDj a
 |.ty n,u=>u=aCm n
abbrev n8:List V->List Value->Prop:=Paired RelV
def n8.length {xs:List V}{us:List Value}(r:n8 xs us):xs.length=us.length:=Paired.length r
theorem n8.get:∀{xs:List V} {us:List Value} {i:Nat} {x:V},n8 xs us->xs[i]?=some x->∃u,us[i]?=some u/\RelV x u
 |_,_,_,_,.nil,e=>by simp at e
 |_,_,0,_,.cons r _,e=>by simp at e;subst e;exact⟨_,rfl,r⟩
 |_,_,i+1,x,.cons _ t,e=>by obtain⟨u,h1,h2⟩:=n8.get (i:=i) (x:=x) t (by simpa using e);exact⟨u,by simpa using h1,h2⟩
theorem n8.set (r:RelV x u):∀{xs:List V} {us:List Value} (i:Nat),n8 xs us->n8 (xs.set i x) (us.set i u)
 |_,_,_,.nil=>.nil
 |_,_,0,.cons _ t=>.cons r t
 |_,_,i+1,.cons q t=>.cons q (n8.set r i t)
theorem n8.append:∀{xs ys:List V} {us ws:List Value},n8 xs us->n8 ys ws->n8 (xs++ys) (us++ws)
 |_,_,_,_,.nil,s=>s
 |_,_,_,_,.cons r t,s=>.cons r (n8.append t s)
theorem n8.take:∀{xs:List V} {us:List Value} (n:Nat),n8 xs us->n8 (xs.take n) (us.take n)
 |_,_,0,_=>.nil
 |_,_,_+1,.nil=>.nil
 |_,_,n+1,.cons r t=>.cons r (n8.take n t)
theorem n8.drop:∀{xs:List V} {us:List Value} (n:Nat),n8 xs us->n8 (xs.drop n) (us.drop n)
 |_,_,0,r=>r
 |_,_,_+1,.nil=>.nil
 |_,_,n+1,.cons _ t=>n8.drop n t
def ZO:Option V->Option Value->Prop
 |some v,some u=>RelV v u
 |none,none=>True
 |_,_=>False
def KV {κ:Type}:List (κ×V)->List (κ×Value)->Prop:=Paired λ(p:κ×V) (q:κ×Value)=>p.1=q.1/\RelV p.2 q.2
def kV:wA->V
 |.inl i=>.int i
 |.inr x=>.str x
inductive HO where
 |lst (xs:List V)
 |tup (xs:List V)
 |dK (kvs:List (wA×V))|dT (kvs:List (List wA×V))
 |set (S:Int->Bool) (n:Nat)
 |ins (C dx:Addr) (fs:List (Str×V))
 |own (x:Addr)
 |xd (fs:List (Str×V))
 |met (f x:Addr)
 |rng (lo hi:Int)
 |frz (o:Obj) (u:HO)
 |tbl (tb:List (Pos×Str))
 |ext (φ:Heap->Prop)
abbrev Hp:=Addr->Option HO
def upd (H:Hp)(a:Addr)(o:HO):Hp:=λb=>if b=a then some o else H b
def j6:upd H a o a=some o:=by unfold upd;rw[if_pos rfl]
def l5 (h:b≠a):upd H a o b=H b:=by unfold upd;rw[if_neg h]
def t9 {H:Hp}{a b:Addr}{o:HO}(h:H a=some o)(h':H b=none):a≠b:=by intro e;subst e;rw[h]at h';cases h'
section
variable(P:Program) (w:World)
def ObjOk (H:Hp)(h:Heap)(a:Addr):HO->Prop
 |.lst xs=>xs.length<=sizeLine/\∃(its:List Value) (n:Nat),n8 xs its/\h.get? a=some {cls:=.type "list",data:=.seq its.toArray n}
 |.tup xs=>xs.length<=sizeLine/\∃its:List Value,n8 xs its/\IsTup h a its.toArray
 |.dK kvs=>kvs.length<=sizeLine/\(a==sysModules)=false/\∃vs,KV kvs vs/\h.DictOf (sW P w) a vs
 |.dT kvs=>kvs.length<=sizeLine/\(a==sysModules)=false/\∃xs:List (List wA×Addr×Value),
  Paired (λ(p:List wA×V) (q:List wA×Addr×Value)=>p.1=q.1/\H q.2.1=some (.tup (p.1.map kV))/\RelV p.2 q.2.2) kvs xs/\
  ∃o es ep,h.get? a=some o/\o.ExactDict/\o.data=.dict es ep/\es.toList=xs.map (entryOfKey<|tupleKind<|sW P w)/\(xs.map (·.1)).Nodup
 |.set S n=>h.SetOf (intKind P w) a S n
 |.ins C dx fs=>H dx=some (.own a)/\fs.length<=1000/\dx≠a/\h.get? a=some (PySem.W.instObj C dx)/\
  ∃mA,h.Ns1 dx mA/\(∀f,ZO (fs.lookup f) (mA f))/\PySem.Within mA (fs.map (·.1))
 |.own _=>∃o,h.get? a=some o
 |.xd fs=>∃mA,h.Ns1 a mA/\∀f,ZO (fs.lookup f) (mA f)
 |.rng lo hi=>∃t u v,h.get? a=some {cls:=.type "range",data:=.fields #[.int lo t,.int hi u,.int 1 v]}
 |.frz o u=>h.get? a=some o/\ObjOk H h a u
 |.tbl tb=>∃ps:Array Value,h.get? a=some {cls:=.none,data:=.fields ps}/\TriplesOk ps.toList/\∀p∈tb,codeAmong p.1 ps.toList=none\/∃c oc vs t,codeAmong p.1 ps.toList=some (.ref c)/\H c=some (.frz oc (.own c))/\oc.data=.fields vs/\vs[1]?=some (.str p.2 t)
 |.met f x=>h.get? a=some (PySem.W.methodObj (.ref f)<|.ref x)
 |.ext φ=>φ h/\(∃o,h.get? a=some o)/\∀h1 h2:Heap,φ h1->(∀o,h1.get? a=some o->h2.get? a=some o)->φ h2
def UV:HO->Prop
 |.tup _=>True
 |.frz o _=>∃vs,o.data=.fields vs
 |_=>False
def fJ (H:Hp)(h:Heap):Prop:=∀a o,H a=some o->ObjOk P w H h a o
end
section
variable{P:Program} {w:World} {H H':Hp} {h h':Heap} {a:Addr} {o:HO}
def ObjOk.lt (x:ObjOk P w H h a o):a<h.objs.size:=by
 cases o with
 |lst xs=>obtain⟨_,_,_,_,e⟩:=x;exact aAf e
 |tup xs=>obtain⟨_,_,_,p⟩:=x;exact p.lt
 |dK kvs=>obtain⟨_,_,_,_,o,_,_,e,_⟩:=x;exact aAf e
 |dT kvs=>obtain⟨_,_,_,_,o,_,_,e,_⟩:=x;exact aAf e
 |set S n=>obtain⟨o,_,_,_,e,_⟩:=x;exact aAf e
 |ins C dx fs=>obtain⟨_,_,_,e,_⟩:=x;exact aAf e
 |own y=>obtain⟨_,e⟩:=x;exact aAf e
 |xd fs=>obtain⟨_,⟨_,_,_,e,_⟩,_⟩:=x;exact aAf e
 |rng lo hi=>obtain⟨_,_,_,e⟩:=x;exact aAf e
 |frz ob u=>obtain⟨e,_⟩:=x;exact aAf e
 |tbl tb=>obtain⟨_,e,_⟩:=x;exact aAf e
 |met f y=>exact aAf (show h.get? a=some _ from x)
 |ext φ=>obtain⟨_,⟨_,e⟩,_⟩:=x;exact aAf e
theorem Paired.af4 {α β:Type}{F G:α->β->Prop}:∀{l₁:List α} {l₂:List β},Paired F l₁ l₂->(∀a b,F a b->G a b)->Paired G l₁ l₂
 |_,_,.nil,_=>.nil
 |_,_,.cons r t,f=>.cons (f _ _ r) (Paired.af4 t f)
def ObjOk.ab7 (x:ObjOk P w H h a o)(k:∀b u,(b=a\/H b=some (.own a))->h.get? b=some u->h'.get? b=some u)
  (ho:∀b,H b=some (.own a)->H' b=some (.own a)) (ht:∀b u,UV u->H b=some u->H' b=some u):ObjOk P w H' h' a o:=by
 induction o with
 |lst xs=>obtain⟨z,its,n,r,e⟩:=x;exact⟨z,its,n,r,k _ _ (.inl rfl) e⟩
 |tup xs=>obtain⟨z,its,r,ob,e,c⟩:=x;exact⟨z,its,r,ob,k _ _ (.inl rfl) e,c⟩
 |dK kvs=>obtain⟨z,y,vs,r,ob,es,ep,e,c⟩:=x;exact⟨z,y,vs,r,ob,es,ep,k _ _ (.inl rfl) e,c⟩
 |dT kvs=>obtain⟨z,y,xs,r,ob,es,ep,e,c⟩:=x;exact⟨z,y,xs,Paired.af4 r λp q z=>⟨z.1,ht _ _ trivial z.2.1,z.2.2⟩,ob,es,ep,k _ _ (.inl rfl) e,c⟩
 |set S n=>obtain⟨ob,es,ep,t,e,c⟩:=x;exact⟨ob,es,ep,t,k _ _ (.inl rfl) e,c⟩
 |ins C dx fs=>obtain⟨d,z,ne,e,mA,⟨od,es,ep,e2,c⟩,r⟩:=x;exact⟨ho _ d,z,ne,k _ _ (.inl rfl) e,mA,⟨od,es,ep,k _ _ (.inr d) e2,c⟩,r⟩
 |own y=>obtain⟨ob,e⟩:=x;exact⟨ob,k _ _ (.inl rfl) e⟩
 |xd fs=>obtain⟨mA,⟨od,es,ep,e,c⟩,r⟩:=x;exact⟨mA,⟨od,es,ep,k _ _ (.inl rfl) e,c⟩,r⟩
 |rng lo hi=>obtain⟨t,u,v,e⟩:=x;exact⟨t,u,v,k _ _ (.inl rfl) e⟩
 |frz ob u ih=>obtain⟨e,q⟩:=x;exact⟨k _ _ (.inl rfl) e,ih q⟩
 |tbl tb=>obtain⟨ps,e,t,f⟩:=x;exact⟨ps,k a _ (.inl rfl) e,t,λp hp=>(f p hp).imp id λ⟨c,oc,vs,t,e1,e2,e3⟩=>⟨c,oc,vs,t,e1,ht _ _ ⟨vs,e3.1⟩ e2,e3⟩⟩
 |met f y=>have e:h.get? a=some (PySem.W.methodObj (.ref f)<|.ref y):=x;show h'.get? a=some (PySem.W.methodObj (.ref f)<|.ref y);exact k a _ (.inl rfl) e
 |ext φ=>obtain⟨p,⟨o,e⟩,st⟩:=x;exact⟨st _ _ p λo q=>k _ _ (.inl rfl) q,⟨o,k _ _ (.inl rfl) e⟩,st⟩
def fJ.lt (x:fJ P w H h)(e:H a=some o):a<h.objs.size:=(x a o e).lt
def fJ.fresh (x:fJ P w H h)(e:h.objs.size<=a):H a=none:=by
 cases q:H a with
 |none=>rfl
 |some u=>exact absurd (aAs (x.lt q) e) (aBe _)
def fJ.kept (x:fJ P w H h)(k:∀b u,h.get? b=some u->h'.get? b=some u):fJ P w H h':=λa o e=>(x a o e).ab7 (λb u _ q=>k b u q) (λ_ q=>q) λ_ _ _ q=>q
def fJ.laid (x:fJ P w H h)(k:∀b u,h.get? b=some u->h'.get? b=some u)(hp:h.objs.size<=a)(new:ObjOk P w (upd H a o) h' a o):fJ P w (upd H a o) h':=λb u e=>by
 have hn:=x.fresh hp;by_cases hb:b=a
 ·subst hb;rw[j6]at e;cases e;exact new
 ·rw[l5 hb]at e;exact(x b u e).ab7 (λc v _ q=>k c v q) (λc q=>by rw[l5 (t9 q hn)];exact q) λc xs _ q=>by rw[l5 (t9 q hn)];exact q
end
def Rd (H:Hp)(a:Addr)(u:HO):Prop:=H a=some u\/∃o,H a=some (.frz o u)
def Rd.ok (r:Rd H a u)(x:fJ P w H h):ObjOk P w H h a u:=by
 rcases r with r|⟨o,r⟩
 ·exact x a u r
 ·obtain⟨_,q⟩:=x a _ r;exact q
def kz:Option HO->Prop
 |some (.lst _)=>True
 |some (.dK _)=>True
 |some (.dT _)=>True
 |some (.set _ _)=>True
 |some (.ins _ _ _)=>True
 |some (.ext _)=>True
 |_=>False
section
variable{P:Program} {w:World} {H:Hp} {h h':Heap} {x e:Addr} {o':HO}
def fJ.write (ok:fJ P w H h)(mu:kz (H x))(he:e=x\/H e=some (.own x))(k:∀b u,b≠e->h.get? b=some u->h'.get? b=some u)(heo:∃u,h'.get? e=some u)
  (new:ObjOk P w (upd H x o') h' x o'):fJ P w (upd H x o') h':=λb u q=>by
 have nown:∀c y,H c=some (.own y)->c≠x:=λc y r z=>by subst z;rw[r]at mu;exact mu
 have ntup:∀c u,UV u->H c=some u->c≠x:=λc u f r z=>by subst z;rw[r]at mu;cases u<;>first|exact mu|exact f
 by_cases hb:b=x
 ·subst hb;rw[j6]at q;cases q;exact new
 ·rw[l5 hb]at q;by_cases yf:b=e
  ·have q':H b=some (.own x):=by
    rcases he with z|z
    ·exact absurd (yf.trans z) hb
    ·rw[yf];exact z
   rw[q]at q';cases q';obtain⟨v,hv⟩:=heo;exact⟨v,by rw[yf];exact hv⟩
  ·refine(ok b u q).ab7 (λc v hc r=>k c v ?_ r) (λc r=>by rw[l5 (nown c b r)];exact r) λc xs f r=>by rw[l5 (ntup c xs f r)];exact r
   rcases hc with rfl|hc
   ·exact yf
   ·rintro rfl;rcases he with z|z
    ·exact nown c b hc z
    ·rw[hc]at z;cases z;exact hb rfl
end
structure Un (fs ex:List Addr)(H H':Hp)(h h':Heap):Prop where
 keep:∀b o,h.get? b=some o->H b=none->b∉fs->b∉ex->h'.get? b=some o
 slot:∀b o,h.get? b=some o->H b=none->b∈fs->b∉ex->∃sl,h'.get? b=some {o with slots:=sl}
 free:∀b o,h.get? b=some o->H b=none->b∉ex->H' b=none
 there:∀b o,h.get? b=some o->b∉ex->∃o',h'.get? b=some o'
 tups:∀b xs,H b=some (.tup xs)->H' b=some (.tup xs)
 frzs:∀b o u,H b=some (.frz o u)->H' b=some (.frz o u)
 tbls:∀b tb,H b=some (.tbl tb)->H' b=some (.tbl tb)
section
variable{fs xf ex ex':List Addr} {H H1 H2:Hp} {h h1 h2 h':Heap} {a x e:Addr} {o:HO}
def Un.any (u:Un fs ex H H1 h h1)(q:h.get? b=some ob)(n:H b=none)(hx:b∉ex):∃sl,h1.get? b=some {ob with slots:=sl}:=by
 by_cases hb:b∈fs
 ·exact u.slot b ob q n hb hx
 ·exact⟨ob.slots,u.keep b ob q n hb hx⟩
def Un.kept (k:∀b u,h.get? b=some u->h'.get? b=some u):Un fs ex H H h h':=
 ⟨λb ob q _ _ _=>k b ob q,λb ob q _ _ _=>⟨ob.slots,k b ob q⟩,λ_ _ _ n _=>n,λb ob q _=>⟨ob,k b ob q⟩,λ_ _ q=>q,λ_ _ _ q=>q,λ_ _ q=>q⟩
def Un.refl:Un fs ex H H h h:=Un.kept λ_ _ q=>q
def Un.laid (k:∀b u,h.get? b=some u->h'.get? b=some u)(hp:h.objs.size<=a)(hn:H a=none):Un fs ex H (upd H a o) h h' where
 keep:=λb u q _ _ _=>k b u q
 slot:=λb u q _ _ _=>⟨u.slots,k b u q⟩
 free:=λb u q n _=>by rw[l5 (aAi<|aAs (aAf q) hp)];exact n
 there:=λb u q _=>⟨u,k b u q⟩
 tups:=λb xs q=>by rw[l5 (t9 q hn)];exact q
 frzs:=λb u xs q=>by rw[l5 (t9 q hn)];exact q
 tbls:=λb ps q=>by rw[l5 (t9 q hn)];exact q
def Un.write (mu:kz (H x))(he:e=x\/H e=some (.own x))(k:∀b u,b≠e->h.get? b=some u->h'.get? b=some u)(heo:∃u,h'.get? e=some u):Un fs ex H (upd H x o) h h':=by
 have hx:∀b,H b=none->b≠x:=λb n z=>by subst z;rw[n]at mu;exact mu
 have hb:∀b,H b=none->b≠e:=λb n z=>by
  subst z;rcases he with r|r
  ·exact hx b n r
  ·rw[n]at r;cases r
 have hm:∀b u,H b=some u->¬kz (some u)->b≠x:=λb u q nm z=>by subst z;rw[q]at mu;exact nm mu
 refine⟨λb u q n _ _=>k b u (hb b n) q,λb u q n _ _=>⟨u.slots,k b u (hb b n) q⟩,λb u q n _=>by rw[l5 (hx b n)];exact n,λb u q _=>?_,
  λb xs q=>by rw[l5 (hm b _ q λz=>z)];exact q,λb u xs q=>by rw[l5 (hm b _ q λz=>z)];exact q,λb ps q=>by rw[l5 (hm b _ q λz=>z)];exact q⟩
 by_cases yf:b=e
 ·subst yf;exact heo
 ·exact⟨u,k b u yf q⟩
end
def trk (h:Heap)(H:Hp):List Addr:=(aBu h.objs.size).filter λa=>(H a).isSome
def qB (h:Heap)(H:Hp):Heap:=PySem.W.hideAll h (trk h H)
def IE (h:Heap)(H:Hp):(qB h H).objs.size=h.objs.size:=PySem.W.hideAll_size _ _
def OO (e:h.get? b=some o)(n:H b=none):(qB h H).get? b=some o:=
 PySem.W.hideAll_get _ e λhm=>by have q:(H b).isSome=true:=(aCz.mp hm).2;rw[n]at q;simp at q
def QP (e:(qB h H).get? b=some o):h.get? b=some o/\H b=none:=by
 have e':h.get? b=some o:=PySem.W.of_hideAll (trk h H) e;refine⟨e',?_⟩;cases q:H b with
 |none=>rfl
 |some x=>have hm:b∈trk h H:=aCz.mpr ⟨aCv.mpr (aAf e'),by simp[q]⟩;have z:(qB h H).get? b=none:=PySem.W.hideAll_none (trk h H) hm;rw[z]at e;cases e
def SE (g h:Heap)(L:Addr):List (Addr×Obj):=(aBu h.objs.size).filterMap λa=>if a=L\/(g.get? a).isSome=true then none else(h.get? a).map λo=>(a,o)
def rest (g h:Heap)(L d:Addr):List (Addr×Obj):=(SE g h L).filter λp=>decide (p.1≠d)
end L2
namespace L2
open PySem PySem.Spec PyProof.Rows
structure Mod (K:PySem.W.Frag)(mg:cF)(base:Heap):Prop where
 kin:K.In base
 glob:base.Ns mainGlobals mg
 blt:∃mb,base.Ns builtinsNs mb/\∀x:Str,x≠ "__name__"->mb x=bootBuiltins x
 nolimit:base.NoLimit
structure Cx where
 prog:Program
 w:World
 K:PySem.W.Frag
 mg:Str->Option Value
 base:Heap
 A:Around
 N:List Str
 s9:Shared
 H9:Hp
 env:Env
 outer:List Env
 stack:List Env
 ex:List Addr
 fn:Str->Bool
 calm:Bool
 pn:List (Addr×Obj)
 xe:Value->Shared->Prop
def yV (l:List Env):List Addr:=l.filterMap (·.frame)
abbrev Cx.fs (X:Cx):List Addr:=yV X.outer
def zJ (sc:Scope)(x:Str):Prop:=sc.names.lookup x=some .local\/sc.names.lookup x=some .cell\/sc.names.lookup x=some .free
def Loc (sc:Scope)(x:Str):Prop:=sc.names.lookup x=some .local\/sc.names.lookup x=some .cell
def Look (env:Env)(h:Heap)(m:cF)(x:Str)(u:Value):Prop:=
 (env.kindOf x=some .local/\m x=some u)\/((env.kindOf x=some .cell\/env.kindOf x=some .free)/\∃c,env.cells.lookup x=some c/\h.IsCell c (some u))
structure Cx.Ok (X:Cx):Prop where
 mod:Mod X.K X.mg X.base
 kind:X.env.scope.kind=.function
 glob:X.env.globals=mainGlobals
 blt:X.env.builtins=builtinsNs
 above:X.s9.heap.objs.size<=X.env.locals
 inj:∀x y c,X.env.cells.lookup x=some c->X.env.cells.lookup y=some c->x=y
 has:∀x,(X.env.kindOf x=some .cell\/X.env.kindOf x=some .free)->∃c,X.env.cells.lookup x=some c
 cab:∀x c,X.fn x=true->X.env.cells.lookup x=some c->X.s9.heap.objs.size<=c
 hd:X.calm=true->X.A.handled=none
 frames:X.A.frames=some X.stack
 stk:X.stack=X.outer\/(X.stack=X.env::X.outer/\X.env.frame=some X.env.locals)
 exf:∀b∈X.ex,b≠X.env.locals/\∀x c,X.env.cells.lookup x=some c->c≠b
 bs:∀b o,X.base.get? b=some o->X.s9.heap.get? b=some o/\X.H9 b=none
 bsz:X.base.objs.size<=X.s9.heap.objs.size
 noex:∀b o,X.base.get? b=some o->b∉X.ex
 exfs:∀b∈X.ex,b∉X.fs
 funs:X.s9.heap.FunFrames X.base X.outer
 frf:∀b∈X.fs,X.H9 b=none
structure Inv (X:Cx)(pins:N5)(σ:List (Option V))(H:Hp)(s:Shared):Prop where
 ok:X.Ok
 os:s.os=X.s9.os
 bare:AllBare s.gens
 base:Un X.fs X.ex X.H9 H X.s9.heap s.heap
 loc:∃m,s.heap.Ns X.env.locals m/\∀(i:Nat) (x:Str) (v:V),X.N[i]?=some x->σ[i]?=some (some v)->zJ X.env.scope x->∃u,RelV v u/\Look X.env s.heap m x u
 cell:∀x c,X.env.cells.lookup x=some c->∃v,s.heap.IsCell c v
 free:H X.env.locals=none
 freeC:∀x c,X.env.cells.lookup x=some c->H c=none
 pin:∀p∈X.pn++pins,s.heap.get? p.1=some p.2/\H p.1=none/\p.1≠X.env.locals/\p.1∉X.fs/\∀v,p.2.data≠.cell v
 hok:fJ X.prog X.w H s.heap
 len:σ.length=X.N.length
section
variable{X:Cx} {pins:N5} {σ:List (Option V)} {H H':Hp} {s:Shared} {h':Heap}
def Cx.Ok.nofr (ok:X.Ok)(e:X.base.get? b=some o):b∉X.fs:=λhb=>by have:=(ok.funs.mem hb).1;rw[e]at this;cases this
def Inv.bs (I:Inv X pins σ H s):∀b o,X.base.get? b=some o->s.heap.get? b=some o/\H b=none:=λb o e=>⟨I.base.keep b o (I.ok.bs b o e).1 (I.ok.bs b o e).2 (I.ok.nofr e) (I.ok.noex b o e),I.base.free b o (I.ok.bs b o e).1 (I.ok.bs b o e).2 (I.ok.noex b o e)⟩
def Inv.bk (I:Inv X pins σ H s):∀b o,X.base.get? b=some o->s.heap.get? b=some o:=λb o e=>(I.bs b o e).1
def Inv.mod (I:Inv X pins σ H s):Mod X.K X.mg X.base:=I.ok.mod
def Inv.kIn (I:Inv X pins σ H s):X.K.In s.heap:=I.ok.mod.kin.keeps I.bk
def Inv.lt (I:Inv X pins σ H s):X.env.locals<s.heap.objs.size:=let⟨_,hn,_⟩:=I.loc;hn.lt
def Inv.sz (I:Inv X pins σ H s):X.s9.heap.objs.size<=s.heap.objs.size:=aAr I.ok.above (aDk I.lt)
def Inv.ag1 (I:Inv X pins σ H s)(h:s.heap.objs.size<=a):a∉X.fs:=λhb=>by obtain⟨_,o,ho,_⟩:=I.ok.funs.mem hb;exact absurd (aAs (aAf ho)<|aAr I.sz h) (aBe _)
def Inv.cne (I:Inv X pins σ H s):∀x c,X.env.cells.lookup x=some c->c≠X.env.locals:=λx c e z=>by obtain⟨v,o,ho,hd⟩:=I.cell x c e;obtain⟨m,⟨o',es,ep,yg,ng,_⟩,_⟩:=I.loc;rw[z,yg]at ho;cases ho;rw[ng]at hd;cases hd
def Inv.funs (I:Inv X pins σ H s):s.heap.FunFrames X.base X.outer:=by
 have all:∀(l:List Env),(∀b∈yV l,b∈X.fs)->X.s9.heap.FunFrames X.base l->s.heap.FunFrames X.base l:=by
  intro l;induction l with
  |nil=>intro _ _;trivial
  |cons env r ih=>intro hs hl;obtain⟨hk,⟨L,o,hf,hn,ho,hd⟩,hr⟩:=hl;have hL:L∈X.fs:=hs L (by unfold yV;rw[aCA,hf];exact aAL);obtain⟨sl,e⟩:=I.base.slot L o ho (I.ok.frf L hL) hL λz=>I.ok.exfs L z hL;exact⟨hk,⟨L,_,hf,hn,e,hd⟩,ih (λb hb=>hs b (by unfold yV;rw[aCA,hf];exact aAe _ hb)) hr⟩
 exact all X.outer (λ_ hb=>hb) I.ok.funs
def Inv.stack (I:Inv X pins σ H s):s.heap.FunFrames X.base X.stack:=by
 rcases I.ok.stk with e|⟨e,hf⟩
 ·rw[e];exact I.funs
 ·rw[e];obtain⟨m,hn,_⟩:=I.loc;refine .cons (by rw[I.ok.kind];decide) hf hn ?_ I.funs;exact aEo (aAr I.ok.bsz I.ok.above)
def Inv.ab6 (I:Inv X pins σ H s):∀b∈yV X.stack,b∈X.env.locals::X.fs:=λb hb=>by
 rcases I.ok.stk with e|⟨e,hf⟩
 ·rw[e]at hb;exact aAe _ hb
 ·rw[e]at hb;unfold yV at hb;rw[aCA,hf]at hb;exact hb
def Inv.ad4 (I:Inv X pins σ H s):∀b∈yV X.stack,H b=none:=λb hb=>by
 rcases aAd.mp (I.ab6 b hb)with e|hb
 ·rw[e];exact I.free
 ·obtain⟨_,o,ho,_⟩:=I.ok.funs.mem hb;exact I.base.free b o ho (I.ok.frf b hb) λz=>I.ok.exfs b z hb
def Inv.step {g':Array GenState}{t':Nat}{d':Drawn}{ch:List Addr}(I:Inv X pins σ H s)
  (xg:∀b∈ch,(b∈X.ex\/X.s9.heap.objs.size<=b)/\b≠X.env.locals/\(∀x c,X.env.cells.lookup x=some c->c≠b)/\∀p∈X.pn++pins,p.1≠b)
  (keep:∀b o,b≠X.env.locals->b∉X.fs->b∉ch->s.heap.get? b=some o->H b=none->h'.get? b=some o)
  (slot:∀b o,b≠X.env.locals->b∈X.fs->b∉ch->s.heap.get? b=some o->H b=none->∃sl,h'.get? b=some {o with slots:=sl}) (free:∀b o,b∉ch->s.heap.get? b=some o->H b=none->H' b=none)
  (there:∀b o,b∉ch->s.heap.get? b=some o->∃o',h'.get? b=some o')
  (tups:∀b xs,H b=some (.tup xs)->H' b=some (.tup xs)) (frzs:∀b o u,H b=some (.frz o u)->H' b=some (.frz o u)) (tbls:∀b tb,H b=some (.tbl tb)->H' b=some (.tbl tb))
  (ns:∀m,s.heap.Ns X.env.locals m->h'.Ns X.env.locals m) (hok:fJ X.prog X.w H' h') (hg:AllBare g'):
  Inv X pins σ H' {s with heap:=h',gens:=g',drawn:=d',toks:=t'}:=by
 have neL:∀b o,X.s9.heap.get? b=some o->b≠X.env.locals:=λb o e=>aAi (aAs (aAf e) I.ok.above);have neC:∀b o,X.s9.heap.get? b=some o->b∉X.ex->b∉ch:=λb o e hx hb=>by
  rcases(xg b hb).1 with z|z
  ·exact hx z
  ·exact absurd (aAs (aAf e) z) (aBe _)
 have cellK:∀x c,X.env.cells.lookup x=some c->∀v,s.heap.IsCell c v->h'.IsCell c v:=λx c e v ⟨o,ho,hd⟩=>by
  have nch:c∉ch:=λz=>(xg c z).2.2.1 x c e rfl;by_cases hc:c∈X.fs
  ·obtain⟨sl,q⟩:=slot c o (I.cne x c e) hc nch ho (I.freeC x c e);exact⟨_,q,hd⟩
  ·exact⟨o,keep c o (I.cne x c e) hc nch ho (I.freeC x c e),hd⟩
 refine⟨I.ok,I.os,hg,⟨λb o e n hb hx=>?_,λb o e n hb hx=>?_,λb o e n hx=>?_,λb o e hx=>?_,λb xs e=>tups b xs (I.base.tups b xs e),λb o xs e=>frzs b o xs (I.base.frzs b o xs e),λb ps e=>?_⟩,?_,λx c e=>?_,?_,λx c e=>?_,λp hp=>?_,hok,I.len⟩
 ·exact keep b o (neL b o e) hb (neC b o e hx) (I.base.keep b o e n hb hx) (I.base.free b o e n hx)
 ·obtain⟨sl,e1⟩:=I.base.slot b o e n hb hx;obtain⟨sl',e2⟩:=slot b _ (neL b o e) hb (neC b o e hx) e1 (I.base.free b o e n hx);exact⟨sl',e2⟩
 ·obtain⟨o',e1⟩:=I.base.there b o e hx;exact free b o' (neC b o e hx) e1 (I.base.free b o e n hx)
 ·obtain⟨o',e1⟩:=I.base.there b o e hx;exact there b o' (neC b o e hx) e1
 ·exact tbls b ps (I.base.tbls b ps e)
 ·obtain⟨m,hn,hl⟩:=I.loc;refine⟨m,ns m hn,λi x v e1 e2 e3=>?_⟩;obtain⟨u,r,l⟩:=hl i x v e1 e2 e3;refine⟨u,r,?_⟩;rcases l with l|⟨k,c,e,z⟩
  ·exact .inl l
  ·exact .inr ⟨k,c,e,cellK x c e _ z⟩
 ·obtain⟨v,z⟩:=I.cell x c e;exact⟨v,cellK x c e v z⟩
 ·obtain⟨m,⟨o,_,_,ho,_⟩,_⟩:=I.loc;exact free _ o (λz=>(xg _ z).2.1 rfl) ho I.free
 ·obtain⟨v,o,ho,hd⟩:=I.cell x c e;exact free c o (λz=>(xg c z).2.2.1 x c e rfl) ho (I.freeC x c e)
 ·obtain⟨e,n,ne,nf,d⟩:=I.pin p hp;have nch:p.1∉ch:=λz=>(xg p.1 z).2.2.2 p hp rfl;exact⟨keep p.1 p.2 ne nf nch e n,free p.1 p.2 nch e n,ne,nf,d⟩
def Inv.un {t':Nat}(I:Inv X pins σ H s)(u:Un X.fs [] H H' s.heap h')(hok:fJ X.prog X.w H' h'):Inv X pins σ H' {s with heap:=h',toks:=t'}:=by
 obtain⟨m,⟨o,es,ep,ho,r⟩,_⟩:=id I.loc;obtain⟨sl,hL⟩:=u.any ho I.free (by simp);exact I.step (g':=s.gens) (d':=s.drawn) (ch:=[]) (λ_ z=>nomatch z) (λb o _ hb _ e n=>u.keep b o e n hb (by simp)) (λb o _ hb _ e n=>u.slot b o e n hb (by simp)) (λb o _ e n=>u.free b o e n (by simp)) (λb o _ e=>u.there b o e (by simp)) u.tups u.frzs u.tbls (λm' hm=>by obtain⟨o',es',ep',yg,r'⟩:=hm;rw[ho]at yg;cases yg;exact⟨_,es',ep',hL,r'⟩) hok I.bare
def Inv.call {g':Array GenState}{t':Nat}{d':Drawn}{ch:List Addr}(I:Inv X pins σ H s)(u:Un (yV X.stack) ch H H' s.heap h')(hok:fJ X.prog X.w H' h')(hg:AllBare g')
  (xg:∀b∈ch,(b∈X.ex\/X.s9.heap.objs.size<=b)/\b≠X.env.locals/\(∀x c,X.env.cells.lookup x=some c->c≠b)/\∀p∈X.pn++pins,p.1≠b):
  Inv X pins σ H' {s with heap:=h',gens:=g',drawn:=d',toks:=t'}:=by
 obtain⟨m,⟨o,es,ep,ho,r⟩,_⟩:=id I.loc;obtain⟨sl,hL⟩:=u.any ho I.free λz=>(xg _ z).2.1 rfl;exact I.step (ch:=ch) xg (λb o hL hb hc e n=>u.keep b o e n (λz=>(aAd.mp<|I.ab6 b z).elim hL hb) hc) (λb o _ _ hc e n=>u.any e n hc) (λb o hc e n=>u.free b o e n hc) (λb o hc e=>u.there b o e hc) u.tups u.frzs u.tbls (λm' hm=>by obtain⟨o',es',ep',yg,r'⟩:=hm;rw[ho]at yg;cases yg;exact⟨_,es',ep',hL,r'⟩) hok hg
def Inv.turned {t':Nat}{it:Addr}(I:Inv X pins σ H s)(k:∀b o,b≠it->s.heap.get? b=some o->h'.get? b=some o)(hn:H it=none)(hL:it≠X.env.locals)
  (h1:it∈X.ex\/X.s9.heap.objs.size<=it) (h2:∀x c,X.env.cells.lookup x=some c->c≠it) (h3:∀p∈X.pn++pins,p.1≠it):Inv X pins σ H {s with heap:=h',toks:=t'}:=by
 have nit:∀b u,H b=some u->b≠it:=λb u e z=>by rw[z,hn]at e;cases e
 refine I.step (g':=s.gens) (d':=s.drawn) (ch:=[it]) (λb hb=>?_) (λb o _ _ hc e _=>k b o (λz=>hc (by simp[z])) e) (λb o _ _ hc e _=>⟨o.slots,k b o (λz=>hc (by simp[z])) e⟩) (λ_ _ _ _ n=>n)
  (λb o hc e=>⟨o,k b o (λz=>hc (by simp[z])) e⟩) (λ_ _ e=>e) (λ_ _ _ e=>e) (λ_ _ e=>e) (λm hm=>?_) (λb u e=>?_) I.bare
 ·have e:b=it:=by simpa using hb
  subst e;exact⟨h1,hL,h2,h3⟩
 ·obtain⟨o,es,ep,ho,r⟩:=hm;exact⟨o,es,ep,k _ o (aCb hL) ho,r⟩
 ·refine(I.hok b u e).ab7 (λc v hc q=>k c v ?_ q) (λ_ q=>q) λ_ _ _ q=>q;rcases hc with z|z
  ·rw[z];exact nit b u e
  ·exact nit c _ z
def Inv.tok (I:Inv X pins σ H s)(t:Nat):Inv X pins σ H {s with toks:=t}:=I.un (h':=s.heap) (t':=t) Un.refl I.hok
def Inv.kept (I:Inv X pins σ H s)(k:∀b u,s.heap.get? b=some u->h'.get? b=some u):Inv X pins σ H {s with heap:=h',toks:=t'}:=I.un (Un.kept k) (I.hok.kept k)
def Inv.laid (I:Inv X pins σ H s)(k:∀b u,s.heap.get? b=some u->h'.get? b=some u)(hp:s.heap.objs.size<=a)(new:ObjOk X.prog X.w (upd H a o) h' a o):
 Inv X pins σ (upd H a o) {s with heap:=h',toks:=t'}:=I.un (Un.laid k hp<|I.hok.fresh hp) (I.hok.laid k hp new)
def Inv.write (I:Inv X pins σ H s)(mu:kz (H x))(he:e=x\/H e=some (.own x))(k:∀b u,b≠e->s.heap.get? b=some u->h'.get? b=some u)(heo:∃u,h'.get? e=some u)(new:ObjOk X.prog X.w (upd H x o) h' x o):Inv X pins σ (upd H x o) {s with heap:=h',toks:=t'}:=I.un (Un.write mu he k heo) (I.hok.write mu he k heo new)
def Inv.ad5 (I:Inv X pins σ H s)(h:∀p∈pins',s.heap.get? p.1=some p.2/\H p.1=none/\p.1≠X.env.locals/\p.1∉X.fs/\∀v,p.2.data≠.cell v):Inv X pins' σ H s:=
 ⟨I.ok,I.os,I.bare,I.base,I.loc,I.cell,I.free,I.freeC,λp hp=>(aAP.mp hp).elim (λz=>I.pin p (aBE _ z)) (h p),I.hok,I.len⟩
def xL {N:List Str}(hN:N.Nodup){i j:Nat}{x:Str}(a:N[i]?=some x)(b:N[j]?=some x):i=j:=by obtain⟨h1,e1⟩:=aAv.mp a;obtain⟨h2,e2⟩:=aAv.mp b;exact(List.getElem_inj hN).mp (e1.trans e2.symm)
def kT {M:Model}{A:Around}{E:C8}{i:Nat}{x:Str}{v:V}{u:Value}{Q:Unit->Shared->Prop}(I:Inv X pins σ H s)(hN:X.N.Nodup)(hi:X.N[i]?=some x)(hx:Loc X.env.scope x)(r:RelV v u)
  (h:∀s',Inv X pins (σ.set i (some v)) H s'->(∃a,Heap.SameBut a s.heap s'.heap/\(a=X.env.locals\/X.env.cells.lookup x=some a))->Q () s') (hf:X.fn x=true\/X.env.scope.names.lookup x=some .local:=by first|exact .inl rfl|exact .inr rfl|assumption):wpAny M A (storeName X.env x u) Q E s:=by
 obtain⟨m,hn,hl⟩:=id I.loc;have hcls:(X.env.scope.kind==.class||(X.env.scope.kind==.module&&X.env.locals !=X.env.globals))=false:=by rw[I.ok.kind];rfl
 have hiσ:i<σ.length:=by rw[I.len];exact(aAv.mp hi).1
 have cne:=I.cne;have tracked:∀{a:Addr} {h':Heap},(∃o,s.heap.get? a=some o/\H a=none)->Heap.SameBut a s.heap h'->fJ X.prog X.w H h':=λ{a h'} ha hs b ob e=>by
  obtain⟨_,_,jl⟩:=ha;refine(I.hok b ob e).ab7 (λc w' hc q=>(hs.2 c ?_).trans q) (λ_ q=>q) λ_ _ _ q=>q;rintro rfl;rcases hc with rfl|hc
  ·rw[jl]at e;cases e
  ·rw[jl]at hc;cases hc
 rcases hx with hk|hk
 ·refine wpAny_storeName_local hk hn (λh' hn' hs=>?_) hcls;obtain⟨oL,_,_,hoL,_⟩:=id hn;refine h _ ⟨I.ok,I.os,I.bare,⟨λb o e n hb hx=>?_,λb o e n hb hx=>?_,I.base.free,λb o e hx=>?_,I.base.tups,I.base.frzs,I.base.tbls⟩,⟨_,hn',λj y v' e1 e2 e3=>?_⟩,λy c e=>?_,I.free,I.freeC,λp hp=>?_,tracked ⟨oL,hoL,I.free⟩ hs,by simpa using I.len⟩ ⟨_,hs,.inl rfl⟩
  ·exact(hs.2 b (aAi<|aAs (aAf e) I.ok.above)).trans (I.base.keep b o e n hb hx)
  ·obtain⟨sl,e1⟩:=I.base.slot b o e n hb hx;exact⟨sl,(hs.2 b (aAi<|aAs (aAf e) I.ok.above)).trans e1⟩
  ·obtain⟨o',e1⟩:=I.base.there b o e hx;exact⟨o',(hs.2 b (aAi<|aAs (aAf e) I.ok.above)).trans e1⟩
  ·by_cases hj:j=i
   ·subst hj;rw[hi]at e1;cases e1;rw[aBI hiσ]at e2;cases e2;exact⟨u,r,.inl ⟨hk,by simp⟩⟩
   ·rw[aCs (aCb hj)]at e2;obtain⟨u',r',q⟩:=hl j y v' e1 e2 e3;refine⟨u',r',?_⟩;rcases q with⟨k,e⟩|⟨k,c,e,z⟩
    ·refine .inl ⟨k,?_⟩;have:y≠x:=λe=>hj (xL hN e1<|e▸hi);simp[this,e]
    ·exact .inr ⟨k,c,e,z.sameBut hs (cne y c e)⟩
  ·obtain⟨w',z⟩:=I.cell y c e;exact⟨w',z.sameBut hs (cne y c e)⟩
  ·obtain⟨e,n,ne,nf,d⟩:=I.pin p hp;exact⟨(hs.2 p.1 ne).trans e,n,ne,nf,d⟩
 ·have xh:X.fn x=true:=by
   rcases hf with z|z
   ·exact z
   ·rw[z]at hk;cases hk
  obtain⟨c,hc⟩:=I.ok.has x (.inl hk);obtain⟨w',z⟩:=I.cell x c hc;refine wpAny_storeName_cell I.ok.kind hk hc z (λh' xi hs=>?_);obtain⟨oc,dg,hocd⟩:=id z;refine h {s with heap:=h'} ⟨I.ok,I.os,I.bare,⟨λb o e n hb hx=>?_,λb o e n hb hx=>?_,I.base.free,λb o e hx=>?_,I.base.tups,I.base.frzs,I.base.tbls⟩,⟨m,hn.sameBut hs (aCb<|cne x c hc),λj y v' e1 e2 e3=>?_⟩,λy c' e=>?_,I.free,I.freeC,λp hp=>?_,tracked ⟨oc,dg,I.freeC x c hc⟩ hs,by simpa using I.len⟩ ⟨c,hs,.inr hc⟩
  ·exact(hs.2 b (aAi<|aAs (aAf e)<|I.ok.cab x c xh hc)).trans (I.base.keep b o e n hb hx)
  ·obtain⟨sl,e1⟩:=I.base.slot b o e n hb hx;exact⟨sl,(hs.2 b (aAi<|aAs (aAf e)<|I.ok.cab x c xh hc)).trans e1⟩
  ·obtain⟨o',e1⟩:=I.base.there b o e hx;exact⟨o',(hs.2 b (aAi<|aAs (aAf e)<|I.ok.cab x c xh hc)).trans e1⟩
  ·by_cases hj:j=i
   ·subst hj;rw[hi]at e1;cases e1;rw[aBI hiσ]at e2;cases e2;exact⟨u,r,.inr ⟨.inl hk,c,hc,xi⟩⟩
   ·rw[aCs (aCb hj)]at e2;obtain⟨u',r',q⟩:=hl j y v' e1 e2 e3;refine⟨u',r',?_⟩;rcases q with q|⟨k,c',e,z'⟩
    ·exact .inl q
    ·refine .inr ⟨k,c',e,z'.sameBut hs ?_⟩;rintro rfl;exact hj (xL hN e1<|I.ok.inj _ _ _ e hc▸hi)
  ·by_cases hcc:c'=c
   ·subst hcc;exact⟨_,xi⟩
   ·obtain⟨w2,z2⟩:=I.cell y c' e;exact⟨w2,z2.sameBut hs hcc⟩
  ·obtain⟨e,n,ne,nf,d⟩:=I.pin p hp;refine⟨(hs.2 p.1 ?_).trans e,n,ne,nf,d⟩;intro q;rw[q,dg]at e;have q':oc=p.2:=aAj e;exact d w' (by rw[<-q'];exact hocd)
def Q5 {E:C8}{Q:Unit->Shared->Prop}(I:Inv X pins σ H s)(hN:X.N.Nodup)(hi:X.N[i]?=some x)(hx:Loc X.env.scope x)(r:RelV v u)(h:∀s',Inv X pins (σ.set i (some v)) H s'->Q () s')(hf:X.fn x=true\/X.env.scope.names.lookup x=some .local:=by first|exact .inl rfl|exact .inr rfl|assumption):wpAny M A (storeName X.env x u) Q E s:=
 kT I hN hi hx r (λs' I' _=>h s' I') hf
def Inv.af9 (I:Inv X pins σ H s)(ho:s'.os=s.os)(u:Un (yV X.stack) ch H H' s.heap s'.heap)(hok:fJ X.prog X.w H' s'.heap)(hg:AllBare s'.gens)(xg:∀b∈ch,(b∈X.ex\/X.s9.heap.objs.size<=b)/\b≠X.env.locals/\(∀x c,X.env.cells.lookup x=some c->c≠b)/\∀p∈X.pn++pins,p.1≠b):Inv X pins σ H' s':=by obtain⟨h',g',d',t',o'⟩:=s';have e:o'=s.os:=ho;subst e;exact I.call (g':=g') (t':=t') (d':=d') u hok hg xg
end
abbrev XK:=Value->Option Addr->Hp->Prop
abbrev St:=List (Option V)
abbrev VK:=V->Hp->Prop
abbrev TE:=St->Hp->VK->Prop
abbrev TT:=St->Hp->(Bool->Hp->Prop)->Prop
abbrev TA:=St->Hp->(List V->Hp->Prop)->Prop
structure Ends where
 nx:St->Hp->Prop
 rt:VK
 bk:St->Hp->Prop:=λ_ _=>False
 ct:St->Hp->Prop:=λ_ _=>False
abbrev TS:=Ends->St->Hp->Prop
def EP (X:Cx)(pins:N5)(σ:St)(Q:VK)(u:Value)(s':Shared):Prop:=∃v H',Inv X pins σ H' s'/\RelV v u/\Q v H'
def TP (X:Cx)(pins:N5)(σ:St)(Q:Bool->Hp->Prop)(b:Bool)(s':Shared):Prop:=∃H',Inv X pins σ H' s'/\Q b H'
def AP (X:Cx)(pins:N5)(σ:St)(Q:List V->Hp->Prop)(us:List Value)(s':Shared):Prop:=∃vs H',Inv X pins σ H' s'/\n8 vs us/\Q vs H'
def SP (X:Cx)(pins:N5)(D:Ends)(f:Flow)(s':Shared):Prop:=
 match f with
 |.next=>∃ai H',Inv X pins ai H' s'/\D.nx ai H'
 |.brk=>∃ai H',Inv X pins ai H' s'/\D.bk ai H'
 |.cont=>∃ai H',Inv X pins ai H' s'/\D.ct ai H'
 |.ret u=>∃v ai H',Inv X pins ai H' s'/\RelV v u/\D.rt v H'
def PE (X:Cx)(e:Expr)(t:TE):Prop:=
 ∀(pins:N5) (s:Shared) (σ:St) (H:Hp) (Q:VK),Inv X pins σ H s->t σ H Q->wpAny (model X.prog X.w) X.A (eval e X.env) (EP X pins σ Q) X.xe s
def PT (X:Cx)(e:Expr)(t:TT):Prop:=
 ∀(pins:N5) (s:Shared) (σ:St) (H:Hp) (Q:Bool->Hp->Prop),Inv X pins σ H s->t σ H Q->wpAny (model X.prog X.w) X.A (isTrue e X.env<|eval e X.env) (TP X pins σ Q) X.xe s
def PW (X:Cx)(e:Expr)(t:TT):Prop:=
 ∀(whole:Sem Value) (pins:N5) (s:Shared) (σ:St) (H:Hp) (Q:Bool->Hp->Prop),Inv X pins σ H s->t σ H Q->wpAny (model X.prog X.w) X.A (isTrue e X.env whole) (TP X pins σ Q) X.xe s
def PW.pt (h:PW X e t):PT X e t:=h _
def PA (X:Cx)(es:List Expr)(t:TA):Prop:=
 ∀(pos:Pos) (pins:N5) (s:Shared) (σ:St) (H:Hp) (Q:List V->Hp->Prop),Inv X pins σ H s->t σ H Q->wpAny (model X.prog X.w) X.A (spliced<|backTo pos<|starEach es X.env) (AP X pins σ Q) X.xe s
def PS (X:Cx)(st:Stmt)(t:TS):Prop:=
 ∀(pins:N5) (s:Shared) (σ:St) (H:Hp) (D:Ends),Inv X pins σ H s->t D σ H->wpAny (model X.prog X.w) X.A (exec st X.env) (SP X pins D) X.xe s
def uG (X:Cx)(st:List Stmt)(t:TS):Prop:=
 ∀(pins:N5) (s:Shared) (σ:St) (H:Hp) (D:Ends),Inv X pins σ H s->t D σ H->wpAny (model X.prog X.w) X.A (execs st X.env) (SP X pins D) X.xe s
def D9 {α:Type}{t:Sem α}{Q Q':α->Shared->Prop}{M:Model}{A:Around}{E:C8}{s:Shared}(h:wpAny M A t Q E s)(hQ:∀a s,Q a s->Q' a s):wpAny M A t Q' E s:=aCn h hQ λ_ _ x=>x
end L2
namespace L2
open PySem PySem.Spec PyProof.Rows
section
variable{X:Cx}
def ZG (i:Nat):TE:=λσ H Q=>∃v,σ[i]?=some (some v)/\Q v H
def tC (v:V):TE:=λ_ H Q=>Q v H
def R3 (hN:X.N[i]?=some x)(hv:zJ X.env.scope x)(hd:(x==("__debug__":Str))=false:=by decide)(gg:(x==("__classdict__":Str))=false:=by decide):PE X (.Name x pos) (ZG i):=by
 intro pins s σ H Q I h;obtain⟨v,e,h⟩:=h;obtain⟨m,hn,hl⟩:=I.loc;obtain⟨u,r,l⟩:=hl i x v hN e hv;have fin:EP X pins σ Q u s:=⟨v,H,I,r,h⟩;rcases l with⟨hk,hm⟩|⟨hk,c,hc,fg⟩
 ·exact wpAny_Name (wpAny_loadName_local I.ok.kind hk hn hm fin) hd
 ·rcases hk with hk|hk
  ·exact wpAny_Name (wpAny_loadName_cell I.ok.kind hk hc fg fin) hd
  ·exact wpAny_Name (wpAny_loadName_free I.ok.kind hk hc fg fin gg) hd
def WC {i j pos}:PE X (.Constant (.int i) j pos) (tC (.int i)):=λ_ _ _ H _ I h=>wpAny_Constant_int ⟨.int i,H,I.tok _,⟨_,rfl⟩,h⟩
def ZE {b j pos}:PE X (.Constant (.bool b) j pos) (tC (.bl b)):=λ_ _ _ H _ I h=>Constant_bool ⟨.bl b,H,I,rfl,h⟩
def WE {j pos}:PE X (.Constant .none j pos) (tC .non):=λ_ _ _ H _ I h=>Constant_none ⟨.non,H,I,rfl,h⟩
def Gl (X:Cx)(x:Str):Prop:=X.env.kindOf x=some .globalImplicit
def vL {E:C8}{Q:C8}(I:Inv X pins σ H s)(hg:Gl X x)(hm:X.mg x=some u)(h:Q u s)(hd:(x==("__debug__":Str))=false:=by decide):wpAny (model X.prog X.w) X.A (eval (.Name x pos) X.env) Q E s:=
 Calls.Name_function_global I.ok.kind hg (Calls.loadGlobal_global (by rw[I.ok.glob];exact I.mod.glob.keeps I.bk) hm h) hd
def N0 {E:C8}{Q:C8}(I:Inv X pins σ H s)(hg:Gl X x)(hm:X.mg x=none)(hv:bootBuiltins x=some u)(h:Q u s)(hn:x≠ "__name__":=by decide)(hd:(x==("__debug__":Str))=false:=by decide):wpAny (model X.prog X.w) X.A (eval (.Name x pos) X.env) Q E s:=by obtain⟨mb,h1,h2⟩:=I.mod.blt;exact Calls.Name_function_global I.ok.kind hg (Calls.loadGlobal_builtin (by rw[I.ok.glob];exact I.mod.glob.keeps I.bk) hm (by rw[I.ok.blt];exact h1.keeps I.bk) ((h2 x hn).trans hv) h) hd
def RV (hg:Gl X x)(hm:X.mg x=some u)(r:RelV v u)(hd:(x==("__debug__":Str))=false:=by decide):PE X (.Name x pos) (tC v):=
 λ_ _ _ H _ I h=>vL I hg hm ⟨v,H,I,r,h⟩ hd
def PN (hg:Gl X x)(hm:X.mg x=none)(hv:bootBuiltins x=some u)(r:RelV v u)(hn:x≠ "__name__":=by decide)(hd:(x==("__debug__":Str))=false:=by decide):PE X (.Name x pos) (tC v):=
 λ_ _ _ H _ I h=>N0 I hg hm hv ⟨v,H,I,r,h⟩ hn hd
variable{a b:Expr} {ta tb:TE} {pos:Pos}
def tB (t:TE):TT:=λσ H Q=>t σ H λx H1=>∃c,x=.bl c/\Q c H1
def WR {e:Expr}{t:TE}(h:PE X e t)(he:∀whole,isTrue e X.env whole=(do let v<-whole;standAt e.pos;holding [v] (truthy v)):=by intro _;rfl):PT X e (tB t):=by intro pins s σ H Q I hw;refine isTrue_plain (D9 (h pins s σ H _ I hw) λv s1 ⟨x,H1,I1,r1,q1⟩=>?_) (he _);obtain⟨d,rfl,q⟩:=q1;cases r1;exact aBQ ⟨H1,I1,q⟩
variable{tA tB':TT} {rest:List Expr}
def pz (t u:TT):TT:=λσ H Q=>t σ H λc H1=>if c=true then u σ H1 Q else Q false H1
def tOr (t u:TT):TT:=λσ H Q=>t σ H λc H1=>if c=true then Q true H1 else u σ H1 Q
def uj (t:TT):TT:=λσ H Q=>t σ H λc H1=>Q (!c) H1
def SV (ha:PT X a tA):PW X (.BoolOp .And [a] pos) tA:=by
 intro wh pins s σ H Q I h;refine isTrue_and (D9 (ha pins s σ H Q I h) λc s1 e=>?_);cases c with
 |true=>exact isTrue_and_nil e
 |false=>exact e
def YM (ha:PT X a tA):PW X (.BoolOp .Or [a] pos) tA:=by
 intro wh pins s σ H Q I h;refine isTrue_or (D9 (ha pins s σ H Q I h) λc s1 e=>?_);cases c with
 |false=>exact isTrue_or_nil e
 |true=>exact e
def YA (ha:PT X a tA)(hb:PW X (.BoolOp .And (b::rest) pos) tB'):PW X (.BoolOp .And (a::b::rest) pos) (pz tA tB'):=by
 intro wh pins s σ H Q I h;refine isTrue_and (D9 (ha pins s σ H _ I h) λc s1 ⟨H1,I1,q1⟩=>?_);cases c with
 |true=>exact hb wh pins s1 σ H1 Q I1 q1
 |false=>exact⟨H1,I1,q1⟩
def cw (ha:PT X a tA)(hb:PW X (.BoolOp .Or (b::rest) pos) tB'):PW X (.BoolOp .Or (a::b::rest) pos) (tOr tA tB'):=by
 intro wh pins s σ H Q I h;refine isTrue_or (D9 (ha pins s σ H _ I h) λc s1 ⟨H1,I1,q1⟩=>?_);cases c with
 |true=>exact⟨H1,I1,q1⟩
 |false=>exact hb wh pins s1 σ H1 Q I1 q1
def YI (ha:PT X a tA):PT X (.UnaryOp .Not a pos) (uj tA):=by intro pins s σ H Q I h;exact isTrue_not (ha pins s σ H (λc H1=>Q (!c) H1) I h)
end
end L2
namespace L2
open PySem PySem.Spec PyProof.Rows
def N8 (K:PySem.W.Frag)(H:Hp)(a:Addr)(xs:List V):Prop:=
 Rd H a (.lst xs)\/
  ∃(o:Obj) (its:Array Value) (n:Nat),K.lookup a=some o/\o.cls=.type "list"/\o.dict=none/\o.data=.seq its n/\its.size<=sizeLine/\n8 xs its.toList
def W2 (K:PySem.W.Frag)(H:Hp)(a:Addr)(xs:List V):Prop:=
 Rd H a (.tup xs)\/
  ∃(o:Obj) (its:Array Value) (n:Nat),K.lookup a=some o/\o.cls=.type "tuple"/\o.data=.seq its n/\its.size<=sizeLine/\n8 xs its.toList
def xq:Value->Option V
 |.none=>some .non
 |.bool b=>some (.bl b)
 |.int i _=>some (.int i)
 |.str x _=>some (.str x)
 |.bytes b _=>some (.byt b)
 |.float b _=>some (.flt b)
 |.ref a=>some (.ref a)
 |.type n=>some (.ty n)
 |_=>none
def RelV.abs (r:RelV x u):xq u=some x:=by
 cases x with
 |non=>cases r;rfl
 |bl _=>cases r;rfl
 |int _=>obtain⟨t,rfl⟩:=r;rfl
 |str _=>obtain⟨t,rfl⟩:=r;rfl
 |byt _=>obtain⟨t,rfl⟩:=r;rfl
 |flt _=>obtain⟨t,rfl⟩:=r;rfl
 |ref _=>cases r;rfl
 |ty _=>cases r;rfl
def RelV.inj {x y:V}{u:Value}(r:RelV x u)(q:RelV y u):x=y:=aAj (r.abs.symm.trans q.abs)
theorem n8.inj:∀{xs ys:List V} {us:List Value},n8 xs us->n8 ys us->xs=ys
 |_,_,_,.nil,.nil=>rfl
 |_,_,_,.cons r t,.cons r' t'=>by rw[r.inj r',n8.inj t t']
section
variable{X:Cx} {pins:N5} {σ:St} {H:Hp} {s:Shared} {a:Addr} {xs ys:List V}
def N8.of {K:PySem.W.Frag}(h:H a=some (.lst xs)):N8 K H a xs:=.inl (.inl h)
def W2.of {K:PySem.W.Frag}(h:H a=some (.tup xs)):W2 K H a xs:=.inl (.inl h)
def Inv.list (I:Inv X pins σ H s)(h:N8 X.K H a xs):∃its:List Value,n8 xs its/\PlainL s.heap a its.toArray/\xs.length<=sizeLine:=by
 rcases h with h|⟨o,its,n,hk,hc,hd,hs,hz,r⟩
 ·obtain⟨z,its,n,r,e⟩:=h.ok I.hok;exact⟨its,r,⟨_,n,e,rfl,rfl,rfl⟩,z⟩
 ·refine⟨its.toList,r,⟨o,n,I.kIn a o hk,hc,hd,by simpa using hs⟩,?_⟩;have e:=r.length;simp only[aBa]at e
  lia
def Inv.tuple (I:Inv X pins σ H s)(h:W2 X.K H a xs):∃its:List Value,n8 xs its/\IsTup s.heap a its.toArray/\xs.length<=sizeLine:=by
 rcases h with h|⟨o,its,n,hk,hc,hs,hz,r⟩
 ·obtain⟨z,its,r,p⟩:=h.ok I.hok;exact⟨its,r,p,z⟩
 ·refine⟨its.toList,r,⟨o,I.kIn a o hk,hc,n,by simpa using hs⟩,?_⟩;have e:=r.length;simp only[aBa]at e
  lia
def Inv.ab3 (I:Inv X pins σ H s)(h:N8 X.K H a xs)(h':N8 X.K H a ys):xs=ys:=by
 obtain⟨its,r,⟨o,n,e,_,_,d⟩,_⟩:=I.list h;obtain⟨its',r',⟨o',n',e',_,_,d'⟩,_⟩:=I.list h';rw[e]at e';cases e';rw[d]at d';injection d' with d1 _;have:its=its':=by simpa using congrArg aFy d1
 subst this;exact r.inj r'
def Inv.ab5 (I:Inv X pins σ H s)(h:W2 X.K H a xs)(h':W2 X.K H a ys):xs=ys:=by
 obtain⟨its,r,⟨o,e,_,n,d⟩,_⟩:=I.tuple h;obtain⟨its',r',⟨o',e',_,n',d'⟩,_⟩:=I.tuple h';rw[e]at e';cases e';rw[d]at d';injection d' with d1 _;have:its=its':=by simpa using congrArg aFy d1
 subst this;exact r.inj r'
end
abbrev Cx.ac1 (X:Cx)(E:C8):Cx:={X with xe:=E}
abbrev Cx.nox (X:Cx):Cx:=X.ac1 λ_ _=>False
def Cx.Ok.ac1 {X:Cx}(ok:X.Ok)(E:C8):(X.ac1 E).Ok:=
 ⟨ok.mod,ok.kind,ok.glob,ok.blt,ok.above,ok.inj,ok.has,ok.cab,ok.hd,ok.frames,ok.stk,ok.exf,ok.bs,ok.bsz,ok.noex,ok.exfs,ok.funs,ok.frf⟩
def Cx.Ok.aa8 {X:Cx}{E:C8}(ok:(X.ac1 E).Ok):X.Ok:=
 ⟨ok.mod,ok.kind,ok.glob,ok.blt,ok.above,ok.inj,ok.has,ok.cab,ok.hd,ok.frames,ok.stk,ok.exf,ok.bs,ok.bsz,ok.noex,ok.exfs,ok.funs,ok.frf⟩
section
variable{X:Cx} {pins:N5} {σ:St} {H:Hp} {s:Shared} {E:C8}
def Inv.ac1 (I:Inv X pins σ H s)(E:C8):Inv (X.ac1 E) pins σ H s:=⟨I.ok.ac1 E,I.os,I.bare,I.base,I.loc,I.cell,I.free,I.freeC,I.pin,I.hok,I.len⟩
def Inv.aa8 (I:Inv (X.ac1 E) pins σ H s):Inv X pins σ H s:=⟨I.ok.aa8,I.os,I.bare,I.base,I.loc,I.cell,I.free,I.freeC,I.pin,I.hok,I.len⟩
def SP.aa8 (h:SP (X.ac1 E) pins D f s'):SP X pins D f s':=by
 cases f with
 |next=>obtain⟨ai,H',I,q⟩:=h;exact⟨ai,H',I.aa8,q⟩
 |brk=>obtain⟨ai,H',I,q⟩:=h;exact⟨ai,H',I.aa8,q⟩
 |cont=>obtain⟨ai,H',I,q⟩:=h;exact⟨ai,H',I.aa8,q⟩
 |ret u=>obtain⟨v,ai,H',I,r,q⟩:=h;exact⟨v,ai,H',I.aa8,r,q⟩
def uG.nox {st:List Stmt}{t:TS}(h:uG X.nox st t):uG X st t:=λpins s σ H D I hw=>aCn (h pins s σ H D (I.ac1 _) hw) (λ_ _ q=>q.aa8) λ_ _ z=>aAm z
end
section
variable{X:Cx} {st:Stmt} {rest:List Stmt} {t u:TS} {e:Expr} {te:TE} {pos:Pos}
def ZS:TS:=λD σ H=>D.nx σ H
def xw (t u:TS):TS:=λD σ H=>t {D with nx:=u D} σ H
def RJ:uG X [] ZS:=λ_ _ σ H _ I h=>aEs ⟨σ,H,I,h⟩
def LB (h1:PS X st t)(h2:uG X rest u):uG X (st::rest) (xw t u):=by
 intro pins s σ H D I h;refine aEi (D9 (h1 pins s σ H {D with nx:=u D} I h) λf s1 q=>?_);cases f with
 |next=>obtain⟨ai,H',I',q⟩:=q;exact h2 pins s1 ai H' D I' q
 |ret v=>exact q
 |brk=>exact q
 |cont=>exact q
def CZ (h1:PS X st t):uG X [st] t:=by
 intro pins s σ H D I h;refine aEi (D9 (h1 pins s σ H D I h) λf s1 q=>?_);cases f with
 |next=>exact aEs q
 |ret v=>exact q
 |brk=>exact q
 |cont=>exact q
def Inv.quiet (I:Inv X pins σ H s):interactive X.env=false:=by simp[interactive,I.ok.kind]
def ZU (te:TE):TS:=λD σ H=>te σ H λ_ H1=>D.nx σ H1
def tV (he:PE X e te)(hs:swapsWith e none pos.line X.env=pure false:=by rfl):PS X (.Expr e pos) (ZU te):=by intro pins s σ H D I h;exact wpAny_Expr_any (D9 (he pins s σ H _ I h) λv s1 ⟨x,H1,I1,r1,q1⟩=>⟨σ,H1,I1,q1⟩) I.quiet hs
def xz (te:TE):TS:=λD σ H=>te σ H D.rt
def NV (he:PE X e te):PS X (.Return (some e) pos) (xz te):=by intro pins s σ H D I h;exact wpAny_Return_some (D9 (he pins s σ H _ I h) λv s1 ⟨x,H1,I1,r1,q1⟩=>⟨x,σ,H1,I1,r1,q1⟩)
def nj (c:TT)(t u:TS):TS:=λD σ H=>c σ H λb H1=>if b=true then t D σ H1 else u D σ H1
def iw {c:Expr}{a b:List Stmt}{tc:TT}(hc:PT X c tc)(ha:uG X a t)(hb:uG X b u):PS X (.If c a b pos) (nj tc t u):=by
 intro pins s σ H D I h;refine wpAny_If (D9 (hc pins s σ H _ I h) λd s1 ⟨H1,I1,q1⟩=>?_);cases d with
 |true=>exact ha pins s1 σ H1 D I1 q1
 |false=>exact hb pins s1 σ H1 D I1 q1
def XV:TS:=λ_ _ _=>False
def JO:PS X st XV:=λ_ _ _ _ _ _ h=>h.elim
end
abbrev TG:=V->St->Hp->(St->Hp->Prop)->Prop
abbrev VQ:=List V->St->Hp->(St->Hp->Prop)->Prop
def PG (X:Cx)(target:Expr)(t:TG):Prop:=
 ∀(pins:N5) (s:Shared) (σ:St) (H:Hp) (v:V) (u:Value) (Q:St->Hp->Prop),Inv X pins σ H s->RelV v u->t v σ H Q->
  wpAny (model X.prog X.w) X.A (assign target X.env u) (λ_ s'=>∃ai H',Inv X pins ai H' s'/\Q ai H') X.xe s
def YU (X:Cx)(ts:List Expr)(t:VQ):Prop:=
 ∀(pins:N5) (s:Shared) (σ:St) (H:Hp) (vs:List V) (us:List Value) (Q:St->Hp->Prop),Inv X pins σ H s->n8 vs us->t vs σ H Q->
  wpAny (model X.prog X.w) X.A (assignInOrder ((assignEach ts X.env).map (·.2)) us) (λ_ s'=>∃ai H',Inv X pins ai H' s'/\Q ai H') X.xe s
abbrev RO:=V->V->V->Hp->(Hp->Prop)->Prop
def XE (X:Cx)(t:RO):Prop:=
 ∀(pins:N5) (s:Shared) (σ:St) (H:Hp) (o i v:V) (ov iv u:Value) (Q:Hp->Prop),Inv X pins σ H s->RelV o ov->RelV i iv->RelV v u->t o i v H Q->
  wpAny (model X.prog X.w) X.A (setItem ov iv u) (λ_ s'=>∃H',Inv X pins σ H' s'/\Q H') X.xe s
section
variable{X:Cx} {pos:Pos}
def UD (i:Nat):TG:=λv σ H Q=>Q (σ.set i<|some v) H
def QT (hN:X.N.Nodup)(hi:X.N[i]?=some x)(hx:Loc X.env.scope x)(hf:X.fn x=true\/X.env.scope.names.lookup x=some .local:=by first|exact .inl rfl|exact .inr rfl|assumption):PG X (.Name x pos) (UD i):=by intro pins s σ H v u Q I r h;exact aEX (Q5 I hN hi hx r (λs' I'=>⟨_,H,I',h⟩) hf)
def vq:VQ:=λvs σ H Q=>vs=[]/\Q σ H
def ZD (t:TG)(u:VQ):VQ:=λvs σ H Q=>∃v r,vs=v::r/\t v σ H λai H'=>u r ai H' Q
def PK:YU X [] vq:=by intro pins s σ H vs us Q I r h;obtain⟨e,h⟩:=h;subst e;cases r;exact assignInOrder_nil ⟨σ,H,I,h⟩
def JB {e:Expr}{es:List Expr}{t:TG}{u:VQ}(h1:PG X e t)(h2:YU X es u)
  (hs:(assignEach (e::es) X.env).map (·.2)=assign e X.env::(assignEach es X.env).map (·.2):=by rfl):YU X (e::es) (ZD t u):=by
 intro pins s σ H vs us Q I r h;obtain⟨v,vr,e1,h⟩:=h;subst e1;cases r with
 |cons r rr=>rw[hs];refine aEJ (D9 (h1 pins s σ H _ _ _ I r h) λ_ s1 ⟨σ1,H1,I1,q1⟩=>?_);exact h2 pins s1 σ1 H1 _ _ Q I1 rr q1
def nq (to ti:TE)(t:RO):TG:=λv σ H Q=>to σ H λo H1=>ti σ H1 λi H2=>t o i v H2 λH3=>Q σ H3
def IW {o i:Expr}{to ti:TE}{t:RO}(ho:PE X o to)(hi:PE X i ti)(hs:XE X t)
  (ha:∀v,assign (.Subscript o i pos) X.env v=(do
   let ov<-holding [v] (eval o X.env)
   let iv<-holding [v,ov] (eval i X.env)
   standAt pos
   holding [v,ov,iv] (setItem ov iv v)
   release [v,ov,iv] []):=by intro _;rfl):PG X (.Subscript o i pos) (nq to ti t):=by
 intro pins s σ H v u Q I r h;rw[ha];refine aAa (aAJ<|D9 (ho pins s σ H _ I h) λov s1 ⟨x,H1,I1,r1,q1⟩=>?_);refine aAa (aAJ<|D9 (hi pins s1 σ H1 _ I1 q1) λiv s2 ⟨y,H2,I2,r2,q2⟩=>?_);refine aAa (aDL<|aAa<|aAJ<|D9 (hs pins s2 σ H2 x y v ov iv u _ I2 r1 r2 r q2) λ_ s3 ⟨H3,I3,q3⟩=>?_);exact wpAny_release ⟨σ,H3,I3,q3⟩
def fq (te:TE)(g:TG):TS:=λD σ H=>te σ H λx H1=>g x σ H1 D.nx
def AF {tg e:Expr}{te:TE}{g:TG}(he:PE X e te)(hg:PG X tg g)(hs:swapsWithSole [tg] e pos.line X.env=pure false:=by rfl)(hw:swappedStores [tg] e X.env=pure none:=by rfl)
  (h1:(assignEach [tg] X.env).map (·.2)=[assign tg X.env]:=by rfl):PS X (.Assign [tg] e pos) (fq te g):=by
 intro pins s σ H D I h;refine wpAny_Assign_stores (D9 (he pins s σ H _ I h) λv s1 ⟨x,H1,I1,r1,q1⟩=>?_) hs hw;rw[h1];exact D9 (hg pins s1 σ H1 x v _ I1 r1 q1) λ_ s2 q=>q
def ME {i:Nat}{x:Str}{e:Expr}{te:TE}{pos':Pos}(hN:X.N.Nodup)(hi:X.N[i]?=some x)(hx:Loc X.env.scope x)(he:PE X e te)(hs:swapsWith e (some (.Name x pos')) pos.line X.env=pure false:=by rfl)(hf:X.fn x=true\/X.env.scope.names.lookup x=some .local:=by first|exact .inl rfl|exact .inr rfl|assumption):
  PS X (.Assign [.Name x pos'] e pos) (fq te (UD i)):=by
 intro pins s σ H D I h;refine aEY (D9 (he pins s σ H _ I h) λv s1 ⟨y,H1,I1,r1,q1⟩=>?_) hs;exact Q5 I1 hN hi hx r1 (λs2 I2=>⟨_,H1,I2,q1⟩) hf
def qk (i j:Nat)(ta:TA):TS:=λD σ H=>ta σ H λvs H1=>∃v w,vs=[v,w]/\D.nx ((σ.set i<|some v).set j (some w)) H1
def VR {i j:Nat}{x y:Str}{a b:Expr}{ta:TA}{px py pt:Pos}{kt k2 GH}(hc:X.calm=true)(hN:X.N.Nodup)(hi:X.N[i]?=some x)(hj:X.N[j]?=some y)(jh:i≠j)
  (hx:X.env.scope.names.lookup x=some .local) (hy:X.env.scope.names.lookup y=some .local) (ha:PA X [a,b] ta)
  (hw:swappedStores [.Tuple [.Name x px,.Name y py] kt pt] (.Tuple [a,b] k2 GH) X.env=pure (some [x,y]))
  (hs:swapsWithSole [.Tuple [.Name x px,.Name y py] kt pt] (.Tuple [a,b] k2 GH) pos.line X.env=pure false:=by rfl):
  PS X (.Assign [.Tuple [.Name x px,.Name y py] kt pt] (.Tuple [a,b] k2 GH) pos) (qk i j ta):=by
 intro pins s σ H D I h;rw[exec_Assign_arm];refine aAa (aDL ?_);rw[hs];refine aAa (aAb ?_);rw[if_neg (by decide)];refine aAa (Tuple_<|D9 (ha _ pins s σ H _ I h) λus s1 ⟨vs,H1,I1,r1,q1⟩=>?_);obtain⟨v,w,e1,q1⟩:=q1;subst e1;obtain⟨u1,u2,rfl,rv,rw'⟩:∃u1 u2,us=[u1,u2]/\RelV v u1/\RelV w u2:=by
  cases r1 with
  |cons p q=>
   cases q with
   |cons p' q'=>cases q';exact⟨_,_,rfl,p,p'⟩
 refine aAS ?_ (by show 2<=sizeLine;decide);have I2:Inv X pins σ H1 {s1 with heap:=s1.heap.push {cls:=.type "tuple",data:=.seq [u1,u2].toArray}}:=I1.kept (t':=s1.toks) λb o e=>aAc _ e;rw[hw];refine aAa (aAb ?_);show wpAny (model X.prog X.w) X.A (do rule "assign.swapped-stores";let items<-unpackItems (.ref s1.heap.objs.size) 2 none;assignInOrder [λv=>bindName X.env y v,λv=>bindName X.env x v] items.reverse;pure Flow.next) _ _ _;refine aAa (aDq<|aAa<|unpackItems_tuple (items:=#[u1,u2]) (I.ok.hd hc) (IsTup.new s1.heap _) λh' hx'=>?_);have I3:=I2.kept (h':=h') (t':=s1.toks) λb o e=>hx' b o (aAi<|aAf e) e;show wpAny _ _ (assignInOrder [λv=>bindName X.env y v,λv=>bindName X.env x v] [u2,u1]>>=λ_=>pure Flow.next) _ _ _;refine aAa (aEJ<|wpAny_bindName<|Q5 I3 hN hj (.inl hy) rw' (λs2 I4=>?_)<|.inr hy);refine aEJ (wpAny_bindName<|Q5 I4 hN hi (.inl hx) rv (λs3 I5=>assignInOrder_nil (aAb ?_))<|.inr hx);rw[List.set_comm _ _ (aCb jh)]at I5;exact⟨_,H1,I5,q1⟩
end
section
variable{X:Cx} {pos:Pos}
def XO (c:TT)(tb:TS):TS:=λD σ H=>∃W:Nat->St->Hp->Prop,(∃m,W m σ H)/\∀m σ H,W m σ H->
 c σ H λb H1=>if b=true then∃N:St->Hp->Prop,(∀ai H',N ai H'->∃m',m'<m/\W m' ai H')/\tb {D with nx:=N,ct:=N,bk:=D.nx} σ H1 else D.nx σ H1
def MF {c:Expr}{body:List Stmt}{tc:TT}{tb:TS}(hp:PassesOwn (model X.prog X.w) X.A X.env X.xe)(hc:PT X c tc)(hb:uG X body tb):PS X (.While c body [] pos) (XO tc tb):=by
 intro pins s σ H D I h;obtain⟨W,⟨m0,w0⟩,turn⟩:=h;refine wpAny_While (codeAny_whileLoop (λn s'=>∃ai H',Inv X pins ai H' s'/\W n ai H') ?_ m0 ⟨σ,H,I,w0⟩);rintro n s1 ⟨σ1,H1,I1,w1⟩;refine aCO hp (D9 (hc pins s1 σ1 H1 _ I1<|turn n σ1 H1 w1) λb s2 ⟨H2,I2,q2⟩=>?_);cases b with
 |true=>
  obtain⟨N,hN,q2⟩:=q2;rw[if_pos rfl];refine aCO hp (D9 (hb pins s2 σ1 H2 _ I2 q2) λf s3 q3=>?_);cases f with
  |next=>obtain⟨qa,H3,I3,n3⟩:=q3;obtain⟨m',hm,w3⟩:=hN qa H3 n3;exact⟨m',hm,qa,H3,I3,w3⟩
  |cont=>obtain⟨qa,H3,I3,n3⟩:=q3;obtain⟨m',hm,w3⟩:=hN qa H3 n3;exact⟨m',hm,qa,H3,I3,w3⟩
  |brk=>exact q3
  |ret v=>exact q3
 |false=>rw[if_neg aBg];exact aEs ⟨σ1,H2,I2,q2⟩
end
structure It where
 go:Nat->Hp->Prop
 yld:Nat->Hp->V->Hp->Prop
 stop:Nat->Hp->Prop
def lT (X:Cx)(pins:N5)(H:Hp)(b:Addr):Prop:=
 H b=none/\b≠X.env.locals/\b∉X.fs/\(b∈X.ex\/X.s9.heap.objs.size<=b)/\(∀x c,X.env.cells.lookup x=some c->c≠b)/\∀p∈X.pn++pins,p.1≠b
def Inv.af0 (I:Inv X pins σ H s)(hb:s.heap.objs.size<=b)(hn:H' b=none):lT X pins H' b:=by
 refine⟨hn,aCh (aAs I.lt hb),I.ag1 hb,.inr (aAr I.sz hb),λx c e z=>?_,λp hp z=>?_⟩
 ·obtain⟨v,q⟩:=I.cell x c e;exact absurd (aAs q.lt (by rw[z];exact hb)) (aBe _)
 ·exact absurd (aAs (aAf (I.pin p hp).1) (by rw[z];exact hb)) (aBe _)
structure Turn (P:Program)(w:World)(K:PySem.W.Frag)(tg:Expr)(J:It)(fp:List Addr)(it:Addr)(tn:Nat->Heap->Prop):Prop where
 mem:it∈fp
 obj:∀i h,tn i h->∀b∈fp,∃o,h.get? b=some o/\∀v,o.data≠.cell v
 keep:∀i h h',tn i h->(∀b∈fp,∀o,h.get? b=some o->h'.get? b=some o)->tn i h'
 item:∀(X:Cx),X.prog=P->X.w=w->X.K=K->X.calm=true->∀(i:Nat) (pins:N5) (s:Shared) (σ:St) (H:Hp) (E:C8),Inv X pins σ H s->(∀b∈fp,lT X pins H b)->tn i s.heap->J.go i H->
  wpAny (model P w) X.A (pyNext (.ref it)) (λr s1=>∃u,r=some u/\
   wpAny (model P w) X.A (letOwnedTupleGo tg (.ref it) u) (λ_ s2=>∃x H',Inv X pins σ H' s2/\RelV x u/\J.yld i H x H'/\tn (i+1) s2.heap/\∀b∈fp,H' b=none) E s1) E s
 done:∀(X:Cx),X.prog=P->X.w=w->X.K=K->X.calm=true->∀(i:Nat) (pins:N5) (s:Shared) (σ:St) (H:Hp) (E:C8),Inv X pins σ H s->(∀b∈fp,lT X pins H b)->tn i s.heap->J.stop i H->
  wpAny (model P w) X.A (pyNext (.ref it)) (λr s1=>r=none/\Inv X pins σ H s1) E s
 self:∀(A:Around) (i:Nat) (s:Shared) (Q:C8) (E:C8),tn i s.heap->Q (.ref it) s->wpAny (model P w) A (pyIter (.ref it)) Q E s
abbrev TI:=St->Hp->(It->Hp->Prop)->Prop
def nk (X:Cx)(pins:N5)(σ:St)(tg:Expr)(R:It->Hp->Prop)(itv:Value)(s2:Shared):Prop:=
 ∃(it:Addr) (fp:List Addr) (tn:Nat->Heap->Prop) (J:It) (H':Hp),itv=.ref it/\Inv X pins σ H' s2/\Turn X.prog X.w X.K tg J fp it tn/\tn 0 s2.heap/\(∀b∈fp,lT X pins H' b)/\R J H'
def PI (X:Cx)(tg iter:Expr)(wi:TI):Prop:=
 ∀(pins:N5) (s:Shared) (σ:St) (H:Hp) (R:It->Hp->Prop),Inv X pins σ H s->wi σ H R->
  wpAny (model X.prog X.w) X.A (eval iter X.env) (λv s1=>wpAny (model X.prog X.w) X.A (pyIter v) (nk X pins σ tg R) X.xe s1) X.xe s
def MU {E : Value → Shared → Prop} {Q : Unit → Shared → Prop} (ho : s.heap.get? it = some o) (hc : o.cls = .type n) (hd : o.data = .fields vs) (hn : ["enumerate", "zip", "dict_itemiterator", "dict_reverseitemiterator", "odict_iterator", "itertools.zip_longest", "itertools.pairwise"].contains n = false) (hQ : Q () s) : wpAny M A (letOwnedTupleGo tg (.ref it) u) Q E s := by
  unfold letOwnedTupleGo;cases tg <;> first
    | exact aAb hQ
    | (cases u <;> first
        | exact aAb hQ
        | (refine aAa (wpAny_load ho ?_)
           rw [hc, hd];show wpAny M A (if (["enumerate", "zip", "dict_itemiterator", "dict_reverseitemiterator", "odict_iterator", "itertools.zip_longest", "itertools.pairwise"].contains n && vs[0]? == some (rawInt _)) = true then _ else _) Q E s;rw [if_neg (by intro h; rw [hn, Bool.false_and] at h; cases h)];exact aAb hQ))
def xy (K:PySem.W.Frag)(a:Addr):It:=
 ⟨λi H=>∃xs x,N8 K H a xs/\xs[i]?=some x,λi H x H'=>H'=H/\∀xs,N8 K H a xs->xs[i]?=some x,λi H=>∃xs,N8 K H a xs/\xs.length<=i⟩
def wj (K:PySem.W.Frag)(a:Addr):It:=
 ⟨λi H=>∃xs x,W2 K H a xs/\xs[i]?=some x,λi H x H'=>H'=H/\∀xs,W2 K H a xs->xs[i]?=some x,λi H=>∃xs,W2 K H a xs/\xs.length<=i⟩
def GP {P:Program}{w:World}{K:PySem.W.Frag}{tg:Expr}(a it:Addr):Turn P w K tg (xy K a) [it] it (λi h=>h.IsListIter it a i)where
 mem:=by simp
 obj:=λi h st b hb=>by
  have e:b=it:=by simpa using hb
  subst e;obtain⟨o,e,c,d⟩:=st;exact⟨o,e,λv z=>by rw[d]at z;cases z⟩
 keep:=λi h h' st k=>st.at λo e=>k it (by simp) o e
 item:=by intro X hP hw hK hc i pins s σ H E I hf st hg;subst hP hw hK;obtain⟨xs,x,hq,hx⟩:=hg;obtain⟨its,rv,p,hz⟩:=I.list hq;obtain⟨u,hu,ru⟩:=rv.get hx;obtain⟨f0,f1,f2,f3,f4,f5⟩:=hf it (by simp);refine wpAny_pyNext_list_item st p.isList (x:=u) (by simpa using hu) λh' st' sb=>?_;have I1:Inv X pins σ H {s with heap:=h'}:=I.turned (t':=s.toks) (λb o hb e=>(sb.2 b hb).trans e) f0 f1 f3 f4 f5;obtain⟨o,e,c,d⟩:=id st';exact⟨u,rfl,MU (s:={s with heap:=h'}) e c d (by decide) ⟨x,H,I1,ru,⟨rfl,λys hy=>by rw[I.ab3 hy hq];exact hx⟩,st',λb hb=>(hf b hb).1⟩⟩
 done:=by intro X hP hw hK hc i pins s σ H E I hf st hg;subst hP hw hK;obtain⟨xs,hq,hx⟩:=hg;obtain⟨its,rv,p,hz⟩:=I.list hq;obtain⟨f0,f1,f2,f3,f4,f5⟩:=hf it (by simp);have hl:=rv.length;exact wpAny_pyNext_list_end (I.ok.hd hc) st p.isList (by simp;lia) λh' eb=>⟨rfl,I.turned (t':=s.toks) (λb o hb e=>eb b o hb e) f0 f1 f3 f4 f5⟩
 self:=λ_ _ _ _ _ st h=>wpAny_pyIter_listiter st h
def BN {P:Program}{w:World}{K:PySem.W.Frag}{tg:Expr}(a it:Addr):Turn P w K tg (wj K a) [it] it (λi h=>h.IsTupleIter it a i)where
 mem:=by simp
 obj:=λi h st b hb=>by
  have e:b=it:=by simpa using hb
  subst e;obtain⟨o,e,c,d⟩:=st;exact⟨o,e,λv z=>by rw[d]at z;cases z⟩
 keep:=λi h h' st k=>st.at λo e=>k it (by simp) o e
 item:=by intro X hP hw hK hc i pins s σ H E I hf st hg;subst hP hw hK;obtain⟨xs,x,hq,hx⟩:=hg;obtain⟨its,rv,p,hz⟩:=I.tuple hq;obtain⟨u,hu,ru⟩:=rv.get hx;obtain⟨f0,f1,f2,f3,f4,f5⟩:=hf it (by simp);refine wpAny_pyNext_tuple_item st (show s.heap.IsTuple a its.toArray from p) (x:=u) (by simpa using hu) λh' st' sb=>?_;have I1:Inv X pins σ H {s with heap:=h'}:=I.turned (t':=s.toks) (λb o hb e=>(sb.2 b hb).trans e) f0 f1 f3 f4 f5;obtain⟨o,e,c,d⟩:=id st';exact⟨u,rfl,MU (s:={s with heap:=h'}) e c d (by decide) ⟨x,H,I1,ru,⟨rfl,λys hy=>by rw[I.ab5 hy hq];exact hx⟩,st',λb hb=>(hf b hb).1⟩⟩
 done:=by intro X hP hw hK hc i pins s σ H E I hf st hg;subst hP hw hK;obtain⟨xs,hq,hx⟩:=hg;obtain⟨its,rv,p,hz⟩:=I.tuple hq;obtain⟨f0,f1,f2,f3,f4,f5⟩:=hf it (by simp);have hl:=rv.length;exact wpAny_pyNext_tuple_end (I.ok.hd hc) st (show s.heap.IsTuple a its.toArray from p) (by simp;lia) λh' eb=>⟨rfl,I.turned (t':=s.toks) (λb o hb e=>eb b o hb e) f0 f1 f3 f4 f5⟩
 self:=λ_ _ _ _ _ st h=>wpAny_pyIter_tupleiter st h
end L2
namespace L2
open PySem PySem.Spec PyProof.Rows
section
variable{X:Cx} {tg:Expr}
def ZP (K:PySem.W.Frag)(tl:TE):TI:=λσ H R=>tl σ H λx H1=>∃a,x=.ref a/\(∃xs,N8 K H1 a xs)/\R (xy K a) H1
def tz (K:PySem.W.Frag)(tl:TE):TI:=λσ H R=>tl σ H λx H1=>∃a,x=.ref a/\(∃xs,W2 K H1 a xs)/\R (wj K a) H1
def SO (hl:PE X l tl):PI X tg l (ZP X.K tl):=by
 intro pins s σ H R I h;refine D9 (hl pins s σ H _ I h) λv s1 ⟨x,H1,I1,r1,q1⟩=>?_;obtain⟨a,e,⟨xs,hq⟩,q⟩:=q1;subst e;cases r1;obtain⟨its,rv,p,hz⟩:=I1.list hq;refine aDr p.isList ?_;refine⟨s1.heap.objs.size,[s1.heap.objs.size],_,_,H1,rfl,I1.kept (t':=s1.toks) λb o e=>aAc _ e,GP a _,⟨_,aAp _ rfl,rfl,rfl⟩,λb hb=>?_,q⟩;have e:b=s1.heap.objs.size:=by simpa using hb
 subst e;exact I1.af0 (aAh _) (I1.hok.fresh<|aAh _)
def VX {l:Expr}{tl:TE}(hl:PE X l tl):PI X tg l (tz X.K tl):=by
 intro pins s σ H R I h;refine D9 (hl pins s σ H _ I h) λv s1 ⟨x,H1,I1,r1,q1⟩=>?_;obtain⟨a,e,⟨xs,hq⟩,q⟩:=q1;subst e;cases r1;obtain⟨its,rv,p,hz⟩:=I1.tuple hq;refine wpAny_pyIter_tuple (show s1.heap.IsTuple a its.toArray from p) ?_;refine⟨s1.heap.objs.size,[s1.heap.objs.size],_,_,H1,rfl,I1.kept (t':=s1.toks) λb o e=>aAc _ e,BN a _,⟨_,aAp _ rfl,rfl,rfl⟩,λb hb=>?_,q⟩;have e:b=s1.heap.objs.size:=by simpa using hb
 subst e;exact I1.af0 (aAh _) (I1.hok.fresh<|aAh _)
def pj (wi:TI)(g:TG)(tb:TS):TS:=λD σ H=>wi σ H λJ H1=>∃W:Nat->Nat->St->Hp->Prop,(∃m,W 0 m σ H1)/\∀i m σ H,W i m σ H->
 (J.stop i H/\D.nx σ H)\/(J.go i H/\∃N:St->Hp->Prop,(∀ai H',N ai H'->∃m',m'<m/\W (i+1) m' ai H')/\∀x H',J.yld i H x H'->g x σ H' λum H2=>tb {D with nx:=N,ct:=N,bk:=D.nx} um H2)
def mS (fp:List Addr)(h:Heap):List (Addr×Obj):=fp.filterMap λb=>(h.get? b).map λo=>(b,o)
def bR (hb:b∈fp)(e:h.get? b=some o):(b,o)∈mS fp h:=aBS.mpr ⟨b,hb,by rw[e];rfl⟩
def HQ (hp:p∈mS fp h):p.1∈fp/\h.get? p.1=some p.2:=by
 obtain⟨b,hb,e⟩:=aBS.mp hp;cases q:h.get? b with
 |none=>rw[q]at e;cases e
 |some o=>rw[q]at e;have e':(b,o)=p:=aAj e;subst e';exact⟨hb,q⟩
def Inv.pinned (I:Inv X pins σ H s)(hf:∀b∈fp,lT X pins H b)(ho:∀b∈fp,∃o,s.heap.get? b=some o/\∀v,o.data≠.cell v):Inv X (pins++mS fp s.heap) σ H s:=
 I.ad5 λp hp=>(aAP.mp hp).elim (λz=>I.pin p (aAF _ z)) λz=>by obtain⟨hb,e⟩:=HQ z;obtain⟨f0,f1,f2,_⟩:=hf p.1 hb;obtain⟨o,e',d⟩:=ho p.1 hb;rw[e]at e';cases e';exact⟨e,f0,f1,f2,d⟩
def Inv.ab2 (I:Inv X (pins++pl) σ H s):Inv X pins σ H s:=I.ad5 λp hp=>I.pin p (aAF _<|aBE _ hp)
def WZ (hp:PassesOwn (model X.prog X.w) X.A X.env X.xe)(hc:X.calm=true)(hi:PI X tg iter wi)(hg:PG X tg g)(hb:uG X body tb)(hs:∀x,foldedSetIterable iter X.env x=pure x:=by intro _;rfl):PS X (.For tg iter body [] pos) (pj wi g tb):=by
 intro pins s σ H D I h;refine wpAny_For (D9 (hi pins s σ H _ I h) λv s1 h1=>D9 h1 λitv s2 h2=>?_) hs;obtain⟨it,fp,tn,J,H2,e,I2,T,ju,f2,W,⟨m0,w0⟩,turn⟩:=h2;subst e;have stat:∀{H':Hp},(∀b∈fp,H' b=none)->∀b∈fp,lT X pins H' b:=λhn b hb=>⟨hn b hb,(f2 b hb).2⟩;refine codeAny_forLoop_any (λn s'=>∃i ai H',Inv X pins ai H' s'/\tn i s'.heap/\(∀b∈fp,H' b=none)/\W i n ai H') ?_ m0 ⟨0,σ,H2,I2,ju,λb hb=>(f2 b hb).1,w0⟩;rintro n s3 ⟨i,qa,H3,I3,st3,fr3,w3⟩;rcases turn i n qa H3 w3 with⟨stop,qn⟩|⟨go,N,hN,step⟩
 ·refine aCO hp (D9 (T.done X rfl rfl rfl hc i pins s3 qa H3 X.xe I3 (stat fr3) st3 stop) λr s4 ⟨hr,I4⟩=>?_);subst hr;exact aEs ⟨qa,H3,I4,qn⟩
 ·refine aCO hp (D9 (T.item X rfl rfl rfl hc i pins s3 qa H3 X.xe I3 (stat fr3) st3 go) λr s4 ⟨u,hr,h4⟩=>?_);subst hr;refine aCO hp (D9 h4 λ_ s5 ⟨x,H5,I5,r5,y5,st5,fr5⟩=>?_);have I5':=I5.pinned (stat fr5) (T.obj _ _ st5);refine aCO hp (D9 (hg _ s5 qa H5 x u _ I5' r5<|step x H5 y5) λ_ s6 ⟨σ6,H6,I6,q6⟩=>?_);refine aCO hp (D9 (hb _ s6 σ6 H6 _ I6 q6) λf s7 q7=>?_);have again:∀{om:St} {H7:Hp},Inv X (pins++mS fp s5.heap) om H7 s7->N om H7->∃m,m<n/\∃i ai H',Inv X pins ai H' s7/\tn i s7.heap/\(∀b∈fp,H' b=none)/\W i m ai H':=λ{om H7} I7 n7=>by obtain⟨m',hm,w7⟩:=hN om H7 n7;refine⟨m',hm,i+1,om,H7,I7.ab2,T.keep _ _ _ st5 λb hb o e=>(I7.pin (b,o)<|aAF _<|aAF _<|bR hb e).1,λb hb=>?_,w7⟩;obtain⟨o,e,d⟩:=T.obj _ _ st5 b hb;exact(I7.pin (b,o)<|aAF _<|aAF _<|bR hb e).2.1
  cases f with
  |next=>obtain⟨om,H7,I7,n7⟩:=q7;exact again I7 n7
  |cont=>obtain⟨om,H7,I7,n7⟩:=q7;exact again I7 n7
  |brk=>obtain⟨om,H7,I7,q7⟩:=q7;exact⟨om,H7,I7.ab2,q7⟩
  |ret v=>obtain⟨x7,om,H7,I7,r7,q7⟩:=q7;exact⟨x7,om,H7,I7.ab2,r7,q7⟩
end
end L2
namespace L2
open PySem PySem.Spec PyProof.Rows
abbrev R2:=V->V->Hp->VK->Prop
def lZ (X:Cx)(f:Value->Value->Sem Value)(r:R2):Prop:=
 ∀(pins:N5) (s:Shared) (σ:St) (H:Hp) (x y:V) (v u:Value) (Q:VK),Inv X pins σ H s->RelV x v->RelV y u->r x y H Q->
  wpAny (model X.prog X.w) X.A (f v u) (EP X pins σ Q) X.xe s
def xj (X:Cx)(f:Value->Sem Value)(r:V->Hp->VK->Prop):Prop:=
 ∀(pins:N5) (s:Shared) (σ:St) (H:Hp) (x:V) (v:Value) (Q:VK),Inv X pins σ H s->RelV x v->r x H Q->
  wpAny (model X.prog X.w) X.A (f v) (EP X pins σ Q) X.xe s
def pE (X:Cx)(f:Value)(r:List V->Hp->VK->Prop):Prop:=
 ∀(pins:N5) (s:Shared) (σ:St) (H:Hp) (xs:List V) (us:List Value) (Q:VK),Inv X pins σ H s->n8 xs us->r xs H Q->
  wpAny (model X.prog X.w) X.A (call f us) (EP X pins σ Q) X.xe s
def tUn (r:V->Hp->VK->Prop)(ta:TE):TE:=λσ H Q=>ta σ H λx H1=>r x H1 Q
def rI (C:Int->Int->Prop)(g:Int->Int->V):R2:=λx y H Q=>∃i j,x=.int i/\y=.int j/\C i j/\Q (g i j) H
def TW (g:Int->Int->V):R2:=λx y H Q=>∃i j,x=.int i/\y=.int j/\Q (g i j) H
def rU (g:Int->V):V->Hp->VK->Prop:=λx H Q=>∃i,x=.int i/\Q (g i) H
section
variable{X:Cx} {a b c:Expr} {ta tb tc:TE} {pos:Pos}
def MQ (ha:PE X a ta)(hb:PE X b tb){pins:N5}{s:Shared}{σ:St}{H:Hp}{R:V->V->Hp->Prop}(I:Inv X pins σ H s)
  (h:ta σ H λx H1=>tb σ H1 λy H2=>R x y H2) {Q:C8} {f:Value->Value->Sem Value}
  (hf:∀v u s2 x y H2,Inv X pins σ H2 s2->RelV x v->RelV y u->R x y H2->wpAny (model X.prog X.w) X.A (f v u) Q X.xe s2):
  wpAny (model X.prog X.w) X.A (eval a X.env) (λv ae=>wpAny (model X.prog X.w) X.A (eval b X.env) (λu gh=>wpAny (model X.prog X.w) X.A (f v u) Q X.xe gh) X.xe ae) X.xe s:=by
 refine D9 (ha pins s σ H _ I h) λv s1 ⟨x,H1,I1,r1,q1⟩=>?_;refine D9 (hb pins s1 σ H1 _ I1 q1) λu s2 ⟨y,H2,I2,r2,q2⟩=>?_;exact hf v u s2 x y H2 I2 r1 r2 q2
def ZR {r:V->Hp->VK->Prop}(ho:xj X (unaryOp op) r)(ha:PE X a ta):PE X (.UnaryOp op a pos) (tUn r ta):=by intro pins s σ H Q I h;exact UnaryOp_ (D9 (ha pins s σ H _ I h) λv s1 ⟨x,H1,I1,r1,q1⟩=>ho pins s1 σ H1 x v Q I1 r1 q1)
def jw {f:Value->Value->Sem Value}{C:Int->Int->Prop}{g:Int->Int->Int}
  (rule:∀(i j:Int) (t u:Tok) (s:Shared) (Q:C8) (E:C8),C i j->Q (.int (g i j) s.toks) {s with toks:=s.toks+1}->wpAny (model X.prog X.w) X.A (f (.int i t) (.int j u)) Q E s):
  lZ X f (rI C λi j=>.int (g i j)):=by
 intro pins s σ H x y v u Q I rx ry h;obtain⟨i,j,rfl,rfl,hc,q⟩:=h;obtain⟨t,rfl⟩:=rx;obtain⟨t',rfl⟩:=ry;exact rule i j t t' s _ _ hc ⟨.int (g i j),H,I.tok _,⟨_,rfl⟩,q⟩
def az {f:Value->Value->Sem Value}{g:Int->Int->Int}
  (rule:∀(i j:Int) (t u:Tok) (s:Shared) (Q:C8) (E:C8),Q (.int (g i j) s.toks) {s with toks:=s.toks+1}->wpAny (model X.prog X.w) X.A (f (.int i t) (.int j u)) Q E s):
  lZ X f (TW λi j=>.int (g i j)):=by
 intro pins s σ H x y v u Q I rx ry h;obtain⟨i,j,rfl,rfl,q⟩:=h;obtain⟨t,rfl⟩:=rx;obtain⟨t',rfl⟩:=ry;exact rule i j t t' s _ _ ⟨.int (g i j),H,I.tok _,⟨_,rfl⟩,q⟩
def VZ {f:Value->Value->Sem Value}{g:Int->Int->Bool}
  (rule:∀(i j:Int) (t u:Tok) (s:Shared) (Q:C8) (E:C8),Q (.bool (g i j)) s->wpAny (model X.prog X.w) X.A (f (.int i t) (.int j u)) Q E s):
  lZ X f (TW λi j=>.bl (g i j)):=by
 intro pins s σ H x y v u Q I rx ry h;obtain⟨i,j,rfl,rfl,q⟩:=h;obtain⟨t,rfl⟩:=rx;obtain⟨t',rfl⟩:=ry;exact rule i j t t' s _ _ ⟨.bl (g i j),H,I,rfl,q⟩
def sk (i j:Int):Prop:=0<=j/\j<=1000000/\i.natAbs<2^64
def VG:lZ X (binaryOp .Add) (TW λi j=>.int (i+j)):=az λ_ _ _ _ _ _ _ q=>add_int q
def WD:lZ X (binaryOp .Sub) (TW λi j=>.int (i-j)):=az λ_ _ _ _ _ _ _ q=>sub_int q
def SR:lZ X (binaryOp .Mod) (rI (λ_ j=>j≠0) λi j=>.int (i.fmod j)):=jw λ_ _ _ _ _ _ _ hc q=>mod_int' hc q
def XN:lZ X (binaryOp .Pow) (rI sk λi j=>.int (i^j.toNat)):=jw λ_ _ _ _ _ _ _ hc q=>pow_int_small hc.1 hc.2.1 hc.2.2 q
def unI {f:Value->Sem Value}{g:Int->Int}
  (rule:∀(i:Int) (t:Tok) (s:Shared) (Q:C8) (E:C8),Q (.int (g i) s.toks) {s with toks:=s.toks+1}->wpAny (model X.prog X.w) X.A (f (.int i t)) Q E s):
  xj X f (rU λi=>.int (g i)):=by
 intro pins s σ H x v Q I rx h;obtain⟨i,rfl,q⟩:=h;obtain⟨t,rfl⟩:=rx;exact rule i t s _ _ ⟨.int (g i),H,I.tok _,⟨_,rfl⟩,q⟩
def VT:xj X (unaryOp .USub) (rU λi=>.int (-i)):=unI λ_ _ _ _ _ q=>neg_int q
end
section
variable{X:Cx} {a b c:Expr} {ta tb tc:TE} {pos:Pos}
def XS (I:Inv X pins σ H s)(q:Q (.bl k) H)(e:k=k'):EP X pins σ Q (.bool k') s:=by subst e;exact⟨.bl k,H,I,rfl,q⟩
def gy:lZ X (compareOp .Lt) (TW λi j=>.bl (decide (i<j))):=VZ λ_ _ _ _ _ _ _ q=>lt_int q
def bq:lZ X (compareOp .LtE) (TW λi j=>.bl (decide (i<=j))):=VZ λ_ _ _ _ _ _ _ q=>le_int q
def ZZ:lZ X (compareOp .Gt) (TW λi j=>.bl (decide (j<i))):=VZ λ_ _ _ _ _ _ _ q=>gt_int q
def WA:lZ X (compareOp .Is) (λx y H Q=>y=.non/\Q (.bl (decide (x=.non))) H):=by
 intro pins s σ H x y v u Q I rx ry h;obtain⟨rfl,q⟩:=h;cases ry;refine is_none_gen (XS I q ?_);cases x<;>first
  |(cases rx;rfl)
  |(obtain⟨t,rfl⟩:=rx;rfl)
def JY (b:Expr)(h:op≠.In:=by decide)(h2:op≠.NotIn:=by decide):behindInMarks op b=false:=by
 have e1:(op==CmpOp.In)=false:=by cases op<;>first|rfl|exact absurd rfl h
 have e2:(op==CmpOp.NotIn)=false:=by cases op<;>first|rfl|exact absurd rfl h2
 cases b<;>simp[behindInMarks,e1,e2]
def uB:(sizeLine:Nat)<2^63:=by rw[aFg];decide
def vals1 (r:n8 [x] us):∃u,us=[u]/\RelV x u:=by
 cases r with
 |cons r1 r2=>cases r2;exact⟨_,rfl,r1⟩
def vals2 (r:n8 [x,y] us):∃u w',us=[u,w']/\RelV x u/\RelV y w':=by
 cases r with
 |cons r1 r2=>
  cases r2 with
  |cons r3 r4=>cases r4;exact⟨_,_,rfl,r1,r3⟩
def OF:pE X (.builtin "abs") (λxs H Q=>∃i,xs=[.int i]/\Q (.int (if i<0 then-i else i)) H):=by intro pins s σ H xs us Q I r h;obtain⟨i,rfl,q⟩:=h;obtain⟨u,rfl,t,rfl⟩:=vals1 r;exact call_abs_int λu tk=>⟨.int (if i<0 then-i else i),H,I.tok _,⟨_,rfl⟩,q⟩
def GZ (hc:X.calm=true):pE X (.builtin "max") (λxs H Q=>∃i j,xs=[.int i,.int j]/\Q (.int (if j>i then j else i)) H):=by
 intro pins s σ H xs us Q I r h;obtain⟨i,j,rfl,q⟩:=h;obtain⟨u,w',rfl,⟨t,rfl⟩,⟨t',rfl⟩⟩:=vals2 r;refine max_two_ints (I.ok.hd hc) λh' tk k=>⟨_,H,I.kept k,?_,q⟩;by_cases hj:j>i
 ·rw[if_pos hj,if_pos hj];exact⟨_,rfl⟩
 ·rw[if_neg hj,if_neg hj];exact⟨_,rfl⟩
def rR:pE X (.type "int") (λxs H Q=>(∃i,xs=[.int i]/\Q (.int i) H)\/∃k,xs=[.bl k]/\Q (.int (if k then 1 else 0)) H):=by
 intro pins s σ H xs us Q I r h;rcases h with⟨i,rfl,q⟩|⟨k,rfl,q⟩
 ·obtain⟨u,rfl,t,rfl⟩:=vals1 r;exact call_int_int ⟨.int i,H,I,⟨_,rfl⟩,q⟩
 ·obtain⟨u,rfl,r1⟩:=vals1 r;cases r1;exact call_int_bool ⟨.int (if k then 1 else 0),H,I.tok _,⟨_,rfl⟩,q⟩
end
end L2
namespace L2
open PySem PySem.Spec PyProof.Rows
section
variable{prog:Program} {w:World} {A:Around} {E:C8} {s:Shared} {K:PySem.W.Frag} {x dx C f:Addr} {mA:cF} {name:Str} {v:Value}
end
section
variable{P:Program} {w:World} {H H':Hp} {h h':Heap} {a C dx:Addr} {fs xf:List (Str×V)}
end
section
variable{X:Cx} {pins:N5} {σ:St} {H:Hp} {s:Shared} {a C dx:Addr} {fs:List (Str×V)} {f:Str} {v:V} {A:Around} {E:C8}
end
section
variable{X:Cx} {o e value:Expr} {f:Str} {pos pos' tpos:Pos} {ta tv:TE}
end
section
variable{X:Cx} {pins:N5} {σ:St} {H:Hp} {s:Shared} {A:Around} {E:C8} {Q:C8} {c:Value} {b:Bool}
end
end L2
namespace L2
open PySem PySem.Spec PyProof.Rows
structure Room (k:Nat)(A:Around):Prop where
 hd:A.handled=none
 dp:A.depth+3*k+5<recursionLimit
 un:A.units+16*k+200<cLine
def Room.mono (r:Room k A)(h:j<=k):Room j A:=⟨r.hd,by have:=r.dp;lia,by have:=r.un;lia⟩
def Room.deeper (r:Room (k+1) A)(env:Env):Room k (A.deeper env):=
 ⟨r.hd,by have:=r.dp;show A.depth+1+3*k+5<_;lia,by have:=r.un;show A.units+3+16*k+200<_;lia⟩
def Room.depth (r:Room k A):A.depth<recursionLimit:=by have:=r.dp;lia
def Room.units (r:Room k A):A.units+64<cLine:=by have:=r.un;lia
def qx:TA:=λ_ H Q=>Q [] H
def ZI (ta:TE)(tr:TA):TA:=λσ H Q=>ta σ H λx H1=>tr σ H1 λxs H2=>Q (x::xs) H2
section
variable{X:Cx} {e:Expr} {es:List Expr} {te:TE} {t:TA} {pos:Pos}
def aV:PA X [] qx:=λ_ _ _ _ H Q I h=>aEZ ⟨[],H,I,.nil,h⟩
def J9 (ha:PE X e te)(hr:PA X es t)(hs:starEach (e::es) X.env=(false,eval e X.env)::starEach es X.env:=by rfl):PA X (e::es) (ZI te t):=by intro pos pins s σ H Q I h;rw[hs];show wpAny _ _ (spliced ((false,eval e X.env)::backTo pos (starEach es X.env))) _ _ s;refine aEK (D9 (ha pins s σ H _ I h) λu s1 ⟨x,H1,I1,r1,q1⟩=>?_);exact D9 (hr pos pins s1 σ H1 _ I1 q1) λus s2 ⟨xs,H2,I2,r2,q2⟩=>⟨x::xs,H2,I2,.cons r1 r2,q2⟩
def uq (t:TA):TE:=λσ H Q=>t σ H λxs H1=>xs.length<=sizeLine/\∀p,H1 p=none->Q (.ref p) (upd H1 p<|.tup xs)
def wq (t:TA):TE:=λσ H Q=>t σ H λxs H1=>xs.length<=sizeLine/\∀p,H1 p=none->Q (.ref p) (upd H1 p<|.lst xs)
def VH {x1}(h:PA X es t):PE X (.Tuple es x1 pos) (uq t):=by intro pins s σ H Q I hq;refine wpAny_Tuple_spliced (D9 (h pos pins s σ H _ I hq) λus s1 ⟨xs,H1,I1,r,z,q⟩=>⟨by rw[<-r.length];exact z,?_⟩);have hf:H1 s1.heap.objs.size=none:=I1.hok.fresh (aAh _);refine⟨.ref s1.heap.objs.size,upd H1 s1.heap.objs.size (.tup xs),I1.laid (t':=s1.toks) (λb u e=>aAc _ e) (aAh _) ?_,rfl,q _ hf⟩;exact⟨z,us,r,⟨_,aAp _ rfl,rfl,_,rfl⟩⟩
def LQ (h:PA X es t):PE X (.List es pos) (wq t):=by intro pins s σ H Q I hq;refine wpAny_List_spliced (D9 (h pos pins s σ H _ I hq) λus s1 ⟨xs,H1,I1,r,z,q⟩=>⟨by rw[<-r.length];exact z,?_⟩);have hf:H1 s1.heap.objs.size=none:=I1.hok.fresh (aAh _);refine⟨.ref s1.heap.objs.size,upd H1 s1.heap.objs.size (.lst xs),I1.laid (t':=s1.toks) (λb u e=>aAc _ e) (aAh _) ?_,rfl,q _ hf⟩;exact⟨z,us,0,r,aAp _ rfl⟩
end
abbrev Sp:=List V->Hp->VK->XK->Prop
abbrev OS:=List Env->Hp->Shared->XK->Value->Shared->Prop
structure Env0 (P:Program)(w:World)(K:PySem.W.Frag)(mg:cF)(base:Heap)(A:Around)(outer:List Env)(s:Shared)(H:Hp):Prop where
 frames:A.frames=some outer
 mod:Mod K mg base
 bs:∀b o,base.get? b=some o->s.heap.get? b=some o/\H b=none
 bsz:base.objs.size<=s.heap.objs.size
 funs:s.heap.FunFrames base outer
 frf:∀b∈yV outer,H b=none
 hok:fJ P w H s.heap
 bare:AllBare s.gens
def CE (outer:List Env)(P:Program)(w:World)(H:Hp)(s:Shared)(Q:VK)(u:Value)(s':Shared):Prop:=
 ∃v H',s'.os=s.os/\AllBare s'.gens/\Un (yV outer) [] H H' s.heap s'.heap/\fJ P w H' s'.heap/\RelV v u/\Q v H'
def CR (CX:OS)(outer:List Env)(P:Program)(w:World)(H:Hp)(s:Shared)(Q:VK)(E:XK)(r:Result)(s':Shared):Prop:=
 match r with
 |.ok (.ret u)=>CE outer P w H s Q u s'
 |.ok _=>False
 |.error e=>CX outer H s E e s'
structure FnOk (P:Program)(w:World)(K:PySem.W.Frag)(mg:cF)(base:Heap)(CX:OS)(k:Nat)(f:Addr)(fd:FuncData)(ps:List Str)(sp:Sp):Prop where
 len:∀vs H Q E,sp vs H Q E->vs.length=ps.length
 run:∀(A:Around) (outer:List Env) (s:Shared) (H:Hp) (args:Args) (us:List Value) (vs:List V) (Q:VK) (E:XK),Room k A->Env0 P w K mg base A outer s H->BindsTo s fd args (ps.zip us)->n8 vs us->sp vs H Q E->
  codeAny (model P w) A (.call (.ref f) args) (CR CX outer P w H s Q E) s
def FnOk.imp {P:Program}{w:World}{K:PySem.W.Frag}{mg:cF}{base:Heap}{CX:OS}{k:Nat}{f:Addr}{fd:FuncData}{ps:List Str}{sp sp':Sp}(F:FnOk P w K mg base CX k f fd ps sp)
  (h:∀vs H Q E,sp' vs H Q E->sp vs H Q E):FnOk P w K mg base CX k f fd ps sp':=
 ⟨λvs H Q E q=>F.len vs H Q E (h _ _ _ _ q),λA outer s H args us vs Q E hr he hb hv hs=>F.run A outer s H args us vs Q E hr he hb hv (h _ _ _ _ hs)⟩
section
variable{X:Cx} {pins:N5} {σ:St} {H:Hp} {s s':Shared}
def Inv.af3 (I:Inv X pins σ H s):Env0 X.prog X.w X.K X.mg X.base X.A X.stack s H:=
 ⟨I.ok.frames,I.ok.mod,I.bs,aAr I.ok.bsz I.sz,I.stack,I.ad4,I.hok,I.bare⟩
def Inv.after (I:Inv X pins σ H s)(h:CE X.stack X.prog X.w H s Q u s'):EP X pins σ Q u s':=by obtain⟨v,H',os,bare,un,hok,r,q⟩:=h;obtain⟨hh,g,d,t,os'⟩:=s';obtain rfl:os'=s.os:=os;exact⟨v,H',I.call (h':=hh) (g':=g) (d':=d) (t':=t) (ch:=[]) un hok bare (λb z=>absurd z (by simp)),r,q⟩
end
def ez (sp:Sp)(zr:List V)(E:XK)(t:TA):TE:=λσ H Q=>t σ H λvs H1=>sp (vs++zr) H1 Q E
def Binds (K:PySem.W.Frag)(fd:FuncData)(ps:List Str)(ds:List Value):Prop:=
 ∀(s:Shared) (us:List Value),K.In s.heap->(us++ds).length=ps.length->BindsTo s fd ⟨us,[]⟩ (ps.zip<|us++ds)
def Binds.all {K:PySem.W.Frag}{fd:FuncData}{ps:List Str}(h:∀us:List Value,us.length=ps.length->bindArgs fd ⟨us,[]⟩=pure (ps.zip us)):Binds K fd ps []:=λs us _ hl=>by rw[aCB]at hl⊢;exact .of_eq (h us hl)
def BP (CX:OS)(X:Cx)(E:XK):Prop:=∀(pins:N5) (σ:St) (H:Hp) (s:Shared) (e:Value) (s':Shared),Inv X pins σ H s->CX X.stack H s E e s'->X.xe e s'
section
variable{X:Cx} {CX:OS} {k:Nat} {f C:Addr} {fd:FuncData} {ps:List Str} {sp:Sp} {zr:List V} {ds:List Value} {E:XK} {x m:Str} {p pos apos:Pos} {e o:Expr} {es:List Expr} {ta:TE} {t:TA}
def XB (F:FnOk X.prog X.w X.K X.mg X.base CX k f fd ps sp)(hr:Room k X.A)(hb:Binds X.K fd ps ds)(hd:n8 zr ds)(hx:BP CX X E)(I:Inv X pins σ H s)(r:n8 vs us)(h:sp (vs++zr) H Q E):wpAny (model X.prog X.w) X.A (call (.ref f) us) (EP X pins σ Q) X.xe s:=by
 have r2:n8 (vs++zr) (us++ds):=r.append hd;have hl:(us++ds).length=ps.length:=by rw[<-r2.length];exact F.len _ _ _ _ h
 refine wpAny_call (aDG (F.run X.A X.stack s H ⟨us,[]⟩ (us++ds) (vs++zr) Q E hr I.af3 (hb s us I.kIn hl) r2 h) λr s' hq=>?_);cases r with
 |error e=>exact hx pins σ H s e s' I hq
 |ok fl=>
  cases fl with
  |ret u=>exact I.after hq
  |next=>exact aAm hq
  |brk=>exact aAm hq
  |cont=>exact aAm hq
def TF (F:FnOk X.prog X.w X.K X.mg X.base CX k f fd ps sp)(hr:Room k X.A)(hg:Gl X x)(hm:X.mg x=some (.ref f))(hk:PySem.W.keepIn X.K (.ref f)=true)(hb:Binds X.K fd ps ds)(hd:n8 zr ds)(hx:BP CX X E)
  (ha:PA X (e::es) t) (ia:(x==("__debug__":Str))=false:=by decide) (he:starEach (e::es) X.env=(false,eval e X.env)::starEach es X.env:=by rfl) (bf:(backTo pos (starEach es X.env)).any (·.1)=false:=by rfl):
  PE X (.Call (.Name x p) (e::es) [] pos) (ez sp zr E t):=by
 intro pins s σ H Q I h;refine aAM (vL I hg hm ?_ ia);refine PySem.W.callWith_K (h₀:=X.base) I.ok.mod.kin hk (D9 (ha pos pins s σ H _ I h) λus s1 ⟨vs,H1,I1,r,q⟩=>⟨I1.kIn,?_⟩) he bf;exact XB F hr hb hd hx I1 r q
end
section
variable{X:Cx} {CX:OS} {k:Nat} {f C:Addr} {fd:FuncData} {ps ks:List Str} {sp:Sp} {E:XK} {x m:Str} {p pos apos kpos:Pos} {e o:Expr} {es:List Expr} {kws:List Keyword} {te ta:TE} {t tk:TA} {nm:Option Str}
variable{g:List Value->List Value->List Value} {gV:List V->List V->List V}
end
structure FnScope (N P:List Str)(sc:Scope):Prop where
 kind:sc.kind=.function
 co:sc.isCoroutine=false
 gen:sc.isGenerator=false
 nd:N.Nodup
 pre:N.take P.length=P
 par:∀x∈P,sc.names.lookup x=some .local\/sc.names.lookup x=some .cell
 nofree:∀y∈sc.names,y.2≠.free
theorem rJ {kindOf:Str->Option NameKind}{x:Str}:∀{binds:List (Str×Value)} {m:cF},(∀v,(x,v)∉binds)->bindL kindOf binds m x=m x
 |[],_,_=>rfl
 |(n,v)::r,m,h=>by
  unfold bindL;rw[rJ λw hw=>h w (aAe _ hw)];split
  ·have:x≠n:=by rintro rfl;exact h v aAL
   simp[this]
  ·rfl
theorem rT {kindOf:Str->Option NameKind}{x:Str}:∀{binds:List (Str×Value)} {m:cF},(∀v,(x,v)∉binds)->bindC kindOf binds m x=m x
 |[],_,_=>rfl
 |(n,v)::r,m,h=>by
  unfold bindC;rw[rT λw hw=>h w (aAe _ hw)];split
  ·rfl
  ·have:x≠n:=by rintro rfl;exact h v aAL
   simp[this]
theorem rS {kindOf:Str->Option NameKind}{x:Str}{v:Value}:∀{P:List Str} {vs:List Value} {i:Nat} {m:cF},P.Nodup->P[i]?=some x->vs[i]?=some v->kindOf x=some .local->
  bindL kindOf (P.zip vs) m x=some v
 |[],_,_,_,_,h,_,_=>by simp at h
 |_::_,[],_,_,_,_,h,_=>by simp at h
 |p::P,w::vs,0,m,nd,h1,h2,hk=>by simp at h1 h2;subst h1;subst h2;show bindL kindOf ((p,w)::P.zip vs) m p=_;unfold bindL;rw[rJ λv hv=>(aAG.mp nd).1 (aDM hv).1,if_pos hk];simp
 |p::P,w::vs,i+1,m,nd,h1,h2,hk=>by show bindL kindOf ((p,w)::P.zip vs) m x=_;unfold bindL;exact rS (i:=i) (aAG.mp nd).2 (by simpa using h1) (by simpa using h2) hk
theorem sM {kindOf:Str->Option NameKind}{x:Str}{v:Value}:∀{P:List Str} {vs:List Value} {i:Nat} {m:cF},P.Nodup->P[i]?=some x->vs[i]?=some v->kindOf x≠some .local->
  bindC kindOf (P.zip vs) m x=some v
 |[],_,_,_,_,h,_,_=>by simp at h
 |_::_,[],_,_,_,_,h,_=>by simp at h
 |p::P,w::vs,0,m,nd,h1,h2,hk=>by simp at h1 h2;subst h1;subst h2;show bindC kindOf ((p,w)::P.zip vs) m p=_;unfold bindC;rw[rT λv hv=>(aAG.mp nd).1 (aDM hv).1,if_neg hk];simp
 |p::P,w::vs,i+1,m,nd,h1,h2,hk=>by show bindC kindOf ((p,w)::P.zip vs) m x=_;unfold bindC;exact sM (i:=i) (aAG.mp nd).2 (by simpa using h1) (by simpa using h2) hk
def start (N:List Str)(vs:List V):St:=vs.map some++aCJ (N.length-vs.length) none
def BM (CX:OS)(P:Program)(w:World)(K:PySem.W.Frag)(mg:cF)(base:Heap)(N:List Str)(qual:Str)(scope:Scope)(f:Addr)(cd:Value)(A:Around)(outer:List Env)(s:Shared)(H:Hp)(E:XK):Cx where
 prog:=P
 w:=w
 K:=K
 mg:=mg
 base:=base
 A:=A.deeper (envOfC qual scope s.heap.objs.size f cd)
 N:=N
 s9:=s
 H9:=H
 env:=envOfC qual scope s.heap.objs.size f cd
 outer:=outer
 stack:=envOfC qual scope s.heap.objs.size f cd::outer
 ex:=[]
 calm:=true
 fn:=λ_=>true
 pn:=[]
 xe:=λe s'=>wpAny (model P w) (A.deeper<|envOfC qual scope s.heap.objs.size f cd) (leaving (envOfC qual scope s.heap.objs.size f cd) e) (λ_ s''=>CX outer H s E e s'') (λe' s''=>CX outer H s E e' s'') s'
def wN {sc:Scope}{n:Nat}{x:Str}(h:sc.names.lookup x=some .cell):∃c,(cellsFrom n sc.names []).lookup x=some c:=by have q:=PySem.W.cellsFrom_some sc.names n [] (.inl h);exact aFa.mp q
def IG {CX:OS}{P:Program}{w:World}{K:PySem.W.Frag}{mg:cF}{base:Heap}{N ps:List Str}{qual:Str}{scope:Scope}{f:Addr}{cd:Value}{A:Around}{outer:List Env}{s s1:Shared}{H:Hp}{E:XK}{us:List Value}{vs:List V}
  (S:FnScope N ps scope) (hd:A.handled=none) (e0:Env0 P w K mg base A outer s H) (hl:vs.length=ps.length) (r:n8 vs us)
  (x:InCallC s s.heap.objs.size (bindL (envOfC qual scope s.heap.objs.size f cd).kindOf (ps.zip us) λ_=>none) (cellsFrom (s.heap.objs.size+1) scope.names []) (bindC (envOfC qual scope s.heap.objs.size f cd).kindOf (ps.zip us) λ_=>none) s1):
  Inv (BM CX P w K mg base N qual scope f cd A outer s H E) [] (start N vs) H s1:=by
 have bf:ps.length<=N.length:=by have:=congrArg aFW S.pre;rw[aBN]at this;lia
 obtain⟨h1,tk,rfl,hk⟩:=x.done;have noA:∀b:Addr,b∉(BM CX P w K mg base N qual scope f cd A outer s H E).ex:=λb z=>absurd (show b∈([]:List Addr)from z) (by simp);refine⟨⟨e0.mod,S.kind,rfl,rfl,aAh _,λy z c h1 h2=>?_,λy hy=>?_,λy c _ h=>?_,λ_=>hd,aFJ e0.frames,.inr ⟨rfl,rfl⟩,λb z=>absurd z (noA b),e0.bs,e0.bsz,λb _ _=>noA b,λb z=>absurd z (noA b),e0.funs,e0.frf⟩,
  rfl,e0.bare,Un.kept hk,⟨_,x.toInCall.ns,λi y v h1 h2 h3=>?_⟩,λy c h=>⟨_,x.cell y c h⟩,e0.hok.fresh (aAh _),λy c h=>?_,λp hp=>absurd (show p∈([]:N5)from hp) (by simp),e0.hok.kept hk,?_⟩
 ·exact name_of_addr x.apart (PySem.mem_of_lookup h1) (PySem.mem_of_lookup h2)
 ·have hy:scope.names.lookup y=some .cell\/scope.names.lookup y=some .free:=hy;rcases hy with hy|hy
  ·exact wN hy
  ·exact absurd rfl (S.nofree _<|PySem.mem_of_lookup hy)
 ·exact aDk (x.above y c<|PySem.mem_of_lookup h)
 ·have hi:i<vs.length:=by
   unfold start at h2;by_cases hi:i<vs.length
   ·exact hi
   ·rw[aAz (by simpa using hi)]at h2;rw[aBn]at h2;split at h2<;>cases h2
  have ha:vs[i]?=some v:=by
   unfold start at h2;rw[aAO (by simpa using hi),aAD]at h2;cases e:vs[i]? with
   |none=>rw[e]at h2;cases h2
   |some a=>rw[e]at h2;cases h2;rfl
  obtain⟨u,hu,rv⟩:=r.get ha;have hp:ps[i]?=some y:=by rw[<-S.pre,List.getElem?_take_of_lt (by lia)];exact h1
  have ndP:ps.Nodup:=by rw[<-S.pre];exact S.nd.sublist (List.take_sublist _ _)
  refine⟨u,rv,?_⟩;rcases S.par y (aAl hp)with k|k
  ·exact .inl ⟨k,rS ndP hp hu k⟩
  ·obtain⟨c,e⟩:=wN (n:=s.heap.objs.size+1) k;refine .inr ⟨.inl k,c,e,?_⟩;have q:=x.cell y c e;rw[sM ndP hp hu (by show scope.names.lookup y≠_;rw[k];decide)]at q;exact q
 ·exact e0.hok.fresh (aDk<|x.above y c<|PySem.mem_of_lookup h)
 ·unfold start;show _=N.length;rw[aAN,aAk,aCi]
  lia
def UU {CX:OS}{P:Program}{w:World}{K:PySem.W.Frag}{mg:cF}{base:Heap}{k:Nat}{f:Addr}{name qual:Str}{params:Arguments}{body:List Stmt}{scope:Scope}{dV kV doc pm cdv ct oc:Value}{an od:Option Addr}
  {osl:Array (Option Value)} {N ps:List Str} {sp:Sp} (lk:K.lookup f=some ⟨oc,od,.func (PySem.W.fnOf name qual params body scope dV kV doc pm an cdv ct),osl⟩) (gg:PySem.W.codeIn K cdv qual=true) (S:FnScope N ps scope)
  (len:∀vs H Q E,sp vs H Q E->vs.length=ps.length)
  (uo:∀(A:Around) (outer:List Env) (s:Shared) (H:Hp) (vs:List V) (Q:VK) (E:XK),Room k (A.deeper (envOfC qual scope s.heap.objs.size f cdv))->sp vs H Q E->
   ∃t,uG (BM CX P w K mg base N qual scope f cdv A outer s H E) body t/\t {nx:=λ_ H'=>Q .non H',rt:=Q} (start N vs) H):
  FnOk P w K mg base CX (k+1) f (PySem.W.fnOf name qual params body scope dV kV doc pm an cdv ct) ps sp:=by
 refine⟨len,λA outer s H args us vs Q E hr e0 hb r hsp=>?_⟩;have hl:=len _ _ _ _ hsp;have KX:K.In s.heap:=e0.mod.kin.keeps λb o e=>(e0.bs b o e).1;have lim:s.heap.NoLimit:=e0.mod.nolimit.keeps λb o e=>(e0.bs b o e).1;have nh:∀y∈ps.zip us,scope.names.lookup y.1=some .local\/(scope.names.lookup y.1=some .cell/\((cellsFrom (s.heap.objs.size+1) scope.names []).lookup y.1).isSome=true):=λ⟨n,v⟩ hy=>by
  rcases S.par n (aDM hy).1 with q|q
  ·exact .inl q
  ·exact .inr ⟨q,PySem.W.cellsFrom_some _ _ _ (.inl q)⟩
 refine codeAny_call_function hr.depth (KX _ _ lk) rfl S.co S.gen rfl (PySem.W.codeRec_of KX gg) (hb _ _ _ _ ?_);refine wpAny_newFunctionEnv_cells S.kind nh λenv he s1 x=>?_;subst he;refine⟨lim.keeps x.toInCall.keep,codeAny_func ?_⟩;obtain⟨t,ht,hq⟩:=uo A outer s H vs Q E (hr.deeper _) hsp;have I:Inv (BM CX P w K mg base N qual scope f cdv A outer s H E) [] (start N vs) H s1:=IG S hr.hd e0 hl r x;refine aCn (ht [] s1 (start N vs) H _ I hq) (λfl s' hs=>?_) λe s' hs=>hs;have fin:∀{ai:St} {H':Hp} {v:V} {u:Value},Inv (BM CX P w K mg base N qual scope f cdv A outer s H E) [] ai H' s'->RelV v u->Q v H'->CE outer P w H s Q u s':=
  λ{ai H' v u} J rv q=>⟨v,H',J.os,J.bare,J.base,J.hok,rv,q⟩
 cases fl with
 |ret u=>obtain⟨v,ai,H',J,rv,q⟩:=hs;exact fin J rv q
 |next=>obtain⟨ai,H',J,q⟩:=hs;exact fin (v:=V.non) (u:=Value.none) J rfl q
 |brk=>obtain⟨_,_,_,q⟩:=hs;exact aAm q
 |cont=>obtain⟨_,_,_,q⟩:=hs;exact aAm q
end L2
namespace L2
open PySem PySem.Spec PyProof.Rows
section
variable{X:Cx} {x:Str} {p pos:Pos} {e:Expr} {es:List Expr} {t:TA} {id T:String} {r:List V->Hp->VK->Prop}
end
end L2
namespace HT
open PySem PyProof.Rows
def lexLt:List Int->List Int->Bool
 |[],[]=>false
 |[],_::_=>true
 |_::_,[]=>false
 |x::xs,y::ys=>if x=y then lexLt xs ys else decide (x<y)
def F6 (x y:Int)(xs ys:List Int):lexLt (x::xs) (y::ys)=if x=y then lexLt xs ys else decide (x<y):=rfl
def Y2:lexLt [] []=false:=rfl
def N2 (y:Int)(ys:List Int):lexLt [] (y::ys)=true:=rfl
def B4 (x:Int)(xs:List Int):lexLt (x::xs) []=false:=rfl
def xG (A:Around)(s:Shared)(a:Int)(t:Tok)(c:Int)(u:Tok):∃e,SeqAt.EqAt A s (.int a t) (.int c u) e/\(e=true↔a=c):=
 ⟨(a==c),aEL a t c u,by simp⟩
def wW (A:Around)(s:Shared)(a:Int)(t:Tok)(c:Int)(u:Tok)(prog:Program)(w:World)(E:C8)(Q:C8)(h:Q (.bool (decide (a<c))) s):
  wpAny (model prog w) A (richCompare .Lt (.int a t) (.int c u)) Q E s:=
 (PyProof.Rows.lt_int h:wpAny (model prog w) A (compareOp .Lt (.int a t) (.int c u)) Q E s)
section
open PySem.SeqAt
open PySem.AutoSeq1 (wpAny_loadPart')
open PySem.MeetsSeq PySem.MeetsSeq2 PySem.MeetsSeq3
def qA (l b:Addr)(items au:Array Value)(n n2:Nat)(dd xl:Option Addr)(sl xm:Array (Option Value))(ns ms:List Int)(hi:IntsAre items.toList ns)(hj:IntsAre au.toList ms):
  Meets (Builtin.«tuple.__lt__» ⟨[.ref l,.ref b],[]⟩)
   (λ_ R s=>s.heap.get? l=some {cls:=.type "tuple",dict:=dd,data:=.seq items n,slots:=sl}/\s.heap.get? b=some {cls:=.type "tuple",dict:=xl,data:=.seq au n2,slots:=xm}/\
    R (.ok (.ret (.bool (lexLt ns ms)))) s):=
 .of_wp λprog w A R s h=>by
  obtain⟨hp,g,d,tk,os⟩:=s;obtain⟨hl,hb,h⟩:=h;have f2:=AutoSeq1.sub_tuple_tuple;have z1:items.size=ns.length:=by rw[<-hi.length];simp
  have z2:au.size=ms.length:=by rw[<-hj.length];simp
  wp_walk using wpAny_loadPart' hl,wpAny_loadPart' hb,aCp _ (λrest b s'=>b.1=none/\s'=⟨hp,g,d,tk,os⟩/\∃(vs ws:List Value) (tf ua:List Int),rest=vs.zip ws/\
   IntsAre vs tf/\IntsAre ws ua/\tf.length+au.size=ua.length+items.size/\R (.ok (.ret (.bool (lexLt tf ua)))) ⟨hp,g,d,tk,os⟩) _
  case turn=>
   rintro⟨y,x⟩ rest b s' ⟨jb,rfl,vs,ws,tf,ua,hz,uc,yh,hlen,hR⟩;cases uc with
   |nil=>rw[List.zip_nil_left]at hz;cases hz
   |cons a t hvi'=>
    cases yh with
    |nil=>rw[List.zip_nil_right]at hz;cases hz
    |cons c u hwi'=>
     rw[aBT]at hz;injection hz with zu ah;injection zu with hy hx;subst hy hx;rw[F6]at hR;simp only[aAx]at hlen;obtain⟨e,he,ur⟩:=xG A.in1 ⟨hp,g,d,tk,os⟩ a t c u;refine aAa (he prog w _ _ ?_);cases e with
     |true=>
      rw[if_pos (ur.mp rfl)]at hR
      wp_walk
      exact⟨rfl,rfl,_,_,_,_,ah,hvi',hwi',by lia,hR⟩
     |false=>
      rw[if_neg (λq=>absurd (ur.mpr q) aBg)]at hR;have hri:=wW A.in1 ⟨hp,g,d,tk,os⟩ a t c u prog w
      wp_walk using hri
      exact⟨_,rfl,by simpa using hR⟩
  case fin=>
   rintro⟨b1,b2⟩ s' ⟨jb,rfl,vs,ws,tf,ua,hz,uc,yh,hlen,hR⟩;simp only at jb;subst jb;have hv:lexLt tf ua=decide (items.size<au.size):=by
    cases uc with
    |nil=>
     cases yh with
     |nil=>simp only[aBU]at hlen;rw[Y2];exact(decide_eq_false (by lia)).symm
     |cons c u hw=>simp only[aBU,aAx]at hlen;rw[N2];exact(decide_eq_true (by lia)).symm
    |cons a t hv=>
     cases yh with
     |nil=>simp only[aBU,aAx]at hlen;rw[B4];exact(decide_eq_false (by lia)).symm
     |cons c u hw=>rw[aBT]at hz;cases hz
   rw[hv]at hR
   wp_walk
   exact⟨_,rfl,by simpa[Builtin.Tuple.tupleCompareSizes]using hR⟩
  case h=>exact⟨rfl,rfl,items.toList,au.toList,ns,ms,rfl,hi,hj,by lia,h⟩
end
section
variable{prog:Program} {w:World} {A:Around} {E:C8} {s:Shared}
def lt_tupInts {Q:C8}(hl:IsTup s.heap l items)(hb:IsTup s.heap b au)(hi:IntsAre items.toList ns)(hj:IntsAre au.toList ms)(hu:A.units<cLine)(h:Q (.bool (lexLt ns ms)) s):wpAny (model prog w) A (compareOp .Lt (.ref l) (.ref b)) Q E s:=by
 obtain⟨⟨cls,dd,data,sl⟩,ho,hc,n,hd⟩:=id hl;obtain⟨⟨cls2,xl,data2,xm⟩,jv,jm,n2,hd2⟩:=id hb;simp only at hc hd jm hd2;subst hc hd jm hd2;exact richCompare_meets_room (op:=.Lt) ⟨_,ho,rfl⟩ ⟨_,jv,rfl⟩ PySem.F.slot_tuple_lt PySem.F.entry_tuple_lt (PySem.F.args_tuple_lt_2 _ _) (qA l b items au n n2 dd xl sl xm ns ms hi hj)
  ⟨ho,jv,show aDp (lexLt ns ms)≠Value.notImplemented/\Q (.bool (lexLt ns ms)) s from⟨(λx=>nomatch x),h⟩⟩ hu
def cat_tup {Q:C8}(ht:IsTup s.heap t vs.toArray)(hb:IsTup s.heap b ws.toArray)(hv:vs≠[])(h1:ws=[]->Q (.ref t) s)(h2:ws≠[]->Q (.ref s.heap.objs.size) {s with heap:=s.heap.push {cls:=.type "tuple",data:=.seq (vs++ws).toArray}})(hsz:vs.length+ws.length<=sizeLine):wpAny (model prog w) A (binaryOp .Add (.ref t) (.ref b)) Q E s:=by
 obtain⟨⟨cls,dd,data,sl⟩,ho,hc,n,hd⟩:=id ht;obtain⟨⟨cls2,xl,data2,xm⟩,jv,jm,n2,hd2⟩:=id hb;simp only at hc hd jm hd2;subst hc hd jm hd2;have e:vs.toArray++ws.toArray=(vs++ws).toArray:=by simp
 by_cases hw:ws=[]
 ·exact aFz ⟨_,ho,rfl⟩ ⟨_,jv,rfl⟩ aFn seq_tuple_add PySem.F.slot_tuple_add PySem.F.entry_tuple_add (PySem.F.args_tuple_add_2 _ _)
   (tuple_addW1 t b vs.toArray ws.toArray n n2 dd xl sl xm (by simpa using hv) (by simp[hw])) ⟨ho,jv,h1 hw⟩
 ·refine aFz ⟨_,ho,rfl⟩ ⟨_,jv,rfl⟩ aFn seq_tuple_add PySem.F.slot_tuple_add PySem.F.entry_tuple_add (PySem.F.args_tuple_add_2 _ _)
   (tuple_addW2 t b vs.toArray ws.toArray n n2 dd xl sl xm (by simpa using hv) (by simpa using hw) (by rw[aAq,aAq];exact hsz)) ⟨ho,jv,?_⟩
  rw[e];exact h2 hw
def sIx (n d:Nat):Option Int->Nat
 |none=>d
 |some v=>if v<0 then(v+(n:Int)).toNat else min v.toNat n
def ZW (n d:Nat):sIx n d none=d:=rfl
def WY (n d:Nat)(hd:d<=n)(o:Option Int):sIx n d o<=n:=by
 cases o with
 |none=>exact hd
 |some v=>
  show(if v<0 then(v+(n:Int)).toNat else min v.toNat n)<=n;by_cases hv:v<0
  ·rw[if_pos hv];lia
  ·rw[if_neg hv];exact Nat.min_le_right _ _
def CN (v:Int)(n d:Nat):(if v<0 then max (v+(n:Int)) 0 else min v (n:Int))=((sIx n d (some v):Nat):Int):=by
 show(if v<0 then max (v+(n:Int)) 0 else min v (n:Int))=(((if v<0 then(v+(n:Int)).toNat else min v.toNat n):Nat):Int);by_cases hv:v<0
 ·simp only[if_pos hv];lia
 ·simp only[if_neg hv];lia
def AC (lo hi:Option Int)(n:Nat):aDx lo hi 1 (n:Int)=(((sIx n 0 lo:Nat):Int),((sIx n n hi:Nat):Int)):=by
 have h1:¬((1:Int)<0):=by lia
 unfold aDx;simp only[h1,if_false];refine aFh ?_ ?_
 ·cases lo with
  |none=>rfl
  |some v=>exact CN v n 0
 ·cases hi with
  |none=>rfl
  |some v=>exact CN v n n
def zT (i j:Nat):aCK (i:Int) (j:Int) 1=j-i:=by
 unfold aCK;have h1:(1:Int)>0:=by lia
 simp only[h1,if_true,Int.ediv_one];split<;>lia
def oC {Q:Option Int->Shared->Prop}(p:IsPart v o)(h:Q o s):wpAny (model prog w) A (Builtin.Slice.slicePartIndex v) Q E s:=by
 cases p with
 |none=>exact slicePart_none h
 |int i t=>exact slicePart_int h
def jX {sl:Addr}{vl vu:Value}{lo hi:Option Int}{n:Nat}{Q:Int×Int×Nat->Shared->Prop}(hs:s.heap.IsSliceOf sl vl vu .none)(pl:IsPart vl lo)(pu:IsPart vu hi)
  (h:Q (((sIx n 0 lo:Nat):Int),1,sIx n n hi-sIx n 0 lo) s):wpAny (model prog w) A (aEE (.ref sl) (pure (n:Int))) Q E s:=by
 obtain⟨os,hos,uu,xn⟩:=id hs;unfold aEE Builtin.Slice.sliceFields;refine aAa (aAa<|aCL hos xn (x:=vl) rfl<|aAa<|aCL hos xn (x:=vu) rfl<|aAa<|aCL hos xn (x:=.none) rfl<|aAb ?_);refine aAa (slicePart_none ?_);show wpAny _ _ (if((1:Int)==0)=true then _ else _) _ _ s;rw[if_neg (by decide)];refine aAa (oC pl<|aAa<|oC pu<|aAa<|aAb ?_);show wpAny _ _ (match aDx lo hi 1 (n:Int)with|(lo,hi)=>pure (lo,(1:Int),aCK lo hi 1)) _ _ s;rw[AC lo hi n];show wpAny _ _ (pure (((sIx n 0 lo:Nat):Int),(1:Int),aCK ((sIx n 0 lo:Nat):Int) ((sIx n n hi:Nat):Int) 1)) _ _ s;rw[zT];exact aAb h
def MN (xs:Array Value)(i k:Nat):((aBu k).filterMap λ(m:Nat)=>xs[((i:Int)+(m:Int)*1).toNat]?).toArray=((xs.toList.drop i).take k).toArray:=by
 have e:(λ(m:Nat)=>xs[((i:Int)+(m:Int)*1).toNat]?)=λm=>xs[i+m]?:=by
  funext m
  have:((i:Int)+(m:Int)*1).toNat=i+m:=by lia
  rw[this]
 rw[e];have:=pick_run xs i k;rw[aDe]at this;have e2:((λx=>xs[x]?)∘λx=>i+x)=λm=>xs[i+m]?:=rfl;rw[e2]at this;rw[this]
def getItem_tuple_cut {t sl:Addr}{items:Array Value}{vl vu:Value}{lo hi:Option Int}{Q:C8}(ht:IsTup s.heap t items)(hs:s.heap.IsSliceOf sl vl vu .none)(pl:IsPart vl lo)(pu:IsPart vu hi)
  (hw:¬(sIx items.size 0 lo=0/\sIx items.size items.size hi=items.size))
  (h:Q (.ref s.heap.objs.size) {s with heap:=s.heap.push {cls:=.type "tuple",data:=.seq ((items.toList.drop (sIx items.size 0 lo)).take (sIx items.size items.size hi-sIx items.size 0 lo)).toArray}})
  (hsz:items.size<=sizeLine):wpAny (model prog w) A (getItem (.ref t) (.ref sl)) Q E s:=by
 have qm:sizeOk (.seq ((items.toList.drop<|sIx items.size 0 lo).take (sIx items.size items.size hi-sIx items.size 0 lo)).toArray):=by
  show((items.toList.drop<|sIx items.size 0 lo).take (sIx items.size items.size hi-sIx items.size 0 lo)).toArray.size<=sizeLine;rw[aAq,aBN,aDC,aBa]
  lia
 have hj:sIx items.size items.size hi<=items.size:=WY _ _ (aAh _) hi;obtain⟨os,hos,uu,xn⟩:=id hs;have hTs:s.TypeIs (.ref sl) "slice":=⟨os,hos,uu⟩;unfold getItem;try with_reducible refine aAJ ?_
 first|refine aAa (aAb ?_)|skip
 refine aAa (wpAny_sequenceKey ht.typeIs (by decide) ?_);refine aAa (aBV (name:=aCw "__getitem__") ht.typeIs aCx
  (aBf aCx ht.typeIs entry_tuple_getitem ?_ (args_tuple_getitem _ _)))
 show wpAny _ _ (aDt (.ref t)>>=_) _ _ s;refine aAa (tupleItemsOf_ ht ?_);refine aAa (aDH hTs ?_);rw[if_pos (by decide)];refine aAa (jX hs pl pu ?_);have hno:¬((((sIx items.size 0 lo:Nat):Int)==0&&(1:Int)==1&&(sIx items.size items.size hi-sIx items.size 0 lo)==items.size)=true):=by intro q;rw[aAK,aAK]at q;have q1:((sIx items.size 0 lo:Nat):Int)=0:=eq_of_beq q.1.1;have q2:sIx items.size items.size hi-sIx items.size 0 lo=items.size:=eq_of_beq q.2;exact hw ⟨by lia,by lia⟩
 show wpAny _ _ (if(((sIx items.size 0 lo:Nat):Int)==0&&(1:Int)==1&&(sIx items.size items.size hi-sIx items.size 0 lo)==items.size)=true then _ else _) _ _ s;rw[if_neg hno,MN];first
  |exact aAa (m:=aCP _) (aAS (aAb ⟨_,rfl,aAb h⟩) qm)
  |exact aAa (m:=aCP _) (aAS (aAa<|aAb<|aAb ⟨_,rfl,aAb h⟩) qm)
  |exact aAa (aAa (m:=aCP _)<|aAS (aAb<|aAb ⟨_,rfl,aAb h⟩) qm)
  |exact aAa (aAa (m:=aCP _)<|aAS (aAb ⟨_,rfl,aAb h⟩) qm)
end
end HT
namespace L2
open PySem PySem.Spec PyProof.Rows
abbrev TO:=St->Hp->(Option Int->Hp->Prop)->Prop
def PO (X:Cx)(e:Option Expr)(t:TO):Prop:=
 ∀(pins:N5) (s:Shared) (σ:St) (H:Hp) (Q:Option Int->Hp->Prop),Inv X pins σ H s->t σ H Q->
  wpAny (model X.prog X.w) X.A (evalPart e X.env) (λu s'=>∃o H',Inv X pins σ H' s'/\IsPart u o/\Q o H') X.xe s
def PY:TO:=λ_ H Q=>Q none H
def ZC (t:TE):TO:=λσ H Q=>t σ H λx H1=>∃i,x=.int i/\Q (some i) H1
section
variable{X:Cx} {e:Expr} {te:TE} {lo hi:Option Expr} {tl th:TO} {pos p2:Pos}
def QK:PO X none PY:=by intro pins s σ H Q I h;rw[evalPart_none];exact aAb ⟨none,H,I,.none,h⟩
def RL (h:PE X e te):PO X (some e) (ZC te):=by intro pins s σ H Q I hw;rw[evalPart_some];refine D9 (h pins s σ H _ I hw) λu s1 ⟨x,H1,I1,r1,q1⟩=>?_;obtain⟨i,rfl,q⟩:=q1;obtain⟨t,rfl⟩:=r1;exact⟨some i,H1,I1,.int i t,q⟩
def YC (X:Cx)(r:V->Option Int->Option Int->Hp->VK->Prop):Prop:=
 ∀(pins:N5) (s:Shared) (σ:St) (H:Hp) (x:V) (v vl vu:Value) (lo hi:Option Int) (sl:Addr) (Q:VK),Inv X pins σ H s->RelV x v->s.heap.IsSliceOf sl vl vu .none->IsPart vl lo->IsPart vu hi->r x lo hi H Q->
  ∃T id,typeLookup (.type T) "__getitem__"=pure (some<|.builtin id)/\s.TypeIs v T/\wpAny (model X.prog X.w) X.A (getItem v<|.ref sl) (EP X pins σ Q) X.xe s
def YC.or {r r':V->Option Int->Option Int->Hp->VK->Prop}(h:YC X r)(h':YC X r'):YC X (λx lo hi H Q=>r x lo hi H Q\/r' x lo hi H Q):=by
 intro pins s σ H x v vl vu lo hi sl Q I rx hs pl pu q;rcases q with q|q
 ·exact h pins s σ H x v vl vu lo hi sl Q I rx hs pl pu q
 ·exact h' pins s σ H x v vl vu lo hi sl Q I rx hs pl pu q
def tSl (r:V->Option Int->Option Int->Hp->VK->Prop)(te:TE)(tl th:TO):TE:=λσ H Q=>te σ H λx H1=>tl σ H1 λl H2=>th σ H2 λu H3=>r x l u H3 Q
def OP {r:V->Option Int->Option Int->Hp->VK->Prop}(hr:YC X r)(he:PE X e te)(hl:PO X lo tl)(hu:PO X hi th):PE X (.Subscript e (.Slice lo hi none p2) pos) (tSl r te tl th):=by intro pins s σ H Q I h;refine Subscript_ (D9 (he pins s σ H _ I h) λv s1 ⟨x,H1,I1,r1,q1⟩=>?_);refine wpAny_Slice (D9 (hl pins s1 σ H1 _ I1 q1) λvl s2 ⟨l,H2,I2,pl,q2⟩=>D9 (hu pins s2 σ H2 _ I2 q2) λvu s3 ⟨u,H3,I3,pu,q3⟩=>?_);rw[evalPart_none];refine aAb ?_;have I4:Inv X pins σ H3 {s3 with heap:=s3.heap.push {cls:=.type "slice",data:=.fields #[vl,vu,.none]}}:=I3.kept (t':=s3.toks) λb ob q=>aAc _ q;obtain⟨T,id,hT,ht,hg⟩:=hr pins {s3 with heap:=s3.heap.push {cls:=.type "slice",data:=.fields #[vl,vu,.none]}} σ H3 x v vl vu l u s3.heap.objs.size Q I4 r1 (Heap.IsSliceOf.new ..) pl pu q3;show wpAny (model X.prog X.w) X.A (subscriptTail e (.Slice lo hi none p2) v<|.ref s3.heap.objs.size) (EP X pins σ Q) X.xe {s3 with heap:=s3.heap.push {cls:=.type "slice",data:=.fields #[vl,vu,.none]}};exact tail_any (ops:=[.ref s3.heap.objs.size,v]) ht hT hg (by with_unfolding_all rfl)
def xQ (xs:List V)(lo hi:Option Int):List V:=(xs.drop<|HT.sIx xs.length 0 lo).take (HT.sIx xs.length xs.length hi-HT.sIx xs.length 0 lo)
def lB (xs:List V)(lo hi:Option Int):(xQ xs lo hi).length<=xs.length:=by
 unfold xQ;rw[aBN,aDC]
 lia
def bx (K:PySem.W.Frag):V->Option Int->Option Int->Hp->VK->Prop:=λx lo hi H Q=>∃a xs,x=.ref a/\W2 K H a xs/\
 ¬(HT.sIx xs.length 0 lo=0/\HT.sIx xs.length xs.length hi=xs.length)/\∀p,H p=none->Q (.ref p) (upd H p<|.tup (xQ xs lo hi))
def WW:YC X (bx X.K):=by
 intro pins s σ H x v vl vu lo hi sl Q I rx hs pl pu h;obtain⟨a,xs,rfl,hx,hw,q⟩:=h;cases rx;obtain⟨its,r,ht,hz⟩:=I.tuple hx;have hlen:its.toArray.size=xs.length:=by rw[aAq];exact r.length.symm
 refine⟨"tuple",_,aCx.lookup,ht.typeIs,?_⟩;refine HT.getItem_tuple_cut ht hs pl pu (by rw[hlen];exact hw) ?_ (by rw[hlen];exact hz);rw[hlen];refine⟨.ref s.heap.objs.size,_,I.laid (t':=s.toks) (o:=.tup (xQ xs lo hi)) (λb ob q=>aAc _ q) (aAh _) ?_,rfl,q _ (I.hok.fresh<|aAh _)⟩;exact⟨aAr (lB xs lo hi) hz,_,(r.drop<|HT.sIx xs.length 0 lo).take (HT.sIx xs.length xs.length hi-HT.sIx xs.length 0 lo),IsTup.new _ _⟩
def gq (K:PySem.W.Frag):R2:=λx y H Q=>∃a b xs ys,x=.ref a/\y=.ref b/\W2 K H a xs/\W2 K H b ys/\xs≠[]/\xs.length+ys.length<=sizeLine/\
 (ys=[]->Q (.ref a) H)/\(ys≠[]->∀p,H p=none->Q (.ref p) (upd H p<|.tup (xs++ys)))
def n8.ac4 (r:n8 xs us):us=[]↔xs=[]:=by
 cases r with
 |nil=>simp
 |cons _ _=>simp
def EX:lZ X (binaryOp .Add) (gq X.K):=by intro pins s σ H x y v u Q I rx ry h;obtain⟨a,b,xs,ys,rfl,rfl,ha,hb,hx,hz,q1,q2⟩:=h;cases rx;cases ry;obtain⟨its,r1,p1,_⟩:=I.tuple ha;obtain⟨vc,r2,p2,_⟩:=I.tuple hb;refine HT.cat_tup p1 p2 (λz=>hx (r1.ac4.mp z)) (λz=>⟨.ref a,H,I,rfl,q1 (r2.ac4.mp z)⟩) (λz=>?_) (by rw[<-r1.length,<-r2.length];exact hz);refine⟨.ref s.heap.objs.size,_,I.laid (t':=s.toks) (o:=.tup (xs++ys)) (λb ob q=>aAc _ q) (aAh _) ?_,rfl,q2 (λw=>z (r2.ac4.mpr w)) _ (I.hok.fresh<|aAh _)⟩;exact⟨by rw[aAN];exact hz,_,r1.append r2,IsTup.new _ _⟩
end
end L2
namespace L2
open PySem PySem.Spec PyProof.Rows
def yY (n:Nat)(i:Int):Option Nat:=if 0<=i then(if i<n then some i.toNat else none)else if-(n:Int)<=i then some (i+n).toNat else none
def lS {α:Type}(xs:List α)(i:Int):Option α:=(yY xs.length i).bind λj=>xs[j]?
def EO (h:yY n i=some j):seqIndex? i n=some j/\j<n/\-(n:Int)<=i/\i<n:=by
 unfold yY at h;by_cases h0:0<=i
 ·rw[if_pos h0]at h;by_cases h1:i<n
  ·rw[if_pos h1]at h;have e:i.toNat=j:=aAj h;exact⟨by rw[seqIndex_of h0 h1,e],by lia,by lia,h1⟩
  ·rw[if_neg h1]at h;cases h
 ·rw[if_neg h0]at h;by_cases h1:-(n:Int)<=i
  ·rw[if_pos h1]at h;have e:(i+n).toNat=j:=aAj h;exact⟨by rw[seqIndex_neg (by lia) h1,e],by lia,h1,by lia⟩
  ·rw[if_neg h1]at h;cases h
def CP {α:Type}{xs:List α}{i:Int}{v:α}(h:lS xs i=some v):∃j,seqIndex? i xs.length=some j/\xs[j]?=some v/\j<xs.length/\-(xs.length:Int)<=i/\i<xs.length:=by
 unfold lS at h;cases e:yY xs.length i with
 |none=>rw[e]at h;cases h
 |some j=>rw[e]at h;obtain⟨h1,h2,h3,h4⟩:=EO e;exact⟨j,h1,h,h2,h3,h4⟩
def TM (b:Expr):Prop:=∀o i,subscripted b false o i=operate [o,i] (getItem o i)
def IxR (X:Cx)(r:R2):Prop:=
 ∀(value slice:Expr) (pins:N5) (s:Shared) (σ:St) (H:Hp) (x y:V) (v u:Value) (Q:VK),Inv X pins σ H s->RelV x v->RelV y u->r x y H Q->
  subscripted slice false v u=operate [v,u] (getItem v u)->wpAny (model X.prog X.w) X.A (subscriptTail value slice v u) (EP X pins σ Q) X.xe s
def zq (X:Cx)(id:String)(r:V->List V->Hp->VK->Prop):Prop:=
 ∀(pins:N5) (s:Shared) (σ:St) (H:Hp) (x:V) (xs:List V) (v:Value) (us:List Value) (Q:VK),Inv X pins σ H s->RelV x v->n8 xs us->r x xs H Q->
  wpAny (model X.prog X.w) X.A (call (.builtin id) (v::us)) (EP X pins σ Q) X.xe s
section
variable{X:Cx} {a b:Expr} {ta tb:TE} {pos:Pos}
def uk (K:PySem.W.Frag):R2:=λx y H Q=>∃p xs i v,x=.ref p/\y=.int i/\N8 K H p xs/\lS xs i=some v/\Q v H
def qy (K:PySem.W.Frag):R2:=λx y H Q=>∃p xs i v,x=.ref p/\y=.int i/\W2 K H p xs/\lS xs i=some v/\Q v H
def RX:IxR X (uk X.K):=by
 intro value slice pins s σ H x y v u Q I rx ry h hs;obtain⟨p,xs,i,z,rfl,rfl,hq,he,q⟩:=h;cases rx;obtain⟨t,rfl⟩:=ry;obtain⟨its,r,pl,hz⟩:=I.list hq;obtain⟨j,h1,h2,h3,h4,h5⟩:=CP he;obtain⟨w,ew,rw'⟩:=r.get h2;have hl:=r.length;have hn:=uB;have fin:EP X pins σ Q w s:=⟨z,H,I,rw',q⟩;by_cases h0:0<=i
 ·have hj:i.toNat=j:=by rw[seqIndex_of h0 h5]at h1;exact aAj h1
  exact item_listR pl.isList h0 (by lia) (by rw[hj];simpa using ew) fin hs
 ·have hj:(i+(its.toArray.size:Int)).toNat=j:=by rw[seqIndex_neg (by lia) h4]at h1;rw[aAq,<-hl];exact aAj h1
  exact subscriptTail_builtinR (x:=w) pl.isList.typeIs slot_list_getitem.lookup
   (wpAny_getItem_list_neg (Q:=λr s'=>r=w/\EP X pins σ Q r s') pl.isList (by lia) (by rw[aAq]<;>lia) (by lia) (by rw[hj];simpa using ew) ⟨rfl,fin⟩) hs
def XT:IxR X (qy X.K):=by
 intro value slice pins s σ H x y v u Q I rx ry h hs;obtain⟨p,xs,i,z,rfl,rfl,hq,he,q⟩:=h;cases rx;obtain⟨t,rfl⟩:=ry;obtain⟨its,r,pl,hz⟩:=I.tuple hq;obtain⟨j,h1,h2,h3,h4,h5⟩:=CP he;obtain⟨w,ew,rw'⟩:=r.get h2;have hl:=r.length;have hn:=uB;have fin:EP X pins σ Q w s:=⟨z,H,I,rw',q⟩;exact subscriptTail_builtinR (x:=w) pl.typeIs aCx.lookup
  (getItem_tuple (j:=j) (Q:=λr s'=>r=w/\EP X pins σ Q r s') pl (by lia) (by lia) (by rw[aAq,<-hl];exact h1) (by simpa using ew) ⟨rfl,fin⟩) hs
def AY (its:List Value)(n j:Nat)(u:Value):aBA (·.setIfInBounds j u) {cls:=.type "list",data:=.seq its.toArray n}={cls:=.type "list",data:=.seq (its.set j u).toArray n}:=by simp[aBA]
def Inv.lst {pins:N5}{σ:St}{H:Hp}{s:Shared}{p:Addr}{xs:List V}(I:Inv X pins σ H s)(h:H p=some (.lst xs)):
  ∃(its:List Value) (n:Nat),n8 xs its/\s.heap.get? p=some {cls:=.type "list",data:=.seq its.toArray n}/\xs.length<=sizeLine:=by
 obtain⟨z,its,n,r,e⟩:=I.hok p _ h;exact⟨its,n,r,e,z⟩
def Inv.af5 {pins:N5}{σ:St}{H:Hp}{s:Shared}{p:Addr}{xs ys:List V}{its its':List Value}{n n':Nat}{f:Obj->Obj}(I:Inv X pins σ H s)(h:H p=some (.lst xs))
  (ho:s.heap.get? p=some {cls:=.type "list",data:=.seq its.toArray n}) (hf:f {cls:=.type "list",data:=.seq its.toArray n}={cls:=.type "list",data:=.seq its'.toArray n'}) (r:n8 ys its') (hz:ys.length<=sizeLine) (t:Nat):
  Inv X pins σ (upd H p (.lst ys)) {s with heap:=s.heap.update p f,toks:=t}:=by
 have e:(s.heap.update p f).get? p=some {cls:=.type "list",data:=.seq its'.toArray n'}:=by rw[aAY f ho (by rw[hf]<;>rfl),hf]
 refine I.write (x:=p) (e:=p) (by rw[h];trivial) (.inl rfl) (λb u hb q=>(aAC _ _<|aCb hb).trans q) ⟨_,e⟩ ?_;exact⟨hz,its',n',r,e⟩
def YY:V->V->V->Hp->(Hp->Prop)->Prop:=λo i v H Q=>∃p xs k j,o=.ref p/\i=.int k/\H p=some (.lst xs)/\yY xs.length k=some j/\Q (upd H p<|.lst (xs.set j v))
def IT:XE X YY:=by
 intro pins s σ H o i v ov iv u Q I ro ri rv h;obtain⟨p,xs,k,j,rfl,rfl,hp,hj,q⟩:=h;cases ro;obtain⟨t,rfl⟩:=ri;obtain⟨its,n,r,ho,hz⟩:=I.lst hp;obtain⟨h1,h2,h3,h4⟩:=EO hj;have hl:=r.length;have hn:=uB;have I':Inv X pins σ (upd H p<|.lst (xs.set j v)) {s with heap:=s.heap.update p (aBA (·.setIfInBounds j u))}:=
  I.af5 hp ho (AY its n j u) (r.set rv j) (by rw[aFA];exact hz) s.toks
 by_cases h0:0<=k
 ·have hk:k.toNat=j:=by rw[seqIndex_of h0 h4]at h1;exact aAj h1
  exact PySem.W.ki_setAt ho h0 (by lia) (by rw[aAq,<-hl];exact h4) (by rw[hk];exact⟨_,I',q⟩)
 ·have hk:(k+(its.toArray.size:Int)).toNat=j:=by rw[seqIndex_neg (by lia) h3]at h1;rw[aAq,<-hl];exact aAj h1
  exact PySem.W.ki_setBack ho (by lia) (by rw[aAq,<-hl];exact h3) (by lia) (by rw[hk];exact⟨_,I',q⟩)
def uD (lo hi:Option Int)(n:Nat):(sliceBounds lo hi none n).1=((HT.sIx n 0 lo:Nat):Int)/\(sliceBounds lo hi none n).2.1=((HT.sIx n n hi:Nat):Int)/\(sliceBounds lo hi none n).2.2=1:=by
 refine⟨?_,?_,rfl⟩
 ·cases lo with
  |none=>simp[sliceBounds,HT.sIx]
  |some i=>
   simp only[sliceBounds,HT.sIx,Option.getD_none,show(1:Int)>0 by decide,if_true];by_cases h:i<0
   ·simp only[h,if_true]<;>lia
   ·simp only[h,if_false]<;>lia
 ·cases hi with
  |none=>simp[sliceBounds,HT.sIx]
  |some i=>
   simp only[sliceBounds,HT.sIx,Option.getD_none,show(1:Int)>0 by decide,if_true];by_cases h:i<0
   ·simp only[h,if_true]<;>lia
   ·simp only[h,if_false]<;>lia
def qC (its:List Value)(lo hi:Option Int):slicePick its.toArray lo hi none=((its.drop (HT.sIx its.length 0 lo)).take (HT.sIx its.length its.length hi-HT.sIx its.length 0 lo)).toArray:=by obtain⟨h1,h2,h3⟩:=uD lo hi its.toArray.size;unfold slicePick;rw[h1,h2,h3];simp only[sliceRange_one,pick_run,aAq]<;>rfl
def cx (K:PySem.W.Frag):V->Option Int->Option Int->Hp->VK->Prop:=λx lo hi H Q=>∃a xs,x=.ref a/\N8 K H a xs/\∀p,H p=none->Q (.ref p) (upd H p<|.lst (xQ xs lo hi))
def QG:YC X (cx X.K):=by intro pins s σ H x v vl vu lo hi sl Q I rx hs pl pu h;obtain⟨a,xs,rfl,hx,q⟩:=h;cases rx;obtain⟨its,r,ht,hz⟩:=I.list hx;have hlen:=r.length;refine⟨"list",_,slot_list_getitem.lookup,ht.isList.typeIs,?_⟩;refine wpAny_getItem_list_slice ht.isList hs pl pu .none (by simp) ?_ (by rw[aAq]<;>lia);rw[qC,<-hlen];refine⟨.ref s.heap.objs.size,_,I.laid (t':=s.toks) (o:=.lst (xQ xs lo hi)) (λb ob q=>aAc _ q) (aAh _) ?_,rfl,q _ (I.hok.fresh<|aAh _)⟩;exact⟨aAr (lB xs lo hi) hz,_,0,(r.drop<|HT.sIx xs.length 0 lo).take (HT.sIx xs.length xs.length hi-HT.sIx xs.length 0 lo),aAp _ rfl⟩
def ZQ:V->Bool
 |.non=>true
 |.bl _=>true
 |.int _=>true
 |.str _=>true
 |_=>false
def iX:pE X (.builtin "len") (λxs H Q=>∃p ys,xs=[.ref p]/\(N8 X.K H p ys\/W2 X.K H p ys)/\Q (.int ys.length) H):=by
 intro pins s σ H xs us Q I r h;obtain⟨p,ys,rfl,hq,q⟩:=h;obtain⟨u,rfl,rx⟩:=vals1 r;cases rx;have hn:=uB;rcases hq with hq|hq
 ·obtain⟨its,r',pl,hz⟩:=I.list hq;have hlen:=r'.length;exact Calls.call_len_list pl.isList (by simp only[aAq]<;>lia) ⟨.int ys.length,H,I.tok _,⟨s.toks+1,by rw[aAq,hlen]⟩,q⟩
 ·obtain⟨its,r',pl,hz⟩:=I.tuple hq;have hlen:=r'.length;exact len_tuple pl (by simp only[aAq]<;>lia) ⟨.int ys.length,H,I.tok _,⟨s.toks+1,by rw[aAq,hlen]⟩,q⟩
def iO:pE X (.type "list") (λxs H Q=>∃p ys,xs=[.ref p]/\(N8 X.K H p ys\/W2 X.K H p ys)/\∀l,H l=none->Q (.ref l) (upd H l (.lst ys))):=by
 intro pins s σ H xs us Q I r h;obtain⟨p,ys,rfl,hq,q⟩:=h;obtain⟨u,rfl,rx⟩:=vals1 r;cases rx;have fin:∀(its:List Value),n8 ys its->ys.length<=sizeLine->∀(h':Heap) (c':Nat),(∀b o',s.heap.get? b=some o'->h'.get? b=some o')->
   h'.get? s.heap.objs.size=some {cls:=.type "list",dict:=none,data:=.seq its.toArray c',slots:=#[]}->EP X pins σ Q (.ref s.heap.objs.size) {s with heap:=h'}:=λits r' hz h' c' kp e=>
  ⟨.ref s.heap.objs.size,_,I.laid (t':=s.toks) kp (aAh _) (show ObjOk X.prog X.w _ h' _ (.lst ys)from⟨hz,its,c',r',e⟩),rfl,q _ (I.hok.fresh<|aAh _)⟩
 rcases hq with hq|hq
 ·obtain⟨its,r',pl,hz⟩:=I.list hq;have hlen:=r'.length;obtain⟨o,ho,hc,n,hd⟩:=pl.isList;exact call_list_seq p (.inl rfl) ho hc hd (λh' c' kp e=>fin its r' hz h' c' kp e) (by simp only[aAq]<;>lia)
 ·obtain⟨its,r',pl,hz⟩:=I.tuple hq;have hlen:=r'.length;obtain⟨o,ho,hc,n,hd⟩:=pl;exact call_list_seq p (.inr rfl) ho hc hd (λh' c' kp e=>fin its r' hz h' c' kp e) (by simp only[aAq]<;>lia)
def fF:pE X (.type "tuple") (λxs H Q=>∃p ys,xs=[.ref p]/\((N8 X.K H p ys/\∀l,H l=none->Q (.ref l) (upd H l (.tup ys)))\/(W2 X.K H p ys/\Q (.ref p) H))):=by
 intro pins s σ H xs us Q I r h;obtain⟨p,ys,rfl,h⟩:=h;obtain⟨u,rfl,rx⟩:=vals1 r;cases rx;rcases h with⟨hq,q⟩|⟨hq,q⟩
 ·obtain⟨its,r',pl,hz⟩:=I.list hq;have hlen:=r'.length;refine call_tuple_list pl.isList (λh' kp=>?_) (by simp only[aAq]<;>lia);have I1:Inv X pins σ H {s with heap:=h'}:=I.kept (t':=s.toks) kp;have I2:Inv X pins σ (upd H h'.objs.size<|.tup ys) {s with heap:=h'.push {cls:=.type "tuple",data:=.seq its.toArray}}:=
   I1.laid (t':=s.toks) (λb o e=>aAc _ e) (aAh _) (show ObjOk X.prog X.w _ _ _ (.tup ys)from⟨hz,its,r',IsTup.new _ _⟩)
  exact⟨.ref h'.objs.size,_,I2,rfl,q _ (I1.hok.fresh<|aAh _)⟩
 ·obtain⟨its,r',pl,hz⟩:=I.tuple hq;exact call_tuple_same pl ⟨.ref p,H,I,rfl,q⟩
def qz (K : PySem.W.Frag) (T : String) (x : V) (H : Hp) : Prop := match x with
  | .str _ => T = "str"
  | .int _ => T = "int"
  | .ref p => (T = "list" ∧ ∃ xs, N8 K H p xs) ∨ (T = "tuple" ∧ ∃ o, K.lookup p = some o ∧ o.cls = .type "tuple" ∧ o.dict = none) ∨
      (T = "dict" ∧ ((∃ kvs, H p = some (.dK kvs)) ∨ ∃ kvs, H p = some (.dT kvs))) ∨ (T = "set" ∧ ∃ S n, H p = some (.set S n))
  | _ => False
def KE (I:Inv X pins σ H s)(r:RelV x v)(ty:qz X.K T x H):
  s.TypeIs v T/\∀a,v=.ref a->∃ob,s.heap.get? a=some ob/\ob.dict=none:=by
 cases x with
 |str z=>obtain⟨t,rfl⟩:=r;cases(show T= "str"from ty);exact⟨typeIs_str s z t,λ_ e=>nomatch e⟩
 |int i=>obtain⟨t,rfl⟩:=r;cases(show T= "int"from ty);exact⟨typeIs_int s i t,λ_ e=>nomatch e⟩
 |ref p=>
  cases r;rcases ty with⟨rfl,xs,hq⟩|⟨rfl,o,hk,hc,hd⟩|⟨rfl,hk⟩|⟨rfl,S,n,hk⟩
  ·obtain⟨its,_,pl,_⟩:=I.list hq;refine⟨pl.isList.typeIs,λa e=>?_⟩;cases e;obtain⟨o,n,e,c,hd,_⟩:=pl;exact⟨o,e,hd⟩
  ·refine⟨⟨o,I.kIn p o hk,hc⟩,λa e=>?_⟩;cases e;exact⟨o,I.kIn _ o hk,hd⟩
  ·have z:∃o,s.heap.get? p=some o/\o.ExactDict:=by
    rcases hk with⟨kvs,hk⟩|⟨kvs,hk⟩
    ·obtain⟨_,_,_,_,o,_,_,e,ex,_⟩:=I.hok p _ hk;exact⟨o,e,ex⟩
    ·obtain⟨_,_,_,_,o,_,_,e,ex,_⟩:=I.hok p _ hk;exact⟨o,e,ex⟩
   obtain⟨o,e,ex⟩:=z;refine⟨⟨o,e,ex.1⟩,λa e2=>?_⟩;cases e2;exact⟨o,e,ex.2.1⟩
  ·obtain⟨o,_,_,_,e,ex,_⟩:=I.hok p _ hk;refine⟨⟨o,e,ex.1⟩,λa e2=>?_⟩;cases e2;exact⟨o,e,ex.2.1⟩
 |_=>exact aAm ty
def vk (K:PySem.W.Frag)(T:String)(r:V->List V->Hp->VK->Prop)(to:TE):TE:=λσ H Q=>to σ H λx H1=>qz K T x H1/\r x [] H1 Q
def tBM (K:PySem.W.Frag)(T:String)(r:V->List V->Hp->VK->Prop)(to:TE)(t:TA):TE:=λσ H Q=>to σ H λx H1=>qz K T x H1/\t σ H1 λxs H2=>r x xs H2 Q
variable{o e:Expr} {es:List Expr} {to:TE} {t:TA} {name:Str} {apos bo:Pos} {T id:String} {r:V->List V->Hp->VK->Prop}
def LY (pa:PlainAttrs T)(slot:Slot T name id)(hty:typeOf (.builtin id)=pure (.type "method_descriptor"))(hm:zq X id r)(ho:PE X o to)
  (ig:attributeBase o name X.env (eval o X.env)=eval o X.env:=by rfl) (fm:(apos.endLine==bo.line)=true:=by rfl):PE X (.Call (.Attribute o name apos) [] [] bo) (vk X.K T r to):=by
 intro pins s σ H Q I h;refine wpAny_Call_method0_late ig fm (D9 (ho pins s σ H _ I h) λv s1 ⟨x,H1,I1,r1,ty,q1⟩=>?_);obtain⟨h1,h2⟩:=KE I1 r1 ty;exact⟨T,id,pa,slot,hty,h1,h2,aFu rfl (PySem.evalArgs_none<|hm pins s1 σ H1 x [] v [] Q I1 r1 .nil q1)⟩
def fx (pa:PlainAttrs T)(slot:Slot T name id)(hty:typeOf (.builtin id)=pure (.type "method_descriptor"))(hm:zq X id r)(ho:PE X o to)(ha:PA X (e::es) t)
  (ig:attributeBase o name X.env (eval o X.env)=eval o X.env:=by rfl)
  (hfew:((backTo bo (starEach (e::es) X.env)).all (λx=>!x.1)&&(backToKw bo (keywordEach [] X.env)).all (λx=>x.1.isSome)
   &&decide ((e::es).length+([]:List Keyword).length+(if([]:List Keyword).isEmpty then 0 else 1)<30))=true:=by rfl)
  (fm:(apos.endLine==bo.line)=true:=by rfl) (hs:starEach (e::es) X.env=(false,eval e X.env)::starEach es X.env:=by rfl) (qc:(backTo bo (starEach es X.env)).any (·.1)=false:=by rfl):
  PE X (.Call (.Attribute o name apos) (e::es) [] bo) (tBM X.K T r to t):=by
 intro pins s σ H Q I h;refine wpAny_Call_method_late ig hfew fm rfl (D9 (ho pins s σ H _ I h) λv s1 ⟨x,H1,I1,r1,ty,q1⟩=>?_);obtain⟨h1,h2⟩:=KE I1 r1 ty;refine⟨T,id,pa,slot,hty,h1,h2,?_⟩;have hA:=ha bo pins s1 σ H1 _ I1 q1;rw[hs]at hA⊢;refine aFu (by show(false||(backTo bo<|starEach es X.env).any (·.1))=false;rw[qc]<;>rfl) (Calls.evalArgs_plain ?_);exact D9 hA λus s2 ⟨vs,H2,I2,r2,q2⟩=>hm pins s2 σ H2 x vs v us Q I2 r1 r2 q2
end
end L2
namespace L2
open PySem PySem.Spec PyProof.Rows
def zj (X:Cx)(id:String)(r:V->List V->Hp->VK->Prop):Prop:=
 ∀(pins:N5) (s:Shared) (σ:St) (H:Hp) (x:V) (xs:List V) (v:Value) (us:List Value) (Q:VK),Inv X pins σ H s->RelV x v->n8 xs us->r x xs H Q->
  wpAny (model X.prog X.w) X.A (call (.builtin id) (v::us)) (EP X pins σ Q) X.xe s
theorem n8.one:∀{x:V} {us:List Value},n8 [x] us->∃u,us=[u]/\RelV x u
 |_,_,.cons r .nil=>⟨_,rfl,r⟩
theorem n8.zero:∀{us:List Value},n8 [] us->us=[]
 |_,.nil=>rfl
def n8.dropLast (h:n8 xs us):n8 xs.dropLast us.dropLast:=by
 induction h with
 |nil=>exact .nil
 |cons r t ih=>
  cases t with
  |nil=>exact .nil
  |cons q t'=>exact .cons r ih
def AL {α:Type}(l:List α):l.eraseIdx (l.length-1)=l.dropLast:=by
 induction l with
 |nil=>rfl
 |cons a r ih=>
  cases r with
  |nil=>rfl
  |cons b r=>
   have e:(a::b::r).length-1=((b::r).length-1)+1:=by
    have h1:(a::b::r).length=r.length+2:=rfl;have h2:(b::r).length=r.length+1:=rfl
    lia
   rw[e,aFi,ih]
   all_goals rfl
section
variable{X:Cx} {pins:N5} {σ:St} {H:Hp} {s:Shared} {l b:Addr} {xs ys zs:List V}
def Inv.ag0 {its its':List Value}{n:Nat}{f:Array Value->Array Value}{t':Nat}(I:Inv X pins σ H s)(hH:H l=some (.lst xs))
  (e:s.heap.get? l=some {cls:=.type "list",data:=.seq its.toArray n}) (hf:f its.toArray=its'.toArray) (hv:n8 ys its') (hz:ys.length<=sizeLine):
  Inv X pins σ (upd H l (.lst ys)) {s with heap:=s.heap.update l (aBA f),toks:=t'}:=by
 have q:=PySem.IsL.update e f;rw[hf]at q;refine I.write (x:=l) (e:=l) (by rw[hH];exact trivial) (.inl rfl) (λb' u hb hu=>(aAC s.heap (aBA f)<|aCb hb).trans hu) ⟨_,q⟩ ?_;exact⟨hz,its',_,hv,q⟩
def Inv.ag2 (I:Inv X pins σ H s)(hv:n8 ys its)(hz:ys.length<=sizeLine):
  Inv X pins σ (upd H s.heap.objs.size (.lst ys)) {s with heap:=s.heap.push {cls:=.type "list",data:=.seq its.toArray},toks:=t'}:=
 I.laid (λ_ _ q=>aAc _ q) (aAh _) ⟨hz,its,0,hv,aAp _ rfl⟩
def Inv.fresh (I:Inv X pins σ H s):H s.heap.objs.size=none:=I.hok.fresh (aAh _)
def Inv.af7 (I:Inv X pins σ H s)(hH:H l=some (.lst xs)):xs.length<=sizeLine/\∃(its:List Value) (n:Nat),n8 xs its/\xs.length=its.length/\s.heap.get? l=some {cls:=.type "list",data:=.seq its.toArray n}:=by obtain⟨z,its,n,r,e⟩:=I.hok l _ hH;exact⟨z,its,n,r,r.length,e⟩
end
section
variable{X:Cx}
def QU:V->List V->Hp->VK->Prop:=λx vs H Q=>∃l xs y,x=.ref l/\vs=[y]/\H l=some (.lst xs)/\xs.length<sizeLine/\Q .non (upd H l<|.lst (xs++[y]))
def rK:zj X "list.append" QU:=by
 intro pins s σ H x vs v us Q I rx rv h;obtain⟨l,xs,y,rfl,rfl,hH,hz,q⟩:=h;cases rx;obtain⟨u,rfl,ru⟩:=rv.one;obtain⟨z,its,n,r,hl,e⟩:=I.af7 hH;refine call_meets F.slot_list_append ⟨_,e,rfl⟩ F.entry_list_append (F.args_list_append_2 _ _) (PySem.list_append l its.toArray n u (by rw[aAq];lia)) ⟨e,?_⟩;refine⟨.non,_,I.ag0 (its':=its++[u]) hH e (by simp) (r.append<|.cons ru .nil) ?_,rfl,q⟩;rw[aAN,List.length_singleton]
 lia
def tx:V->List V->Hp->VK->Prop:=λx vs H Q=>∃l xs y,x=.ref l/\vs=[]/\H l=some (.lst xs)/\xs[xs.length-1]?=some y/\Q y (upd H l<|.lst xs.dropLast)
def JR:zj X "list.pop" tx:=by
 intro pins s σ H x vs v us Q I rx rv h;obtain⟨l,xs,y,rfl,rfl,hH,hy,q⟩:=h;cases rx;have hus:=rv.zero;subst hus;obtain⟨z,its,n,r,hl,e⟩:=I.af7 hH;obtain⟨u,hu,ru⟩:=r.get hy;have hy':its.toArray[its.toArray.size-1]?=some u:=by show its.toArray[its.length-1]?=some u;rw[<-aAB,<-hl];exact hu
 refine call_meets F.slot_list_pop ⟨_,e,rfl⟩ F.entry_list_pop (F.args_list_pop_1 _) (MeetsSeq.list_pop_last l its.toArray n u hy' (by rw[aAq];lia)) ⟨e,?_⟩;refine⟨y,_,I.ag0 (its':=its.dropLast) hH e ?_ r.dropLast ?_,ru,q⟩
 ·show its.toArray.eraseIdxIfInBounds (its.toArray.size-1)=its.dropLast.toArray;rw[aAq,List.eraseIdxIfInBounds_toArray,AL]
 ·rw[aFK]
  lia
end
section
variable{prog:Program} {w:World} {A:Around} {E:C8} {s:Shared}
end
section
variable{X:Cx}
end
end L2
namespace Att
open PySem PySem.W PySem.Calls PyProof.Rows
def lO:∀(ns:List Int) (vs:List Value),WellAll P h vs (ns.map WData.int)->IntsAre vs ns:=by
 intro ns;induction ns with
 |nil=>intro vs w;rw[aFB]at w;cases w;exact .nil
 |cons n ns ih=>
  intro vs w;rw[aAy]at w;cases w with
  |cons a b=>cases a;exact .cons _ _ (ih _ b)
def script_of {l:OpenLaw}{n:Nat}(hn:l.most=some n){P:Params}{h:Heap}{args:List WData}{vals:List Value}
  (yi:l.row.toRowW.claim.pre args=true) (oo:WellAll P h vals args):
  ∃a vs ns,vals=[aDj a]/\args=[WData.list (ns.map WData.int)]/\h.get? a=some {cls:=.type "list",data:=.seq vs.toArray}/\IntsAre vs ns/\ns.length<=n:=by
 have hsh:WShape.hasAll [] args [.list .int]=true:=(pre_splitW yi).1;have hc:l.pre.holds [] {args:=args}=true:=(pre_splitW yi).2;obtain⟨d,r,rfl,h1,h2⟩:=hasAllW_cons hsh;obtain rfl:=hasAllW_nil h2;obtain⟨xs,rfl,h3⟩:=hasW_list h1;obtain⟨ns,rfl⟩:=items_int h3;have hlen:ns.length<=n:=by
  unfold OpenLaw.pre at hc;have h4:(WTm.not<|.lt (.lit (.int (n:Int))) (.len (.arg 0))).holds [] {args:=[.list (ns.map .int)]}=true:=by have h4:=(holds_andW hc).1;rw[hn]at h4;exact h4
  have h5:=condW_of h4 (w_not<|w_lt w_lit<|w_len_list<|w_arg rfl);rw[aAk]at h5;refine aEj λq=>?_;have q':(n:Int)<((ns.length:Nat):Int):=by lia
  first
   |(rw[decide_eq_true q']at h5;exact absurd h5 (by decide))
   |(simp at h5;lia)
 cases oo with
 |cons w1 w2=>
  cases w2;cases w1 with
  |list ho lh=>exact⟨_,_,ns,rfl,rfl,ho,lO ns _ lh,hlen⟩
def post_true (l:OpenLaw)(args:List WData):l.row.toRowW.claim.post args (.bool true) args=true:=
 postW_of (r:=l.row.toRowW) (X:=(true==true))
  (show WShape.has [] (.bool true) .bool=true by first|rfl|decide|simp[WShape.has,WShape.arms,WShape.armsAll])
  (show(WTm.eq .res (.lit (.bool true))).value [] {args:=args,res:=some (.bool true),after:=args}=some (.bool (true==true))from w_eq_bool (w_res rfl) w_lit) rfl
section
variable{prog:Program} {w:World} {A:Around} {E:C8} {s:Shared} {K:Frag}
def rq (h:Heap)(L d:Addr):List (Addr×Obj):=(aBu h.objs.size).filterMap λa=>if a=L\/a=d then none else(h.get? a).map λo=>(a,o)
end
end Att
namespace L2
open PySem PySem.Spec PyProof.Rows
theorem T9:∀{vs:List Value} {ns:List Int},IntsAre vs ns->n8 (ns.map V.int) vs
 |_,_,.nil=>.nil
 |_,_,.cons n t h=>.cons ⟨t,rfl⟩ (T9 h)
end L2
namespace L2
open PySem PySem.Spec PyProof.Rows
end L2
namespace L2
open PySem PySem.Spec PyProof.Rows
def D7 (s:Stmt):Arguments:=match s with
 |.FunctionDef _ a _ _ _ _ _ _ _ _=>a
 |_=>{posonlyargs:=[],args:=[],vararg:=none,kwonlyargs:=[],kw_defaults:=[],kwarg:=none,defaults:=[]}
def u5 (s:Stmt):List Stmt:=match s with
 |.FunctionDef _ _ b _ _ _ _ _ _ _=>b
 |_=>[]
def c7 (s:Stmt):Scope:=match s with
 |.FunctionDef _ _ _ _ _ _ sc _ _ _=>sc
 |_=>{kind:=.function,names:=[],isGenerator:=false,isCoroutine:=false}
abbrev vM:OS:=λ_ _ _ _ _ _=>False
abbrev E0:XK:=λ_ _ _=>False
def dj:BP vM X E0:=λ_ _ _ _ _ _ _ h=>h.elim
structure Fun (K:PySem.W.Frag)(x qual:Str)(st:Stmt)(f:Addr)(fd:FuncData):Prop where
 ex:∃(oc:Value) (od:Option Addr) (kV doc pm:Value) (an:Option Addr) (cdv ct:Value) (osl:Array (Option Value)),
  fd=PySem.W.fnOf x qual (D7 st) (u5 st) (c7 st) .none kV doc pm an cdv ct/\K.lookup f=some ⟨oc,od,.func fd,osl⟩/\PySem.W.codeIn K cdv qual=true
 kp:PySem.W.keepIn K (.ref f)=true
section
variable{P:Program} {w:World} {K:PySem.W.Frag} {mg:cF} {base:Heap}
def Fun.ok {x qual:Str}{st:Stmt}{f:Addr}{fd:FuncData}{N ps:List Str}{k:Nat}{sp:Sp}(F:Fun K x qual st f fd)(S:FnScope N ps (c7 st))(len:∀vs H Q E,sp vs H Q E->vs.length=ps.length)
  (uo:∀(cdv:Value) (A:Around) (outer:List Env) (s:Shared) (H:Hp) (vs:List V) (Q:VK) (E:XK),Room k (A.deeper (envOfC qual (c7 st) s.heap.objs.size f cdv))->sp vs H Q E->
   ∃t,uG (BM vM P w K mg base N qual (c7 st) f cdv A outer s H E).nox (u5 st) t/\t {nx:=λ_ H'=>Q .non H',rt:=Q} (start N vs) H):FnOk P w K mg base vM (k+1) f fd ps sp:=by
 obtain⟨oc,od,kV,doc,pm,an,cdv,ct,osl,rfl,lk,gg⟩:=F.ex;refine UU lk gg S len λA outer s H vs Q E hr hsp=>?_;obtain⟨t,h,q⟩:=uo cdv A outer s H vs Q E hr hsp;exact⟨t,h.nox,q⟩
def Fun.binds {x qual:Str}{st:Stmt}{f:Addr}{fd:FuncData}{ps:List Str}(F:Fun K x qual st f fd)
  (h:∀(kV doc pm:Value) (an:Option Addr) (cdv ct:Value) (us:List Value),us.length=ps.length->bindArgs (PySem.W.fnOf x qual (D7 st) (u5 st) (c7 st) .none kV doc pm an cdv ct) ⟨us,[]⟩=pure (ps.zip us)):Binds K fd ps []:=by
 obtain⟨oc,od,kV,doc,pm,an,cdv,ct,osl,rfl,lk,gg⟩:=F.ex;exact .all (h kV doc pm an cdv ct)
def LS {x qual:Str}{st:Stmt}{f:Addr}{oc:Value}{od an:Option Addr}{osl:Array (Option Value)}{kV doc pm cdv ct:Value}(l:K.lookup f=some ⟨oc,od,.func (PySem.W.fnOf x qual (D7 st) (u5 st) (c7 st) .none kV doc pm an cdv ct),osl⟩)
 (c:PySem.W.codeIn K cdv qual=true) (k:PySem.W.keepIn K (.ref f)=true):Fun K x qual st f (PySem.W.fnOf x qual (D7 st) (u5 st) (c7 st) .none kV doc pm an cdv ct):=⟨⟨oc,od,kV,doc,pm,an,cdv,ct,osl,rfl,l,c⟩,k⟩
end
section
variable{X:Cx}
end
def Same (H H':Hp):Prop:=∀b o,H b=some o->H' b=some o
def Same.refl (H:Hp):Same H H:=λ_ _ h=>h
def Same.trans (a:Same H H1)(b:Same H1 H2):Same H H2:=λc o h=>b c o (a c o h)
def Same.seq {K:PySem.W.Frag}{H H':Hp}{a:Addr}{xs:List V}(e:Same H H')(h:N8 K H a xs):N8 K H' a xs:=by
 rcases h with(h|⟨o,h⟩)|h
 ·exact .inl (.inl (e _ _ h))
 ·exact .inl (.inr ⟨o,e _ _ h⟩)
 ·exact .inr h
end L2
namespace DL
open PySem PySem.Spec L2
open PyProof.Rows hiding St
inductive D where
 |non|bl (b:Bool)|int (i:Int)|str (x:Str)|tup (xs:List D)|lst (xs:List D)|dct
mutual
def o7:D->Int
 |.int i=>hashInt i
 |.tup xs=>reduceHash (aAI (vN xs))
 |_=>0
def vN:List D->List Int
 |[]=>[]
 |x::xs=>o7 x::vN xs
end
def R5:Nat->D->Bool
 |_,.int _=>true
 |n+1,.tup xs=>xs.all (R5 n)
 |_,_=>false
inductive R (α:Type)where
 |ok (a:α)|ex (e:Str)|bad
def R.bind {α β:Type}:R α->(α->R β)->R β
 |.ok a,f=>f a
 |.ex e,_=>.ex e
 |.bad,_=>.bad
@[simp]def R.aa0 {α β:Type}(a:α)(f:α->R β):(R.ok a).bind f=f a:=rfl
section
variable(K:PySem.W.Frag) (H:Hp) (O:Addr->Prop)
mutual
inductive Rep:V->D->Prop
 |non:Rep .non .non
 |bl {b:Bool}:Rep (.bl b) (.bl b)
 |int {i:Int}:Rep (.int i) (.int i)
 |str {x:Str}:Rep (.str x) (.str x)
 |tup {a:Addr} {vs:List V} {ds:List D} (h:W2 K H a vs) (r:Reps vs ds):Rep (.ref a) (.tup ds)
 |lst {a:Addr} {vs:List V} {ds:List D} (h:N8 K H a vs) (n:¬O a) (r:Reps vs ds):Rep (.ref a) (.lst ds)
 |dct {a:Addr} {o:Obj} (h:H a=some (.ext λh=>h.get? a=some o)) (x:o.ExactDict) (n:¬O a):Rep (.ref a) .dct
inductive Reps:List V->List D->Prop
 |nil:Reps [] []
 |cons {v:V} {d:D} {vs:List V} {ds:List D} (h:Rep v d) (t:Reps vs ds):Reps (v::vs) (d::ds)
end
end
section
variable{K:PySem.W.Frag}
def _root_.L2.Same.tup {a:Addr}{xs:List V}(e:Same H H')(h:W2 K H a xs):W2 K H' a xs:=by
 rcases h with(h|⟨o,h⟩)|h
 ·exact .inl (.inl (e _ _ h))
 ·exact .inl (.inr ⟨o,e _ _ h⟩)
 ·exact .inr h
mutual
theorem Rep.mono (hT:∀a xs,W2 K H a xs->W2 K H' a xs)(hL:∀a xs,¬O a->N8 K H a xs->¬O' a/\N8 K H' a xs)(hD:∀a φ,¬O a->H a=some (.ext φ)->¬O' a/\H' a=some (.ext φ)):∀{v:V} {d:D},Rep K H O v d->Rep K H' O' v d
 |_,_,.non=>.non
 |_,_,.bl=>.bl
 |_,_,.int=>.int
 |_,_,.str=>.str
 |_,_,.tup h r=>.tup (hT _ _ h) (Reps.mono hT hL hD r)
 |_,_,.lst h n r=>.lst (hL _ _ n h).2 (hL _ _ n h).1 (Reps.mono hT hL hD r)
 |_,_,.dct h x n=>.dct (hD _ _ n h).2 x (hD _ _ n h).1
theorem Reps.mono (hT:∀a xs,W2 K H a xs->W2 K H' a xs)(hL:∀a xs,¬O a->N8 K H a xs->¬O' a/\N8 K H' a xs)(hD:∀a φ,¬O a->H a=some (.ext φ)->¬O' a/\H' a=some (.ext φ)):∀{vs:List V} {ds:List D},Reps K H O vs ds->Reps K H' O' vs ds
 |_,_,.nil=>.nil
 |_,_,.cons h t=>.cons (Rep.mono hT hL hD h) (Reps.mono hT hL hD t)
end
def Rep.same (e:Same H H')(r:Rep K H O v d):Rep K H' O v d:=r.mono (λ_ _ h=>e.tup h) (λ_ _ n h=>⟨n,e.seq h⟩) λ_ _ n h=>⟨n,e _ _ h⟩
def Reps.same (e:Same H H')(r:Reps K H O v d):Reps K H' O v d:=r.mono (λ_ _ h=>e.tup h) (λ_ _ n h=>⟨n,e.seq h⟩) λ_ _ n h=>⟨n,e _ _ h⟩
def Rep.sub (e:∀a,O' a->O a)(r:Rep K H O v d):Rep K H O' v d:=r.mono (λ_ _ h=>h) (λ_ _ n h=>⟨λz=>n (e _ z),h⟩) λ_ _ n h=>⟨λz=>n (e _ z),h⟩
def Reps.sub (e:∀a,O' a->O a)(r:Reps K H O v d):Reps K H O' v d:=r.mono (λ_ _ h=>h) (λ_ _ n h=>⟨λz=>n (e _ z),h⟩) λ_ _ n h=>⟨λz=>n (e _ z),h⟩
theorem Reps.length:∀{vs:List V} {ds:List D},Reps K H O vs ds->vs.length=ds.length
 |_,_,.nil=>rfl
 |_,_,.cons _ t=>by simp[Reps.length t]
theorem Reps.get:∀{vs:List V} {ds:List D} {i:Nat} {d:D},Reps K H O vs ds->ds[i]?=some d->∃v,vs[i]?=some v/\Rep K H O v d
 |_,_,_,_,.nil,e=>by simp at e
 |_,_,0,_,.cons r _,e=>by simp at e;subst e;exact⟨_,rfl,r⟩
 |_,_,i+1,d,.cons _ t,e=>by obtain⟨u,h1,h2⟩:=Reps.get (i:=i) (d:=d) t (by simpa using e);exact⟨u,by simpa using h1,h2⟩
theorem Reps.append:∀{vs ws:List V} {ds es:List D},Reps K H O vs ds->Reps K H O ws es->Reps K H O (vs++ws) (ds++es)
 |_,_,_,_,.nil,s=>s
 |_,_,_,_,.cons r t,s=>.cons r (Reps.append t s)
theorem Reps.take:∀{vs:List V} {ds:List D} (n:Nat),Reps K H O vs ds->Reps K H O (vs.take n) (ds.take n)
 |_,_,0,_=>.nil
 |_,_,_+1,.nil=>.nil
 |_,_,n+1,.cons r t=>.cons r (Reps.take n t)
theorem Reps.drop:∀{vs:List V} {ds:List D} (n:Nat),Reps K H O vs ds->Reps K H O (vs.drop n) (ds.drop n)
 |_,_,0,r=>r
 |_,_,_+1,.nil=>.nil
 |_,_,n+1,.cons _ t=>Reps.drop n t
theorem Reps.set (r:Rep K H O v d):∀{vs:List V} {ds:List D} (i:Nat),Reps K H O vs ds->Reps K H O (vs.set i v) (ds.set i d)
 |_,_,_,.nil=>.nil
 |_,_,0,.cons _ t=>.cons r t
 |_,_,i+1,.cons q t=>.cons q (Reps.set r i t)
def Reps.dropLast (r:Reps K H O vs ds):Reps K H O vs.dropLast ds.dropLast:=by rw[aEa,aEa,r.length];exact r.take _
def Reps.snoc (r:Reps K H O vs ds)(h:Rep K H O v d):Reps K H O (vs++[v]) (ds++[d]):=r.append (.cons h .nil)
theorem Reps.ints:∀(ns:List Int),Reps K H O (ns.map V.int) (ns.map D.int)
 |[]=>.nil
 |_::ns=>.cons .int (Reps.ints ns)
theorem Reps.reverse:∀{vs:List V} {ds:List D},Reps K H O vs ds->Reps K H O vs.reverse ds.reverse
 |_,_,.nil=>.nil
 |_,_,.cons r t=>by rw[aAH,aAH];exact(Reps.reverse t).snoc r
end
def Kp (H:Hp)(O:Addr->Prop)(H':Hp)(O':Addr->Prop):Prop:=∀b o,H b=some o->¬O b->H' b=some o/\¬O' b
section
def Kp.refl (H:Hp)(O:Addr->Prop):Kp H O H O:=λ_ _ h n=>⟨h,n⟩
def Kp.of (s:Same H H'):Kp H O H' O:=λb o h n=>⟨s b o h,n⟩
def Kp.trans (a:Kp H O H' O')(b:Kp H' O' H'' O''):Kp H O H'' O'':=λc o h n=>let⟨h1,n1⟩:=a c o h n;b c o h1 n1
end
class Tabs where
 tbs:List (Addr×List (Pos×Str))
inductive Sl where
 |no|v (d:D)|o (xs:List D)|x (C:Value)|c (m:List D->R D) (φ:Hp->(Addr->Prop)->Addr->Prop)|d (kvs:List (D×D))
abbrev Ev:=List Sl
def Mt:HO->Prop
 |.lst _=>True
 |.dK _=>True
 |.dT _=>True
 |.ext _=>True
 |_=>False
def lY (K:PySem.W.Frag)(H:Hp)(O:Addr->Prop)(es:List DictEntry)(kvs:List (D×D)):Prop:=
 Paired (λ(e:DictEntry) (p:D×D)=>(∃a,e.key=.ref a/\Rep K H O (.ref a) p.1)/\(∃v,RelV v e.val/\Rep K H O v p.2)/\e.hash=o7 p.1/\R5 7 p.1=true) es kvs
def JA (a:Addr)(o:Obj)(es:List DictEntry):Prop:=(a==sysModules)=false/\o.ExactDict/\∃ea ep,o.data=.dict ea ep/\ea.toList=es
def HB:Sl->Prop
 |.o _=>True
 |.d _=>True
 |_=>False
section
variable(K:PySem.W.Frag) (H9 H:Hp) (O:Addr->Prop)
def bU (x:Option (Option V)):Sl->Prop
 |.no=>True
 |.v d=>∃v,x=some (some v)/\Rep K H O v d
 |.o xs=>∃a vs,x=some (some (V.ref a))/\O a/\H9 a=none/\H a=some (.lst vs)/\Reps K H O vs xs
 |.x C=>∃a o,x=some (some (V.ref a))/\H a=some (.frz o (.own a))/\o.cls=C
 |.c m φ=>∃a,x=some (some (V.ref a))/\∀H2 O2,Kp H O H2 O2->φ H2 O2 a
 |.d kvs=>∃a o es,x=some (some (V.ref a))/\O a/\H9 a=none/\H a=some (.ext λh=>h.get? a=some o)/\JA a o es/\lY K H O es kvs/\(kvs.map (·.1)).Nodup
end
variable [Tabs]
def Tb (H:Hp):Prop:=∀p∈Tabs.tbs,H p.1=some (.tbl p.2)
structure EnvOk (K:PySem.W.Frag)(H9:Hp)(O0:Addr->Prop)(H:Hp)(O:Addr->Prop)(σ:St)(ρ:Ev):Prop where
 len:σ.length=ρ.length
 same:Same H9 H
 sub:∀a,O0 a->O a
 trk:∀a,O a->∃o,H a=some o/\Mt o
 trk0:∀a,O0 a->∃o,H9 a=some o
 tab:Tb H
 slot:∀(i:Nat) (sl:Sl),ρ[i]?=some sl->bU K H9 H O σ[i]? sl
 inj:∀(i j:Nat) (x y:Sl) (a:Addr),ρ[i]?=some x->ρ[j]?=some y->HB x->HB y->σ[i]?=some (some (V.ref a))->σ[j]?=some (some (V.ref a))->i=j
section
variable{K:PySem.W.Frag} {O0 O O':Addr->Prop}
def Tb.same (h:Tb H)(s:Same H H'):Tb H':=λp hp=>s _ _ (h p hp)
def EnvOk.val (E:EnvOk K H9 O0 H O σ ρ)(i:Nat)(d:D)(h:ρ[i]?=some (Sl.v d)):∃v,σ[i]?=some (some v)/\Rep K H O v d:=E.slot i _ h
def EnvOk.own (E:EnvOk K H9 O0 H O σ ρ)(i:Nat)(xs:List D)(h:ρ[i]?=some (Sl.o xs)):∃a vs,σ[i]?=some (some (V.ref a))/\O a/\H9 a=none/\H a=some (.lst vs)/\Reps K H O vs xs:=E.slot i _ h
def lY.mono (f:∀{v:V} {d:D},Rep K H O v d->Rep K H' O' v d):∀{kvs:List (D×D)},lY K H O es kvs->lY K H' O' es kvs:=λ{_} r=>Paired.af4 r λ_ _ ⟨⟨v,h1,h2⟩,⟨w,h3,h4⟩,h5⟩=>⟨⟨v,h1,f h2⟩,⟨w,h3,f h4⟩,h5⟩
def bU.move (h:bU K H9 H O x sl)(hT:∀a xs,W2 K H a xs->W2 K H' a xs)(hL:∀a xs,¬O a->N8 K H a xs->¬O' a/\N8 K H' a xs)(hF:∀a o u,H a=some (.frz o u)->H' a=some (.frz o u))(hk:Kp H O H' O')(ho:HB sl->∀a o,x=some (some (V.ref a))->O a->H a=some o->O' a/\H' a=some o):bU K H9 H' O' x sl:=by
 have hD:∀a φ,¬O a->H a=some (.ext φ)->¬O' a/\H' a=some (.ext φ):=λa φ n h=>⟨(hk a _ h n).2,(hk a _ h n).1⟩;cases sl with
 |no=>trivial
 |v d=>obtain⟨v,h1,h2⟩:=h;exact⟨v,h1,h2.mono hT hL hD⟩
 |o xs=>obtain⟨a,vs,h1,h2,h3,h4,h5⟩:=h;obtain⟨h6,h7⟩:=ho trivial a _ h1 h2 h4;exact⟨a,vs,h1,h6,h3,h7,h5.mono hT hL hD⟩
 |x C=>obtain⟨a,o,h1,h2,h3⟩:=h;exact⟨a,o,h1,hF _ _ _ h2,h3⟩
 |c m φ=>obtain⟨a,h1,h2⟩:=h;exact⟨a,h1,λH2 O2 k=>h2 H2 O2 (hk.trans k)⟩
 |d kvs=>obtain⟨a,o,es,h1,h2,h3,h4,h5,h6⟩:=h;obtain⟨h7,h8⟩:=ho trivial a _ h1 h2 h4;exact⟨a,o,es,h1,h7,h3,h8,h5,h6.1.mono λr=>r.mono hT hL hD,h6.2⟩
def bU.grow (h:bU K H9 H O x sl)(e:Same H H'):bU K H9 H' O x sl:=
 h.move (λ_ _ q=>e.tup q) (λ_ _ n q=>⟨n,e.seq q⟩) (λ_ _ _ q=>e _ _ q) (Kp.of e) λ_ _ _ _ q1 q2=>⟨q1,e _ _ q2⟩
def EnvOk.grow (E:EnvOk K H9 O0 H O σ ρ)(e:Same H H'):EnvOk K H9 O0 H' O σ ρ where
 len:=E.len
 same:=E.same.trans e
 sub:=E.sub
 trk:=λa h=>let⟨o,q,m⟩:=E.trk a h;⟨o,e a o q,m⟩
 trk0:=E.trk0
 tab:=E.tab.same e
 slot:=λi sl h=>(E.slot i sl h).grow e
 inj:=E.inj
def EnvOk.fresh (E:EnvOk K H9 O0 H O σ ρ)(h:H p=none):¬O p:=λz=>by obtain⟨o,q,_⟩:=E.trk p z;rw[h]at q;cases q
def v8 {α:Type}{l:List α}{i j:Nat}{x:α}(h:i≠j):(l.set i x)[j]?=l[j]?:=aCs h
def A8 {α:Type}{l:List α}{i:Nat}{x y:α}(h:(l.set i x)[i]?=some y):y=x/\i<l.length:=by
 have hl:i<l.length:=by have:=(aAv.mp h).1;simpa using this
 rw[aBI hl]at h;exact⟨(aAj h).symm,hl⟩
def EnvOk.put (E:EnvOk K H9 O0 H O σ ρ){v:Option V}{sl:Sl}(i:Nat)(no:¬HB sl)(r:bU K H9 H O (some v) sl):EnvOk K H9 O0 H O (σ.set i v) (ρ.set i sl)where
 len:=by simpa using E.len
 same:=E.same
 sub:=E.sub
 trk:=E.trk
 trk0:=E.trk0
 tab:=E.tab
 slot:=λj s h=>by
  by_cases hj:i=j
  ·subst hj;obtain⟨e,hl⟩:=A8 h;subst e;rw[aBI (by rw[E.len];exact hl)];exact r
  ·rw[v8 hj]at h⊢;exact E.slot j s h
 inj:=λj k x y a h1 h2 o1 o2 h3 h4=>by
  have ne:∀(l:Nat) (z:Sl),(ρ.set i sl)[l]?=some z->HB z->i≠l:=λl z q o e=>by subst e;obtain⟨e,_⟩:=A8 q;subst e;exact no o
  have n1:=ne j x h1 o1;have n2:=ne k y h2 o2;rw[v8 n1]at h1 h3;rw[v8 n2]at h2 h4;exact E.inj j k x y a h1 h2 o1 o2 h3 h4
def EnvOk.set (E:EnvOk K H9 O0 H O σ ρ)(i:Nat)(r:Rep K H O v d):EnvOk K H9 O0 H O (σ.set i (some v)) (ρ.set i (.v d)):=E.put i (λz=>z) ⟨v,rfl,r⟩
def bU.at_ (h:bU K H9 H O x sl)(o:HB sl):∃a u,x=some (some (V.ref a))/\O a/\H9 a=none/\H a=some u/\Mt u:=by
 cases sl with
 |o xs=>obtain⟨a,vs,h1,h2,h3,h4,_⟩:=h;exact⟨a,_,h1,h2,h3,h4,trivial⟩
 |d kvs=>obtain⟨a,u,es,h1,h2,h3,h4,_⟩:=h;exact⟨a,_,h1,h2,h3,h4,trivial⟩
 |_=>exact o.elim
def EnvOk.af2 (E:EnvOk K H9 O0 H O σ ρ){a:Addr}{sl:Sl}(i:Nat)(hn:∀(j:Nat) (y:Sl),i≠j->ρ[j]?=some y->HB y->σ[j]?≠some (some (V.ref a)))(r:bU K H9 H O (some (some (V.ref a))) sl):
  EnvOk K H9 O0 H O (σ.set i (some (V.ref a))) (ρ.set i sl)where
 len:=by simpa using E.len
 same:=E.same
 sub:=E.sub
 trk:=E.trk
 trk0:=E.trk0
 tab:=E.tab
 slot:=λj s h=>by
  by_cases hj:i=j
  ·subst hj;obtain⟨e,hl⟩:=A8 h;subst e;rw[aBI (by rw[E.len];exact hl)];exact r
  ·rw[v8 hj]at h⊢;exact E.slot j s h
 inj:=λj k x y b h1 h2 o1 o2 h3 h4=>by
  have at_:∀(l:Nat),i=l->(σ.set i<|some<|V.ref a)[l]?=some (some<|V.ref b)->b=a:=λl e q=>by subst e;obtain⟨e,_⟩:=A8 q;injection e with e;injection e
  by_cases hj:i=j
  ·by_cases hk:i=k
   ·exact hj.symm.trans hk
   ·exfalso;have eb:=at_ j hj h3;subst eb;rw[v8 hk]at h2 h4;exact hn k y hk h2 o2 h4
  ·by_cases hk:i=k
   ·exfalso;have eb:=at_ k hk h4;subst eb;rw[v8 hj]at h1 h3;exact hn j x hj h1 o1 h3
   ·rw[v8 hj]at h1 h3;rw[v8 hk]at h2 h4;exact E.inj j k x y b h1 h2 o1 o2 h3 h4
def j7 (h:H p=none)(o:HO):Same H (upd H p o):=λb u q=>by rw[l5 (t9 q h)];exact q
def EnvOk.ab8 (E:EnvOk K H9 O0 H O σ ρ)(h:H a=none)(hk:K.lookup a=none)(m:Mt u):EnvOk K H9 O0 (upd H a u) (λb=>O b\/b=a) σ ρ:=by
 have s:=j7 h u;have ne:∀b xs,N8 K H b xs->b≠a:=λb xs q z=>by
  subst z;rcases q with(q|⟨o,q⟩)|⟨o,_,_,q,_⟩
  ·rw[h]at q;cases q
  ·rw[h]at q;cases q
  ·rw[hk]at q;cases q
 refine⟨E.len,E.same.trans s,λb z=>.inl (E.sub b z),λb z=>?_,E.trk0,E.tab.same s,λi sl e=>?_,E.inj⟩
 ·rcases z with z|z
  ·obtain⟨o,q,m⟩:=E.trk b z;exact⟨o,s b o q,m⟩
  ·subst z;exact⟨_,j6,m⟩
 ·exact(E.slot i sl e).move (λ_ _ q=>s.tup q) (λb xs n q=>⟨λz=>z.elim n (ne b xs q),s.seq q⟩) (λ_ _ _ q=>s _ _ q) (λb o hb n=>⟨s b o hb,λz=>z.elim n λe=>by subst e;rw[h]at hb;cases hb⟩) λ_ b o _ q1 q2=>⟨.inl q1,s _ _ q2⟩
def YO (h:H a=none)(hk:K.lookup a=none)(q:N8 K H b xs):b≠a:=λz=>by
 subst z;rcases q with(q|⟨o,q⟩)|⟨o,_,_,q,_⟩
 ·rw[h]at q;cases q
 ·rw[h]at q;cases q
 ·rw[hk]at q;cases q
def Reps.ab8 (h:H a=none)(hk:K.lookup a=none)(r:Reps K H O v d):Reps K (upd H a u) (λb=>O b\/b=a) v d:=
 r.mono (λ_ _ q=>(j7 h u).tup q) (λb xs n q=>⟨λz=>z.elim n (YO h hk q),(j7 h u).seq q⟩) λb φ n q=>⟨λz=>z.elim n (t9 q h),j7 h u _ _ q⟩
def EnvOk.ad9 (E:EnvOk K H9 O0 H O σ ρ)(i:Nat)(h:H a=none)(hk:K.lookup a=none)(m:Mt u)(r:H9 a=none->bU K H9 (upd H a u) (λb=>O b\/b=a) (some (some (V.ref a))) sl):
  EnvOk K H9 O0 (upd H a u) (λb=>O b\/b=a) (σ.set i (some (.ref a))) (ρ.set i sl):=by
 have h0:H9 a=none:=by
  cases e:H9 a with
  |none=>rfl
  |some o=>have:=E.same a o e;rw[h]at this;cases this
 refine(E.ab8 h hk m).af2 i (λj y _ e o q=>?_) (r h0);obtain⟨b,w,p1,_,_,p4,_⟩:=(E.slot j y e).at_ o;rw[q]at p1;injection p1 with p1;injection p1 with p1;injection p1 with p1;subst p1;rw[h]at p4;cases p4
def tU (h:H a=some u)(m:Mt u)(q:W2 K H b xs):W2 K (upd H a u') b xs:=by
 have ne:∀w,H b=some w->¬Mt w->b≠a:=λw e n z=>by subst z;rw[h]at e;cases e;exact n m
 rcases q with(q|⟨o,q⟩)|q
 ·exact .inl (.inl (by rw[l5 (ne _ q λz=>z)];exact q))
 ·exact .inl (.inr ⟨o,by rw[l5 (ne _ q λz=>z)];exact q⟩)
 ·exact .inr q
def uP (hO:O a)(n:¬O b)(q:N8 K H b xs):N8 K (upd H a u') b xs:=by
 have ne:b≠a:=λz=>by subst z;exact n hO
 rcases q with(q|⟨o,q⟩)|q
 ·exact .inl (.inl (by rw[l5 ne];exact q))
 ·exact .inl (.inr ⟨o,by rw[l5 ne];exact q⟩)
 ·exact .inr q
def Rep.upd (h:H a=some u)(m:Mt u)(hO:O a)(r:Rep K H O v d):Rep K (upd H a u') O v d:=r.mono (λ_ _ q=>tU h m q) (λ_ _ n q=>⟨n,uP hO n q⟩) λb _ n q=>⟨n,by rw[l5 (λz=>n (by rw[z];exact hO))];exact q⟩
def Reps.upd (h:H a=some u)(m:Mt u)(hO:O a)(r:Reps K H O v d):Reps K (upd H a u') O v d:=r.mono (λ_ _ q=>tU h m q) (λ_ _ n q=>⟨n,uP hO n q⟩) λb _ n q=>⟨n,by rw[l5 (λz=>n (by rw[z];exact hO))];exact q⟩
def EnvOk.ae1 {i:Nat}{sl sl':Sl}{a:Addr}{u u':HO}(E:EnvOk K H9 O0 H O σ ρ)(e:ρ[i]?=some sl)(ow:HB sl)(h1:σ[i]?=some (some (V.ref a)))(hu:H a=some u)(m':Mt u')(ow':HB sl')
  (r:O a->H9 a=none->Mt u->bU K H9 (upd H a u') O (some (some (V.ref a))) sl'):EnvOk K H9 O0 (upd H a u') O σ (ρ.set i sl')/\Kp H O (upd H a u') O:=by
 obtain⟨b,w,p1,p2,p3,p4,m⟩:=(E.slot i sl e).at_ ow;rw[h1]at p1;injection p1 with p1;injection p1 with p1;injection p1 with p1;subst p1;rw[hu]at p4;cases p4;have kp:Kp H O (upd H a u') O:=λb o hb n=>⟨by rw[l5 (λz=>by subst z;exact n p2)];exact hb,n⟩;have nf:∀b w,H b=some w->¬Mt w->upd H a u' b=some w:=λb w q n=>by rw[l5 (λz=>by subst z;rw[hu]at q;cases q;exact n m)];exact q
 refine⟨⟨by simpa using E.len,λb o q=>?_,E.sub,λb z=>?_,E.trk0,λp hp=>nf _ _ (E.tab p hp) λz=>z,λj s h=>?_,λj k x y b q1 q2 o1 o2 q3 q4=>?_⟩,kp⟩
 ·rw[l5 (λz=>by subst z;rw[p3]at q;cases q)];exact E.same b o q
 ·by_cases hb:b=a
  ·subst hb;exact⟨_,j6,m'⟩
  ·obtain⟨o,q,m⟩:=E.trk b z;exact⟨o,by rw[l5 hb];exact q,m⟩
 ·by_cases hj:i=j
  ·subst hj;obtain⟨e',_⟩:=A8 h;subst e';rw[h1];exact r p2 p3 m
  ·rw[v8 hj]at h;refine(E.slot j s h).move (λ_ _ q=>tU hu m q) (λ_ _ n q=>⟨n,uP p2 n q⟩) (λb o w q=>nf _ _ q λz=>z) kp λo b w q1 q2 q3=>⟨q2,?_⟩;rw[l5 (λz=>by subst z;exact hj (E.inj i j sl s b e h ow o h1 q1))];exact q3
 ·have fin:∀l z,(ρ.set i sl')[l]?=some z->HB z->∃z',ρ[l]?=some z'/\HB z':=λl z q o=>by
   by_cases hl:i=l
   ·subst hl;exact⟨sl,e,ow⟩
   ·rw[v8 hl]at q;exact⟨z,q,o⟩
  obtain⟨x',u1,o1'⟩:=fin j x q1 o1;obtain⟨y',u2,o2'⟩:=fin k y q2 o2;exact E.inj j k x' y' b u1 u2 o1' o2' q3 q4
def EnvOk.ae6 {i:Nat}{sl sl':Sl}{a:Addr}(E:EnvOk K H9 O0 H O σ ρ)(e:ρ[i]?=some sl)(ow:HB sl)(h1:σ[i]?=some (some (V.ref a)))(no:¬HB sl')(r:bU K H9 H (λb=>O b/\b≠a) (some (some (V.ref a))) sl'):
  EnvOk K H9 O0 H (λb=>O b/\b≠a) σ (ρ.set i sl'):=by
 obtain⟨b,w,p1,p2,p3,p4,m⟩:=(E.slot i sl e).at_ ow;rw[h1]at p1;injection p1 with p1;injection p1 with p1;injection p1 with p1;subst p1;have sub:∀b,(O b/\b≠a)->O b:=λb z=>z.1;refine⟨by simpa using E.len,E.same,λb z=>⟨E.sub b z,λq=>?_⟩,λb z=>E.trk b z.1,E.trk0,E.tab,λj s h=>?_,λj k x y b q1 q2 o1 o2 q3 q4=>?_⟩
 ·subst q;obtain⟨o,q⟩:=E.trk0 b z;rw[p3]at q;cases q
 ·by_cases hj:i=j
  ·subst hj;obtain⟨e',_⟩:=A8 h;subst e';rw[h1];exact r
  ·rw[v8 hj]at h;refine(E.slot j s h).move (λ_ _ q=>q) (λ_ _ n q=>⟨λz=>n z.1,q⟩) (λ_ _ _ q=>q) (λb o hb n=>⟨hb,λz=>n z.1⟩) λo b w q1 q2 q3=>⟨⟨q2,λz=>?_⟩,q3⟩;subst z;exact hj (E.inj i j sl s b e h ow o h1 q1)
 ·have n1:i≠j:=λz=>by subst z;obtain⟨e',_⟩:=A8 q1;subst e';exact no o1
  have n2:i≠k:=λz=>by subst z;obtain⟨e',_⟩:=A8 q2;subst e';exact no o2
  rw[v8 n1]at q1;rw[v8 n2]at q2;exact E.inj j k x y b q1 q2 o1 o2 q3 q4
end
def XW (X:Cx)(e:Str)(H:Hp):Prop:=False
def RC (X:Cx)(H:Hp)(O:Addr->Prop)(r:R D)(Q:VK):Prop:=match r with
 |.ok d=>∀v H',Same H H'->Rep X.K H' O v d->Q v H'
 |.ex e=>∀H',Same H H'->XW X e H'
 |.bad=>False
def A9 (K:PySem.W.Frag)(H:Hp)(O:Addr->Prop)(v:V)(d:D):Prop:=Rep K H O v d\/∃a vs ds,v=.ref a/\d=.lst ds/\N8 K H a vs/\Reps K H O vs ds
def NR (X:Cx)(H:Hp)(O:Addr->Prop)(r:R D)(Q:VK):Prop:=match r with
 |.ok d=>∀v H',Same H H'->A9 X.K H' O v d->Q v H'
 |.ex e=>∀H',Same H H'->XW X e H'
 |.bad=>False
def yW (X:Cx)(H:Hp)(r:R Bool)(Q:Bool->Hp->Prop):Prop:=match r with
 |.ok b=>∀H',Same H H'->Q b H'
 |.ex e=>∀H',Same H H'->XW X e H'
 |.bad=>False
def IP (X:Cx)(H:Hp)(O:Addr->Prop)(r:R (List D))(Q:List V->Hp->Prop):Prop:=match r with
 |.ok ds=>∀vs H',Same H H'->Reps X.K H' O vs ds->Q vs H'
 |.ex e=>∀H',Same H H'->XW X e H'
 |.bad=>False
def LF (X:Cx)(H:Hp)(O:Addr->Prop)(r:R (List D))(Q:List V->Hp->Prop):Prop:=match r with
 |.ok ds=>∀vs H',Same H H'->Paired (A9 X.K H' O) vs ds->Q vs H'
 |.ex e=>∀H',Same H H'->XW X e H'
 |.bad=>False
def tD (X:Cx)(f:Ev->R D):TE:=λσ H Q=>∃H9 O0 O ρ,EnvOk X.K H9 O0 H O σ ρ/\RC X H O (f ρ) Q
def yk (X:Cx)(f:Ev->R D):TE:=λσ H Q=>∃H9 O0 O ρ,EnvOk X.K H9 O0 H O σ ρ/\NR X H O (f ρ) Q
def xk (X:Cx)(f:Ev->R Bool):TT:=λσ H Q=>∃H9 O0 O ρ,EnvOk X.K H9 O0 H O σ ρ/\yW X H (f ρ) Q
def tDs (X:Cx)(f:Ev->R (List D)):TA:=λσ H Q=>∃H9 O0 O ρ,EnvOk X.K H9 O0 H O σ ρ/\IP X H O (f ρ) Q
def yj (X:Cx)(f:Ev->R (List D)):TA:=λσ H Q=>∃H9 O0 O ρ,EnvOk X.K H9 O0 H O σ ρ/\LF X H O (f ρ) Q
def PD (X:Cx)(e:Expr)(f:Ev->R D):Prop:=PE X e (tD X f)
def PB (X:Cx)(e:Expr)(f:Ev->R D):Prop:=PE X e (yk X f)
def EC (X:Cx)(e:Expr)(f:Ev->R Bool):Prop:=PT X e (xk X f)
def IL (X:Cx)(es:List Expr)(f:Ev->R (List D)):Prop:=PA X es (tDs X f)
def VM (X:Cx)(es:List Expr)(f:Ev->R (List D)):Prop:=PA X es (yj X f)
def TL {r:Hp->(Addr->Prop)->Ev->VK->Prop}(h:PE X e t)(i:∀σ H Q H9 O0 O ρ,EnvOk X.K H9 O0 H O σ ρ->r H O ρ Q->t σ H Q):PE X e λσ H Q=>∃H9 O0 O ρ,EnvOk X.K H9 O0 H O σ ρ/\r H O ρ Q:=λpins s σ H Q I q=>h pins s σ H Q I (let⟨H9,O0,O,ρ,E,q⟩:=q;i σ H Q H9 O0 O ρ E q)
def ptI {r:Hp->(Addr->Prop)->Ev->(Bool->Hp->Prop)->Prop}(h:PT X e t)(i:∀σ H Q H9 O0 O ρ,EnvOk X.K H9 O0 H O σ ρ->r H O ρ Q->t σ H Q):PT X e λσ H Q=>∃H9 O0 O ρ,EnvOk X.K H9 O0 H O σ ρ/\r H O ρ Q:=λpins s σ H Q I q=>h pins s σ H Q I (let⟨H9,O0,O,ρ,E,q⟩:=q;i σ H Q H9 O0 O ρ E q)
def iz {r:Hp->(Addr->Prop)->Ev->(List V->Hp->Prop)->Prop}(h:PA X es t)(i:∀σ H Q H9 O0 O ρ,EnvOk X.K H9 O0 H O σ ρ->r H O ρ Q->t σ H Q):PA X es λσ H Q=>∃H9 O0 O ρ,EnvOk X.K H9 O0 H O σ ρ/\r H O ρ Q:=λpos pins s σ H Q I q=>h pos pins s σ H Q I (let⟨H9,O0,O,ρ,E,q⟩:=q;i σ H Q H9 O0 O ρ E q)
def vU {β:Type}{r:Hp->(Addr->Prop)->Ev->β->Prop}{G:List (Addr×Obj)->Shared->St->Hp->β->Prop}(h:∀pins s σ H Q,Inv X pins σ H s->∀H9 O0 O ρ,EnvOk X.K H9 O0 H O σ ρ->r H O ρ Q->G pins s σ H Q)(pins s σ H Q)(I:Inv X pins σ H s)(q:∃H9 O0 O ρ,EnvOk X.K H9 O0 H O σ ρ/\r H O ρ Q):G pins s σ H Q:=let⟨H9,O0,O,ρ,E,q⟩:=q;h pins s σ H Q I H9 O0 O ρ E q
def PD.pb (h:PD X e f):PB X e f:=TL h λσ H Q H9 O0 O ρ E q=>⟨H9,O0,O,ρ,E,by
 unfold RC NR at*
 cases e:f ρ with
 |ok d=>rw[e]at q;exactλv H' s r=>q v H' s (.inl r)
 |ex x=>rw[e]at q;exact q
 |bad=>rw[e]at q;exact q⟩
def RC.seq {O:Addr->Prop}(h:RC X H O (r.bind g) Q):
  RC X H O r λv H1=>∃d,r=.ok d/\Same H H1/\Rep X.K H1 O v d/\RC X H1 O (g d) Q:=by
 cases r with
 |ok d=>
  intro v H1 s1 r1;refine⟨d,rfl,s1,r1,?_⟩;have h':RC X H O (g d) Q:=h;cases e:g d with
  |ok d'=>rw[e]at h';exactλw H2 s2 r2=>h' w H2 (s1.trans s2) r2
  |ex x=>rw[e]at h';exactλH2 s2=>h' H2 (s1.trans s2)
  |bad=>rw[e]at h';exact h'
 |ex x=>exact h
 |bad=>exact h
def NR.seq {O:Addr->Prop}(h:RC X H O (r.bind g) Q):
  NR X H O r λv H1=>∃d,r=.ok d/\Same H H1/\A9 X.K H1 O v d/\RC X H1 O (g d) Q:=by
 cases r with
 |ok d=>
  intro v H1 s1 r1;refine⟨d,rfl,s1,r1,?_⟩;have h':RC X H O (g d) Q:=h;cases e:g d with
  |ok d'=>rw[e]at h';exactλw H2 s2 r2=>h' w H2 (s1.trans s2) r2
  |ex x=>rw[e]at h';exactλH2 s2=>h' H2 (s1.trans s2)
  |bad=>rw[e]at h';exact h'
 |ex x=>exact h
 |bad=>exact h
def RC.grow {O:Addr->Prop}(h:RC X H O r Q)(s1:Same H H1):RC X H1 O r Q:=by
 cases r with
 |ok d=>exactλw H2 s2 r2=>h w H2 (s1.trans s2) r2
 |ex x=>exactλH2 s2=>h H2 (s1.trans s2)
 |bad=>exact h
section
variable{X:Cx}
def A9.same (e:Same H H')(r:A9 X.K H O v d):A9 X.K H' O v d:=by
 rcases r with r|⟨a,vs,ds,h1,h2,h3,h4⟩
 ·exact .inl (r.same e)
 ·exact .inr ⟨a,vs,ds,h1,h2,e.seq h3,h4.same e⟩
def A9.aa5 {K:PySem.W.Frag}{ds:List D}(r:A9 K H O v (.lst ds)):∃a vs,v=.ref a/\N8 K H a vs/\Reps K H O vs ds:=by
 rcases r with r|⟨a,vs,es,h1,h2,h3,h4⟩
 ·cases r with|lst h n r=>exact⟨_,_,rfl,h,r⟩
 ·injection h2 with h2;subst h2;exact⟨a,vs,h1,h3,h4⟩
def A9.af8 {K:PySem.W.Frag}(r:A9 K H O v .dct):∃a o,v=.ref a/\H a=some (.ext λh=>h.get? a=some o)/\o.ExactDict:=by
 rcases r with r|⟨a,vs,es,h1,h2,h3,h4⟩
 ·cases r with|dct h x n=>exact⟨_,_,rfl,h,x⟩
 ·cases h2
def A9.tupI {K:PySem.W.Frag}{ds:List D}(r:A9 K H O v (.tup ds)):∃a vs,v=.ref a/\W2 K H a vs/\Reps K H O vs ds:=by
 rcases r with r|⟨a,vs,es,h1,h2,h3,h4⟩
 ·cases r with|tup h r=>exact⟨_,_,rfl,h,r⟩
 ·cases h2
def A9.aa6 {K:PySem.W.Frag}{i:Int}(r:A9 K H O v (.int i)):v=.int i:=by
 rcases r with r|⟨a,vs,es,h1,h2,h3,h4⟩
 ·cases r;rfl
 ·cases h2
def A9.blI {K:PySem.W.Frag}{i:Bool}(r:A9 K H O v (.bl i)):v=.bl i:=by
 rcases r with r|⟨a,vs,es,h1,h2,h3,h4⟩
 ·cases r;rfl
 ·cases h2
def A9.ac0 {K:PySem.W.Frag}(r:A9 K H O v .non):v=.non:=by
 rcases r with r|⟨a,vs,es,h1,h2,h3,h4⟩
 ·cases r;rfl
 ·cases h2
def A9.ac5 {K:PySem.W.Frag}{i:Str}(r:A9 K H O v (.str i)):v=.str i:=by
 rcases r with r|⟨a,vs,es,h1,h2,h3,h4⟩
 ·cases r;rfl
 ·cases h2
end
def Q4 (i:Nat)(ρ:Ev):R D:=match ρ[i]? with
 |some (.v d)=>.ok d
 |_=>.bad
def pK (i:Nat)(ρ:Ev):R D:=match ρ[i]? with
 |some (.v d)=>.ok d
 |some (.o xs)=>.ok (.lst xs)
 |_=>.bad
section
def c6 (i:Nat)(hN:X.N[i]?=some x:=by rfl)(hv:zJ X.env.scope x:=by first|exact aCM rfl|exact aBW (aCM rfl)|exact aBW (aBW rfl))(hd:(x==("__debug__":Str))=false:=by decide)(gg:(x==("__classdict__":Str))=false:=by decide):PD X (.Name x pos) (Q4 i):=TL (R3 hN hv hd gg) λσ H Q H9 O0 O ρ E q=>by
 unfold Q4 at q;cases e:ρ[i]? with
 |none=>rw[e]at q;exact q.elim
 |some sl=>
  rw[e]at q;cases sl with
  |no=>exact q.elim
  |x C=>exact q.elim
  |c m φ=>exact q.elim
  |d kvs=>exact q.elim
  |o xs=>exact q.elim
  |v d=>obtain⟨v,h1,h2⟩:=E.val i d e;exact⟨v,h1,q v H (Same.refl H) h2⟩
def b8 (i:Nat)(hN:X.N[i]?=some x:=by rfl)(hv:zJ X.env.scope x:=by first|exact aCM rfl|exact aBW (aCM rfl)|exact aBW (aBW rfl))(hd:(x==("__debug__":Str))=false:=by decide)(gg:(x==("__classdict__":Str))=false:=by decide):PB X (.Name x pos) (pK i):=TL (R3 hN hv hd gg) λσ H Q H9 O0 O ρ E q=>by
 unfold pK at q;cases e:ρ[i]? with
 |none=>rw[e]at q;exact q.elim
 |some sl=>
  rw[e]at q;cases sl with
  |no=>exact q.elim
  |x C=>exact q.elim
  |c m φ=>exact q.elim
  |d kvs=>exact q.elim
  |o xs=>obtain⟨a,vs,h1,h2,h3,h4,h5⟩:=E.own i xs e;exact⟨_,h1,q _ H (Same.refl H) (.inr ⟨a,vs,xs,rfl,rfl,N8.of h4,h5⟩)⟩
  |v d=>obtain⟨v,h1,h2⟩:=E.val i d e;exact⟨v,h1,q v H (Same.refl H) (.inl h2)⟩
def UO (d:D)(_:Ev):R D:=.ok d
def tW (h:PE X e (tC v))(r:∀H O,Rep X.K H O v d):PD X e (UO d):=TL h λσ H Q H9 O0 O ρ E q=>q v H (Same.refl H) (r H O)
def d5 {j pos}:PD X (.Constant (.int i) j pos) (UO (.int i)):=tW WC λ_ _=>.int
def xT {j pos}:PD X (.Constant (.bool i) j pos) (UO (.bl i)):=tW ZE λ_ _=>.bl
def BA {j pos}:PD X (.Constant .none j pos) (UO .non):=tW WE λ_ _=>.non
def mB (X:Cx)(f:Value->Value->Sem Value)(g:D->D->R D):Prop:=
 ∀(H:Hp) (O:Addr->Prop) (x y:V) (dx dy:D) (Q:VK),(∀p,H p=none->¬O p)->A9 X.K H O x dx->A9 X.K H O y dy->RC X H O (g dx dy) Q->∃r,lZ X f r/\r x y H Q
def pk (X:Cx)(O:Addr->Prop)(g:D->D->R D)(Q:VK):V->V->Hp->Prop:=λx y H=>∃dx dy,(∀p,H p=none->¬O p)/\A9 X.K H O x dx/\A9 X.K H O y dy/\RC X H O (g dx dy) Q
def mG {O0 O:Addr->Prop}(E:EnvOk X.K H9 O0 H O σ ρ)(q:RC X H O ((f1 ρ).bind λx=>(f2 ρ).bind λy=>g x y) Q):
  yk X f1 σ H λx H1=>yk X f2 σ H1 λy H2=>pk X O g Q x y H2:=by
 refine⟨H9,O0,O,ρ,E,?_⟩;have h1:=NR.seq q;revert h1;cases e1:f1 ρ with
 |ok d1=>
  intro h1 x H1 s1 r1;obtain⟨d,e,_,r,h2⟩:=h1 x H1 s1 r1;cases e;have E1:=E.grow s1;refine⟨H9,O0,O,ρ,E1,?_⟩;have h3:=NR.seq h2;revert h3;cases e2:f2 ρ with
  |ok d2=>intro h3 y H2 s2 r2;obtain⟨d',e,_,r',h4⟩:=h3 y H2 s2 r2;cases e;exact⟨d1,d2,λp hp=>(E1.grow s2).fresh hp,r.same s2,r',h4⟩
  |ex x=>intro h3;exact h3
  |bad=>intro h3;exact h3
 |ex x=>intro h1;exact h1
 |bad=>intro h1;exact h1
def b9 (ho:mB X (binaryOp op) g)(ha:PB X a f1)(hb:PB X b f2):PD X (.BinOp a op b pos) (λρ=>(f1 ρ).bind λx=>(f2 ρ).bind λy=>g x y):=by refine vU λpins s σ H Q I H9 O0 O ρ E q=>?_;refine wpAny_BinOp (MQ ha hb I (mG E q) λv u s2 x y H2 I2 rx ry h=>?_);obtain⟨dx,dy,fr,r1,r2,q⟩:=h;obtain⟨r,hr,hq⟩:=ho H2 O x y dx dy Q fr r1 r2 q;exact hr pins s2 σ H2 x y v u Q I2 rx ry hq
def vD (ho:mB X (compareOp op) g)(ha:PB X a f1)(hb:PB X b f2)(hm:behindInMarks op b=false:=by first|exact JY _|with_unfolding_all rfl):
  PD X (.Compare a [op] [b] pos) (λρ=>(f1 ρ).bind λx=>(f2 ρ).bind λy=>g x y):=by
 refine vU λpins s σ H Q I H9 O0 O ρ E q=>?_;refine wpAny_Compare1 (MQ ha hb I (mG E q) λv u s2 x y H2 I2 rx ry h=>?_) hm;obtain⟨dx,dy,fr,r1,r2,q⟩:=h;obtain⟨r,hr,hq⟩:=ho H2 O x y dx dy Q fr r1 r2 q;exact hr pins s2 σ H2 x y v u Q I2 rx ry hq
def vO:D->R Bool
 |.bl b=>.ok b
 |_=>.bad
def FB {O:Addr->Prop}{Q:Bool->Hp->Prop}(h:yW X H (r.bind vO) Q):RC X H O r λv H1=>∃c,v=.bl c/\Q c H1:=by
 cases r with
 |ok d=>
  cases d with
  |bl b=>intro v H1 s1 r1;cases r1;exact⟨b,rfl,h H1 s1⟩
  |_=>exact(show False from h).elim
 |ex x=>exact h
 |bad=>exact h
def j9 (ho:mB X (compareOp op) g)(ha:PB X a f1)(hb:PB X b f2)(hm:behindInMarks op b=false:=by first|exact JY _|with_unfolding_all rfl):
  EC X (.Compare a [op] [b] pos) (λρ=>((f1 ρ).bind λx=>(f2 ρ).bind λy=>g x y).bind vO):=by
 refine vU λpins s σ H Q I H9 O0 O ρ E q=>?_;have q':=FB (O:=O) q;refine wpAny_isTrue_Compare1 (MQ ha hb I (mG E q') λv u s2 x y H2 I2 rx ry h=>?_) hm;obtain⟨dx,dy,fr,r1,r2,q⟩:=h;obtain⟨r,hr,hq⟩:=ho H2 O x y dx dy _ fr r1 r2 q;refine D9 (hr pins s2 σ H2 x y v u _ I2 rx ry hq) λc s3 ⟨z,H3,I3,r3,k,e,q3⟩=>?_;subst e;cases r3;exact aBQ ⟨H3,I3,q3⟩
def mI (h:PD X e f)(he:∀whole,isTrue e X.env whole=(do let v<-whole;standAt e.pos;holding [v] (truthy v)):=by intro _;rfl):EC X e (λρ=>(f ρ).bind vO):=by refine ptI (WR h he) λσ H Q H9 O0 O ρ E q=>⟨H9,O0,O,ρ,E,FB q⟩
def yW.seq {Q:Bool->Hp->Prop}(h:yW X H (r.bind g) Q):yW X H r λb H1=>r=.ok b/\Same H H1/\yW X H1 (g b) Q:=by
 cases r with
 |ok d=>
  intro H1 s1;refine⟨rfl,s1,?_⟩;have h':yW X H (g d) Q:=h;cases e:g d with
  |ok d'=>rw[e]at h';exactλH2 s2=>h' H2 (s1.trans s2)
  |ex x=>rw[e]at h';exactλH2 s2=>h' H2 (s1.trans s2)
  |bad=>rw[e]at h';exact h'
 |ex x=>exact h
 |bad=>exact h
def yW.mono {Q Q':Bool->Hp->Prop}(h:yW X H r Q)(i:∀b H1,Q b H1->Q' b H1):yW X H r Q':=by
 cases r with
 |ok d=>exactλH1 s1=>i _ _ (h H1 s1)
 |ex x=>exact h
 |bad=>exact h
def RC.mono {O:Addr->Prop}(h:RC X H O r Q)(i:∀b H1,Q b H1->Q' b H1):RC X H O r Q':=by
 cases r with
 |ok d=>exactλv H1 s1 r1=>i _ _ (h v H1 s1 r1)
 |ex x=>exact h
 |bad=>exact h
def EM (X:Cx)(e:Expr)(f:Ev->R Bool):Prop:=PW X e (xk X f)
def YK (f g:Ev->R Bool):Ev->R Bool:=λρ=>(f ρ).bind λb=>if b=true then g ρ else .ok false
def orB (f g:Ev->R Bool):Ev->R Bool:=λρ=>(f ρ).bind λb=>if b=true then .ok true else g ρ
def aw (f:Ev->R Bool):Ev->R Bool:=λρ=>(f ρ).bind λb=>.ok (!b)
variable{rest:List Expr}
def iZ (ha:EC X a f):EM X (.BoolOp .And [a] pos) f:=SV ha
def EH (ha:EC X a f):EM X (.BoolOp .Or [a] pos) f:=YM ha
def JE (h:PW X e t)(i:∀σ H Q,t' σ H Q->t σ H Q):PW X e t':=λwh pins s σ H Q I q=>h wh pins s σ H Q I (i σ H Q q)
def mF (ha:EC X a f)(hb:EM X (.BoolOp .And (b::rest) pos) g):EM X (.BoolOp .And (a::b::rest) pos) (YK f g):=
 JE (YA ha hb) λσ H Q ⟨H9,O0,O,ρ,E,q⟩=>⟨H9,O0,O,ρ,E,yW.mono (yW.seq q) λb H1 ⟨_,s1,h1⟩=>by
  cases b with
  |true=>rw[if_pos rfl];exact⟨H9,O0,O,ρ,E.grow s1,h1⟩
  |false=>rw[if_neg aBg];exact h1 H1 (Same.refl _)⟩
def uQ (ha:EC X a f)(hb:EM X (.BoolOp .Or (b::rest) pos) g):EM X (.BoolOp .Or (a::b::rest) pos) (orB f g):=
 JE (cw ha hb) λσ H Q ⟨H9,O0,O,ρ,E,q⟩=>⟨H9,O0,O,ρ,E,yW.mono (yW.seq q) λb H1 ⟨_,s1,h1⟩=>by
  cases b with
  |false=>rw[if_neg aBg];exact⟨H9,O0,O,ρ,E.grow s1,h1⟩
  |true=>rw[if_pos rfl];exact h1 H1 (Same.refl _)⟩
def EM.pt (h:EM X e f):EC X e f:=PW.pt h
def TD (ha:EC X a f):EC X (.UnaryOp .Not a pos) (aw f):=
 ptI (YI ha) λσ H Q H9 O0 O ρ E q=>⟨H9,O0,O,ρ,E,yW.mono (yW.seq q) λb H1 ⟨_,s1,h1⟩=>h1 H1 (Same.refl _)⟩
def YJ:D->R D
 |.int i=>.ok (.int (-i))
 |_=>.bad
def kB {f:Ev->R D}(ha:PD X a f):PD X (.UnaryOp .USub a pos) (λρ=>(f ρ).bind YJ):=
 TL (ZR VT ha) λσ H Q H9 O0 O ρ E q=>⟨H9,O0,O,ρ,E,by
  refine RC.mono (RC.seq q) λv H1 ⟨d,_,s1,r1,h1⟩=>?_;cases d with
  |int i=>cases r1;exact⟨i,rfl,h1 _ H1 (Same.refl _) .int⟩
  |_=>exact(show False from h1).elim⟩
def IP.seq {H:Hp}{O:Addr->Prop}{r:R (List D)}{g:List D->R D}{Q:VK}(h:RC X H O (r.bind g) Q):
  IP X H O r λv H1=>∃d,r=.ok d/\Same H H1/\Reps X.K H1 O v d/\RC X H1 O (g d) Q:=by
 cases r with
 |ok d=>exactλv H1 s1 r1=>⟨d,rfl,s1,r1,(show RC X H O (g d) Q from h).grow s1⟩
 |ex x=>exact h
 |bad=>exact h
def IP.mono {O:Addr->Prop}{Q Q':List V->Hp->Prop}(h:IP X H O r Q)(i:∀b H1,Q b H1->Q' b H1):IP X H O r Q':=by
 cases r with
 |ok d=>exactλv H1 s1 r1=>i _ _ (h v H1 s1 r1)
 |ex x=>exact h
 |bad=>exact h
def LF.seq {H:Hp}{O:Addr->Prop}{r:R (List D)}{g:List D->R D}{Q:VK}(h:RC X H O (r.bind g) Q):
  LF X H O r λv H1=>∃d,r=.ok d/\Same H H1/\Paired (A9 X.K H1 O) v d/\RC X H1 O (g d) Q:=by
 cases r with
 |ok d=>exactλv H1 s1 r1=>⟨d,rfl,s1,r1,(show RC X H O (g d) Q from h).grow s1⟩
 |ex x=>exact h
 |bad=>exact h
def NR.mono {O:Addr->Prop}(h:NR X H O r Q)(i:∀b H1,Q b H1->Q' b H1):NR X H O r Q':=by
 cases r with
 |ok d=>exactλv H1 s1 r1=>i _ _ (h v H1 s1 r1)
 |ex x=>exact h
 |bad=>exact h
def p8 (f:Ev->R D)(g:Ev->R (List D)):Ev->R (List D):=λρ=>(f ρ).bind λd=>(g ρ).bind λds=>.ok (d::ds)
def Q7:Ev->R (List D):=λ_=>.ok []
def u9:IL X [] Q7:=iz aV λσ H Q H9 O0 O ρ E q=>q [] H (Same.refl _) .nil
def j2 {f:Ev->R D}{g:Ev->R (List D)}(ha:PD X e f)(hr:IL X es g)(hs:starEach (e::es) X.env=(false,eval e X.env)::starEach es X.env:=by rfl):IL X (e::es) (p8 f g):=
 iz (J9 ha hr hs) λσ H Q H9 O0 O ρ E q=>⟨H9,O0,O,ρ,E,by
  unfold p8 at q;cases e1:f ρ with
  |ok d=>
   rw[e1]at q;intro v H1 s1 r1;refine⟨H9,O0,O,ρ,E.grow s1,?_⟩;cases e2:g ρ with
   |ok ds=>rw[e2]at q;exactλvs H2 s2 r2=>q (v::vs) H2 (s1.trans s2) (.cons (r1.same s2) r2)
   |ex x=>rw[e2]at q;exactλH2 s2=>q H2 (s1.trans s2)
   |bad=>rw[e2]at q;exact q
  |ex x=>rw[e1]at q;exact q
  |bad=>rw[e1]at q;exact q⟩
def l9:VM X [] Q7:=iz aV λσ H Q H9 O0 O ρ E q=>q [] H (Same.refl _) .nil
def j3 {f:Ev->R D}{g:Ev->R (List D)}(ha:PB X e f)(hr:VM X es g)(hs:starEach (e::es) X.env=(false,eval e X.env)::starEach es X.env:=by rfl):VM X (e::es) (p8 f g):=
 iz (J9 ha hr hs) λσ H Q H9 O0 O ρ E q=>⟨H9,O0,O,ρ,E,by
  unfold p8 at q;cases e1:f ρ with
  |ok d=>
   rw[e1]at q;intro v H1 s1 r1;refine⟨H9,O0,O,ρ,E.grow s1,?_⟩;cases e2:g ρ with
   |ok ds=>rw[e2]at q;exactλvs H2 s2 r2=>q (v::vs) H2 (s1.trans s2) (.cons (r1.same s2) r2)
   |ex x=>rw[e2]at q;exactλH2 s2=>q H2 (s1.trans s2)
   |bad=>rw[e2]at q;exact q
  |ex x=>rw[e1]at q;exact q
  |bad=>rw[e1]at q;exact q⟩
def aF (ds:List D):R D:=if ds.length<=sizeLine then .ok (.tup ds)else .bad
def xJ (ds:List D):R D:=if ds.length<=sizeLine then .ok (.lst ds)else .bad
def uH {f:Ev->R (List D)}{x1}(h:IL X es f):PD X (.Tuple es x1 pos) (λρ=>(f ρ).bind aF):=
 TL (VH h) λσ H Q H9 O0 O ρ E q=>⟨H9,O0,O,ρ,E,IP.mono (IP.seq q) λvs H1 ⟨ds,_,s1,r1,h1⟩=>by
  unfold aF at h1;split at h1
  ·rename_i hz;exact⟨by rw[r1.length];exact hz,λp hp=>h1 (.ref p) _ (j7 hp _) (.tup (W2.of j6) (r1.same<|j7 hp _))⟩
  ·exact h1.elim⟩
def oD {f:Ev->R (List D)}(h:IL X es f):PD X (.List es pos) (λρ=>(f ρ).bind xJ):=
 TL (LQ h) λσ H Q H9 O0 O ρ E q=>⟨H9,O0,O,ρ,E,IP.mono (IP.seq q) λvs H1 ⟨ds,_,s1,r1,h1⟩=>by
  unfold xJ at h1;split at h1
  ·rename_i hz;exact⟨by rw[r1.length];exact hz,λp hp=>h1 (.ref p) _ (j7 hp _) (.lst (N8.of j6) ((E.grow s1).fresh hp) (r1.same<|j7 hp _))⟩
  ·exact h1.elim⟩
def aG (X:Cx)(f:Value)(g:List D->R D):Prop:=
 ∀(H:Hp) (O:Addr->Prop) (vs:List V) (ds:List D) (Q:VK),(∀p,H p=none->¬O p)->Paired (A9 X.K H O) vs ds->RC X H O (g ds) Q->∃r,pE X f r/\r vs H Q
def E9 {x:Str}{id:String}{p:Pos}{f:Ev->R (List D)}{g:List D->R D}(hc:aG X (.builtin id) g)(ha:VM X (e::es) f)(hg:Gl X x:=by rfl)(hm:X.mg x=none:=by assumption)(hv:bootBuiltins x=some (.builtin id):=by decide+kernel)(hn:x≠ "__name__":=by decide)
  (ia:(x==("__debug__":Str))=false:=by decide) (he:starEach (e::es) X.env=(false,eval e X.env)::starEach es X.env:=by rfl) (bf:(backTo pos (starEach es X.env)).any (·.1)=false:=by rfl):
  PD X (.Call (.Name x p) (e::es) [] pos) (λρ=>(f ρ).bind g):=by
 refine vU λpins s σ H Q I H9 O0 O ρ E q=>?_;refine aAM (N0 I hg hm hv ?_ hn ia);refine aBF (D9 (ha pos pins s σ H _ I ⟨H9,O0,O,ρ,E,LF.seq q⟩) λus s1 ⟨vs,H1,I1,r1,d,_,sm,r,h⟩=>?_) he bf;obtain⟨r',hr,hq⟩:=hc H1 O vs d Q (λp hp=>(E.grow sm).fresh hp) r h;exact hr pins s1 σ H1 vs us Q I1 r1 hq
def D2 {x:Str}{T:String}{p:Pos}{f:Ev->R (List D)}{g:List D->R D}(hc:aG X (.type T) g)(ha:VM X (e::es) f)(hg:Gl X x:=by rfl)(hm:X.mg x=none:=by assumption)(hv:bootBuiltins x=some (.type T):=by decide+kernel)(hn:x≠ "__name__":=by decide)
  (ia:(x==("__debug__":Str))=false:=by decide) (he:starEach (e::es) X.env=(false,eval e X.env)::starEach es X.env:=by rfl) (bf:(backTo pos (starEach es X.env)).any (·.1)=false:=by rfl):
  PD X (.Call (.Name x p) (e::es) [] pos) (λρ=>(f ρ).bind g):=by
 refine vU λpins s σ H Q I H9 O0 O ρ E q=>?_;refine aAM (N0 I hg hm hv ?_ hn ia);refine aBb (D9 (ha pos pins s σ H _ I ⟨H9,O0,O,ρ,E,LF.seq q⟩) λus s1 ⟨vs,H1,I1,r1,d,_,sm,r,h⟩=>?_) he bf;obtain⟨r',hr,hq⟩:=hc H1 O vs d Q (λp hp=>(E.grow sm).fresh hp) r h;exact hr pins s1 σ H1 vs us Q I1 r1 hq
end
mutual
def w6:D->D->Bool
 |.non,.non=>true
 |.bl a,.bl b=>a==b
 |.bl a,.int b=>(if a then 1 else 0)==b
 |.int a,.bl b=>a==(if b then 1 else 0)
 |.int a,.int b=>a==b
 |.str a,.str b=>a==b
 |.tup xs,.tup ys=>X0 xs ys
 |.lst xs,.lst ys=>X0 xs ys
 |.dct,.dct=>true
 |_,_=>false
def X0:List D->List D->Bool
 |[],[]=>true
 |x::xs,y::ys=>w6 x y&&X0 xs ys
 |_,_=>false
end
mutual
def E6:D->Nat
 |.tup xs=>J7 xs+1
 |.lst xs=>J7 xs+1
 |.dct=>cLine
 |_=>0
def J7:List D->Nat
 |[]=>0
 |x::xs=>max (E6 x) (J7 xs)
end
mutual
theorem V0:∀d:D,w6 d d=true
 |.non=>by simp[w6]
 |.bl b=>by simp[w6]
 |.int i=>by simp[w6]
 |.str x=>by simp[w6]
 |.tup xs=>by rw[w6];exact jS xs
 |.lst xs=>by rw[w6];exact jS xs
 |.dct=>by simp[w6]
theorem jS:∀ds:List D,X0 ds ds=true
 |[]=>by simp[X0]
 |x::xs=>by rw[X0,V0 x,jS xs];rfl
end
def lC (xs ys:List D)(j:Nat):Bool:=match xs[j]?,ys[j]? with
 |some a,some b=>w6 a b
 |_,_=>false
theorem fN:∀(xs ys:List D),X0 xs ys=((aBu (min xs.length ys.length)).all (lC xs ys)&&(xs.length==ys.length))
 |[],[]=>by simp[X0]
 |[],_::_=>by simp[X0]
 |_::_,[]=>by simp[X0]
 |x::xs,y::ys=>by
  rw[X0,fN xs ys,aAx,aAx,Nat.succ_min_succ,aFv,aGf,List.all_map];have e1:lC (x::xs) (y::ys) 0=w6 x y:=rfl;have e2:(lC (x::xs) (y::ys)∘Nat.succ)=lC xs ys:=by
   funext j
   simp[lC]
  have e3:(xs.length+1==ys.length+1)=(xs.length==ys.length):=by rw[aCQ];simp
  rw[e1,e2,e3,Bool.and_assoc]
theorem tY:∀{xs:List D} {d:D} {j:Nat},xs[j]?=some d->E6 d<=J7 xs
 |[],_,_,h=>by simp at h
 |x::xs,d,0,h=>by simp at h;subst h;rw[J7];exact Nat.le_max_left _ _
 |x::xs,d,j+1,h=>by rw[J7];exact aAr (tY (j:=j) (by simpa using h)) (Nat.le_max_right _ _)
section
def zQ {K:PySem.W.Frag}{H:Hp}{O:Addr->Prop}{a:Addr}{d:D}(h:Rep K H O (.ref a) d):(∃vs ds,d=.tup ds/\W2 K H a vs/\Reps K H O vs ds)\/(∃vs ds,d=.lst ds/\N8 K H a vs/\Reps K H O vs ds)\/(d=.dct/\∃o:Obj,H a=some (.ext λh=>h.get? a=some o)/\o.ExactDict):=by
 cases h with
 |tup h r=>exact .inl ⟨_,_,rfl,h,r⟩
 |lst h n r=>exact .inr (.inl ⟨_,_,rfl,h,r⟩)
 |dct h x n=>exact .inr (.inr ⟨rfl,_,h,x⟩)
def UQ (I:Inv X pins σ H s)(h:W2 X.K H a vs)(h':N8 X.K H a ws):False:=by obtain⟨its,_,p,_⟩:=I.tuple h;obtain⟨its',_,p',_⟩:=I.list h';exact absurd rfl (SeqAt.ne_of_list_tuple (s:=s) p'.isList p)
def UL {o:Obj}(I:Inv X pins σ H s)(h':W2 X.K H a vs)(h:H a=some (.ext λh=>h.get? a=some o))(x:o.ExactDict):False:=by obtain⟨its,_,⟨o',g,c,_⟩,_⟩:=I.tuple h';have e:s.heap.get? _=some _:=(I.hok _ _ h).1;rw[g]at e;cases e;exact absurd (c.symm.trans x.1) (by decide)
def UY {o:Obj}(I:Inv X pins σ H s)(h':N8 X.K H a vs)(h:H a=some (.ext λh=>h.get? a=some o))(x:o.ExactDict):False:=by obtain⟨its,_,p,_⟩:=I.list h';obtain⟨o',g,c,_⟩:=p.isList;have e:s.heap.get? _=some _:=(I.hok _ _ h).1;rw[g]at e;cases e;exact absurd (c.symm.trans x.1) (by decide)
mutual
theorem Rep.inj (I:Inv X pins σ H s):∀{v:V} {d:D},Rep X.K H O v d->∀{d':D},Rep X.K H O' v d'->d=d'
 |_,_,.non=>λh=>by cases h;rfl
 |_,_,.bl=>λh=>by cases h;rfl
 |_,_,.int=>λh=>by cases h;rfl
 |_,_,.str=>λh=>by cases h;rfl
 |_,_,.tup h r=>λh'=>by
  rcases zQ h' with⟨_,_,rfl,h2,r2⟩|⟨_,_,rfl,h2,_⟩|⟨rfl,_,h2,x⟩
  ·have e:=I.ab5 h h2;subst e;rw[Reps.inj I r r2]
  ·exact(UQ I h h2).elim
  ·exact(UL I h h2 x).elim
 |_,_,.lst h _ r=>λh'=>by
  rcases zQ h' with⟨_,_,rfl,h2,_⟩|⟨_,_,rfl,h2,r2⟩|⟨rfl,_,h2,x⟩
  ·exact(UQ I h2 h).elim
  ·have e:=I.ab3 h h2;subst e;rw[Reps.inj I r r2]
  ·exact(UY I h h2 x).elim
 |_,_,.dct h x _=>λh'=>by
  rcases zQ h' with⟨_,_,rfl,h2,_⟩|⟨_,_,rfl,h2,_⟩|⟨rfl,_⟩
  ·exact(UL I h2 h x).elim
  ·exact(UY I h2 h x).elim
  ·rfl
theorem Reps.inj (I:Inv X pins σ H s):∀{v:List V} {d:List D},Reps X.K H O v d->∀{d':List D},Reps X.K H O' v d'->d=d'
 |_,_,.nil=>λh=>by cases h;rfl
 |_,_,.cons h t=>λh2=>by
  cases h2 with
  |cons h' t'=>rw[Rep.inj I h h',Reps.inj I t t']
end
def mE (A:Around)(s:Shared)(us ws:List Value)(xs ys:List D):Prop:=∀(j:Nat) (u w:Value),us[j]?=some u->ws[j]?=some w->SeqAt.EqAt A.in1 s u w (lC xs ys j)
def wG (hl:s.heap.IsList l us.toArray)(hb:s.heap.IsList b ws.toArray)(e1:us.length=xs.length)(e2:ws.length=ys.length)(hu:A.units<cLine)(hp:mE A s us ws xs ys):SeqAt.RcAt A s (.ref l) (.ref b) (X0 xs ys)/\SeqAt.RcNeAt A s (.ref l) (.ref b) (!X0 xs ys):=by
 rw[fN];by_cases hsz:xs.length=ys.length
 ·have hz:us.toArray.size=ws.toArray.size:=by simp[e1,e2,hsz]
  have hm:min xs.length ys.length=us.toArray.size:=by simp[e1,hsz]
  have hq:(xs.length==ys.length)=true:=by simp[hsz]
  have he:∀j (h1:j<us.toArray.size) (h2:j<ws.toArray.size),SeqAt.EqAt A.in1 s us.toArray[j] ws.toArray[j] (lC xs ys j):=λj h1 h2=>hp j _ _ (by simp[aAg (show j<us.length by simpa using h1)]) (by simp[aAg (show j<ws.length by simpa using h2)]);rw[hq,Bool.and_true,hm];exact⟨SeqAt.RcAt.lists hl hb hz hu he,SeqAt.RcNeAt.lists hl hb hz hu he⟩
 ·have hz:(us.toArray.size !=ws.toArray.size)=true:=by simp[e1,e2,hsz]
  have hq:(xs.length==ys.length)=false:=by simp[hsz]
  rw[hq,Bool.and_false];exact⟨SeqAt.RcAt.lists_lengths hl hb hz hu,SeqAt.RcNeAt.lists_lengths hl hb hz hu⟩
def jP (hl:IsTup s.heap l us.toArray)(hb:IsTup s.heap b ws.toArray)(e1:us.length=xs.length)(e2:ws.length=ys.length)(hu:A.units<cLine)(hp:mE A s us ws xs ys):SeqAt.RcAt A s (.ref l) (.ref b) (X0 xs ys)/\SeqAt.RcNeAt A s (.ref l) (.ref b) (!X0 xs ys):=by
 rw[fN];have hm:min xs.length ys.length=min us.toArray.size ws.toArray.size:=by simp[e1,e2]
 have hq:(xs.length==ys.length)=(us.toArray.size==ws.toArray.size):=by simp[e1,e2]
 have he:∀j (h1:j<us.toArray.size) (h2:j<ws.toArray.size),SeqAt.EqAt A.in1 s us.toArray[j] ws.toArray[j] (lC xs ys j):=λj h1 h2=>hp j _ _ (by simp[aAg (show j<us.length by simpa using h1)]) (by simp[aAg (show j<ws.length by simpa using h2)]);rw[hq,hm];exact⟨SeqAt.RcAt.tuples hl hb hu he,SeqAt.RcNeAt.tuples hl hb hu he⟩
def v7 (A:Around):A.in1.units=A.units+1:=rfl
mutual
theorem YG (I:Inv X pins σ H s):∀{x y:V} {dx dy:D} {v u:Value} {A:Around},Rep X.K H O x dx->Rep X.K H O' y dy->RelV x v->RelV y u->A.units+E6 dx<cLine->A.units+E6 dy<cLine->SeqAt.EqAt A s v u (w6 dx dy)
 |_,_,_,_,v,u,A,.non,ry,rv,ru,hu,hv=>by
  have ba:A.units<cLine:=by lia
  cases rv;cases ry with
  |dct=>exact absurd hv (by rw[E6];lia)
  |non=>cases ru;exact aDN _
  |bl=>cases ru;simp only[w6];exact SeqAt.EqAt.none_bool _
  |int=>obtain⟨t,rfl⟩:=ru;simp only[w6];exact SeqAt.EqAt.none_int _ _
  |str=>obtain⟨t,rfl⟩:=ru;simp only[w6];exact SeqAt.EqAt.none_str _ _
  |tup h r=>cases ru;obtain⟨_,_,p,_⟩:=I.tuple h;simp only[w6];exact SeqAt.EqAt.none_tuple p ba
  |lst h _ r=>cases ru;obtain⟨_,_,p,_⟩:=I.list h;simp only[w6];exact SeqAt.EqAt.none_list p.isList ba
 |_,_,_,_,v,u,A,.bl,ry,rv,ru,hu,hv=>by
  have ba:A.units<cLine:=by lia
  cases rv;cases ry with
  |dct=>exact absurd hv (by rw[E6];lia)
  |non=>cases ru;simp only[w6];exact SeqAt.EqAt.bool_none _
  |bl=>cases ru;simp only[w6];exact SeqAt.EqAt.bool_bool _ _
  |int=>obtain⟨t,rfl⟩:=ru;simp only[w6];exact SeqAt.EqAt.bool_int _ _ _
  |str=>obtain⟨t,rfl⟩:=ru;simp only[w6];exact SeqAt.EqAt.bool_str _ _ _
  |tup h r=>cases ru;obtain⟨_,_,p,_⟩:=I.tuple h;simp only[w6];exact SeqAt.EqAt.bool_tuple _ p ba
  |lst h _ r=>cases ru;obtain⟨_,_,p,_⟩:=I.list h;simp only[w6];exact SeqAt.EqAt.bool_list _ p.isList ba
 |_,_,_,_,v,u,A,.int,ry,rv,ru,hu,hv=>by
  have ba:A.units<cLine:=by lia
  obtain⟨t1,rfl⟩:=rv;cases ry with
  |dct=>exact absurd hv (by rw[E6];lia)
  |non=>cases ru;simp only[w6];exact SeqAt.EqAt.int_none _ _
  |bl=>cases ru;simp only[w6];exact SeqAt.EqAt.int_bool _ _ _
  |int=>obtain⟨t,rfl⟩:=ru;simp only[w6];exact aEL _ _ _ _
  |str=>obtain⟨t,rfl⟩:=ru;simp only[w6];exact aGd _ _ _ _
  |tup h r=>cases ru;obtain⟨_,_,p,_⟩:=I.tuple h;simp only[w6];exact aFL _ _ p ba
  |lst h _ r=>cases ru;obtain⟨_,_,p,_⟩:=I.list h;simp only[w6];exact SeqAt.EqAt.int_list _ _ p.isList ba
 |_,_,_,_,v,u,A,.str,ry,rv,ru,hu,hv=>by
  have ba:A.units<cLine:=by lia
  obtain⟨t1,rfl⟩:=rv;cases ry with
  |dct=>exact absurd hv (by rw[E6];lia)
  |non=>cases ru;simp only[w6];exact SeqAt.EqAt.str_none _ _
  |bl=>cases ru;simp only[w6];exact SeqAt.EqAt.str_bool _ _ _
  |int=>obtain⟨t,rfl⟩:=ru;simp only[w6];exact aGe _ _ _ _
  |str=>obtain⟨t,rfl⟩:=ru;simp only[w6];exact SeqAt.EqAt.str_str _ _ _ _
  |tup h r=>cases ru;obtain⟨_,_,p,_⟩:=I.tuple h;simp only[w6];exact SeqAt.EqAt.str_tuple _ _ p ba
  |lst h _ r=>cases ru;obtain⟨_,_,p,_⟩:=I.list h;simp only[w6];exact SeqAt.EqAt.str_list _ _ p.isList ba
 |_,_,_,_,v,u,A,.tup (a:=a) (vs:=vs) (ds:=ds) h r,ry,rv,ru,hu,hv=>by
  have ba:A.units<cLine:=by lia
  cases rv;obtain⟨its,rr,p,_⟩:=I.tuple h;cases ry with
  |dct=>exact absurd hv (by rw[E6];lia)
  |non=>cases ru;simp only[w6];exact SeqAt.EqAt.tuple_none p ba
  |bl=>cases ru;simp only[w6];exact SeqAt.EqAt.tuple_bool _ p ba
  |int=>obtain⟨t,rfl⟩:=ru;simp only[w6];exact aFM _ _ p ba
  |str=>obtain⟨t,rfl⟩:=ru;simp only[w6];exact SeqAt.EqAt.tuple_str _ _ p ba
  |@tup a' gu bh h' r'=>
   cases ru;obtain⟨its',lu,p',_⟩:=I.tuple h';by_cases e:a=a'
   ·subst e;have e2:=I.ab5 h h';subst e2;have e3:=Reps.inj I r r';subst e3;rw[V0];exact aDN _
   ·simp only[w6];refine aEM e (jP p p' (by rw[<-rr.length,r.length]) (by rw[<-lu.length,r'.length]) ba<|gN I r r' rr lu ?_ ?_).1
    ·rw[E6]at hu;rw[v7];lia
    ·rw[E6]at hv;rw[v7];lia
  |lst h' _ r'=>cases ru;obtain⟨_,_,p',_⟩:=I.list h';simp only[w6];exact SeqAt.EqAt.tuple_list p p'.isList ba
 |_,_,_,_,v,u,A,.lst (a:=a) (vs:=vs) (ds:=ds) h nO r,ry,rv,ru,hu,hv=>by
  have ba:A.units<cLine:=by lia
  cases rv;obtain⟨its,rr,p,_⟩:=I.list h;cases ry with
  |dct=>exact absurd hv (by rw[E6];lia)
  |non=>cases ru;simp only[w6];exact SeqAt.EqAt.list_none p.isList ba
  |bl=>cases ru;simp only[w6];exact SeqAt.EqAt.list_bool _ p.isList ba
  |int=>obtain⟨t,rfl⟩:=ru;simp only[w6];exact SeqAt.EqAt.list_int _ _ p.isList ba
  |str=>obtain⟨t,rfl⟩:=ru;simp only[w6];exact SeqAt.EqAt.list_str _ _ p.isList ba
  |tup h' r'=>cases ru;obtain⟨_,_,p',_⟩:=I.tuple h';simp only[w6];exact SeqAt.EqAt.list_tuple p.isList p' ba
  |@lst a' gu bh h' nO' r'=>
   cases ru;obtain⟨its',lu,p',_⟩:=I.list h';by_cases e:a=a'
   ·subst e;have e2:=I.ab3 h h';subst e2;have e3:=Reps.inj I r r';subst e3;rw[V0];exact aDN _
   ·simp only[w6];refine aEM e (wG p.isList p'.isList (by rw[<-rr.length,r.length]) (by rw[<-lu.length,r'.length]) ba<|gN I r r' rr lu ?_ ?_).1
    ·rw[E6]at hu;rw[v7];lia
    ·rw[E6]at hv;rw[v7];lia
 |_,_,_,_,v,u,A,.dct ..,ry,rv,ru,hu,hv=>absurd hu (by rw[E6];lia)
theorem gN (I:Inv X pins σ H s):∀{vs ws:List V} {xs ys:List D} {us ts:List Value} {A:Around},Reps X.K H O vs xs->Reps X.K H O' ws ys->n8 vs us->n8 ws ts->A.in1.units+J7 xs<cLine->A.in1.units+J7 ys<cLine->mE A s us ts xs ys
 |_,_,_,_,us,ts,A,.nil,ry,rv,ru,hu,hv=>λj u w h1 h2=>by cases rv;simp at h1
 |_,_,_,_,us,ts,A,.cons h t,.nil,rv,ru,hu,hv=>λj u w h1 h2=>by cases ru;simp at h2
 |_,_,_,_,us,ts,A,.cons (d:=d) (ds:=ds) h t,.cons (d:=d') (ds:=bh) h' t',rv,ru,hu,hv=>λj u w h1 h2=>by
  cases rv with
  |cons r1 r2=>
   cases ru with
   |cons r1' r2'=>
    rw[J7]at hu hv;cases j with
    |zero=>simp only[aCU,aGn]at h1 h2;subst h1 h2;exact YG I h h' r1 r1' (by lia) (by lia)
    |succ j=>simp only[aCV]at h1 h2;have q:=gN I (A:=A) t t' r2 r2' (by lia) (by lia) j u w h1 h2;exact q
end
def bz (I:Inv X pins σ H s)(r1:A9 X.K H O x dx)(r2:A9 X.K H O' y dy)(rv:RelV x v)(ru:RelV y u)(hu:A.units+E6 dx<cLine)(hv:A.units+E6 dy<cLine):
  SeqAt.RcAt A s v u (w6 dx dy)/\SeqAt.RcNeAt A s v u (!w6 dx dy):=by
 have ba:A.units<cLine:=by lia
 cases dx with
 |dct=>exact absurd hu (by rw[E6];lia)
 |non=>
  cases r1.ac0;cases rv;cases dy with
  |dct=>exact absurd hv (by rw[E6];lia)
  |non=>cases r2.ac0;cases ru;simp only[w6];exact⟨SeqAt.RcAt.none_none,SeqAt.RcNeAt.none_none⟩
  |bl=>cases r2.blI;cases ru;simp only[w6];exact⟨SeqAt.RcAt.none_bool _,SeqAt.RcNeAt.none_bool _⟩
  |int=>cases r2.aa6;obtain⟨t,rfl⟩:=ru;simp only[w6];exact⟨SeqAt.RcAt.none_int _ _,SeqAt.RcNeAt.none_int _ _⟩
  |str=>cases r2.ac5;obtain⟨t,rfl⟩:=ru;simp only[w6];exact⟨SeqAt.RcAt.none_str _ _,SeqAt.RcNeAt.none_str _ _⟩
  |tup ys=>obtain⟨a,vs,rfl,h,r⟩:=r2.tupI;cases ru;obtain⟨_,_,p,_⟩:=I.tuple h;simp only[w6];exact⟨SeqAt.RcAt.none_tuple p ba,SeqAt.RcNeAt.none_tuple p ba⟩
  |lst ys=>obtain⟨a,vs,rfl,h,r⟩:=r2.aa5;cases ru;obtain⟨_,_,p,_⟩:=I.list h;simp only[w6];exact⟨SeqAt.RcAt.none_list p.isList ba,SeqAt.RcNeAt.none_list p.isList ba⟩
 |bl=>
  cases r1.blI;cases rv;cases dy with
  |dct=>exact absurd hv (by rw[E6];lia)
  |non=>cases r2.ac0;cases ru;simp only[w6];exact⟨SeqAt.RcAt.bool_none _,SeqAt.RcNeAt.bool_none _⟩
  |bl=>cases r2.blI;cases ru;simp only[w6];exact⟨SeqAt.RcAt.bool_bool _ _,SeqAt.RcNeAt.bool_bool _ _⟩
  |int=>cases r2.aa6;obtain⟨t,rfl⟩:=ru;simp only[w6];exact⟨SeqAt.RcAt.bool_int _ _ _,SeqAt.RcNeAt.bool_int _ _ _⟩
  |str=>cases r2.ac5;obtain⟨t,rfl⟩:=ru;simp only[w6];exact⟨SeqAt.RcAt.bool_str _ _ _,SeqAt.RcNeAt.bool_str _ _ _⟩
  |tup ys=>obtain⟨a,vs,rfl,h,r⟩:=r2.tupI;cases ru;obtain⟨_,_,p,_⟩:=I.tuple h;simp only[w6];exact⟨SeqAt.RcAt.bool_tuple _ p ba,SeqAt.RcNeAt.bool_tuple _ p ba⟩
  |lst ys=>obtain⟨a,vs,rfl,h,r⟩:=r2.aa5;cases ru;obtain⟨_,_,p,_⟩:=I.list h;simp only[w6];exact⟨SeqAt.RcAt.bool_list _ p.isList ba,SeqAt.RcNeAt.bool_list _ p.isList ba⟩
 |int=>
  cases r1.aa6;obtain⟨t1,rfl⟩:=rv;cases dy with
  |dct=>exact absurd hv (by rw[E6];lia)
  |non=>cases r2.ac0;cases ru;simp only[w6];exact⟨SeqAt.RcAt.int_none _ _,SeqAt.RcNeAt.int_none _ _⟩
  |bl=>cases r2.blI;cases ru;simp only[w6];exact⟨SeqAt.RcAt.int_bool _ _ _,SeqAt.RcNeAt.int_bool _ _ _⟩
  |int=>cases r2.aa6;obtain⟨t,rfl⟩:=ru;simp only[w6];exact⟨SeqAt.RcAt.int_int _ _ _ _,SeqAt.RcNeAt.int_int _ _ _ _⟩
  |str=>cases r2.ac5;obtain⟨t,rfl⟩:=ru;simp only[w6];exact⟨SeqAt.RcAt.int_str _ _ _ _,SeqAt.RcNeAt.int_str _ _ _ _⟩
  |tup ys=>obtain⟨a,vs,rfl,h,r⟩:=r2.tupI;cases ru;obtain⟨_,_,p,_⟩:=I.tuple h;simp only[w6];exact⟨SeqAt.RcAt.int_tuple _ _ p ba,SeqAt.RcNeAt.int_tuple _ _ p ba⟩
  |lst ys=>obtain⟨a,vs,rfl,h,r⟩:=r2.aa5;cases ru;obtain⟨_,_,p,_⟩:=I.list h;simp only[w6];exact⟨SeqAt.RcAt.int_list _ _ p.isList ba,SeqAt.RcNeAt.int_list _ _ p.isList ba⟩
 |str=>
  cases r1.ac5;obtain⟨t1,rfl⟩:=rv;cases dy with
  |dct=>exact absurd hv (by rw[E6];lia)
  |non=>cases r2.ac0;cases ru;simp only[w6];exact⟨SeqAt.RcAt.str_none _ _,SeqAt.RcNeAt.str_none _ _⟩
  |bl=>cases r2.blI;cases ru;simp only[w6];exact⟨SeqAt.RcAt.str_bool _ _ _,SeqAt.RcNeAt.str_bool _ _ _⟩
  |int=>cases r2.aa6;obtain⟨t,rfl⟩:=ru;simp only[w6];exact⟨SeqAt.RcAt.str_int _ _ _ _,SeqAt.RcNeAt.str_int _ _ _ _⟩
  |str=>cases r2.ac5;obtain⟨t,rfl⟩:=ru;simp only[w6];exact⟨SeqAt.RcAt.str_str _ _ _ _,SeqAt.RcNeAt.str_str _ _ _ _⟩
  |tup ys=>obtain⟨a,vs,rfl,h,r⟩:=r2.tupI;cases ru;obtain⟨_,_,p,_⟩:=I.tuple h;simp only[w6];exact⟨SeqAt.RcAt.str_tuple _ _ p ba,SeqAt.RcNeAt.str_tuple _ _ p ba⟩
  |lst ys=>obtain⟨a,vs,rfl,h,r⟩:=r2.aa5;cases ru;obtain⟨_,_,p,_⟩:=I.list h;simp only[w6];exact⟨SeqAt.RcAt.str_list _ _ p.isList ba,SeqAt.RcNeAt.str_list _ _ p.isList ba⟩
 |tup xs=>
  obtain⟨a,vs,rfl,h,r⟩:=r1.tupI;cases rv;obtain⟨its,rr,p,_⟩:=I.tuple h;cases dy with
  |dct=>exact absurd hv (by rw[E6];lia)
  |non=>cases r2.ac0;cases ru;simp only[w6];exact⟨SeqAt.RcAt.tuple_none p ba,SeqAt.RcNeAt.tuple_none p ba⟩
  |bl=>cases r2.blI;cases ru;simp only[w6];exact⟨SeqAt.RcAt.tuple_bool _ p ba,SeqAt.RcNeAt.tuple_bool _ p ba⟩
  |int=>cases r2.aa6;obtain⟨t,rfl⟩:=ru;simp only[w6];exact⟨SeqAt.RcAt.tuple_int _ _ p ba,SeqAt.RcNeAt.tuple_int _ _ p ba⟩
  |str=>cases r2.ac5;obtain⟨t,rfl⟩:=ru;simp only[w6];exact⟨SeqAt.RcAt.tuple_str _ _ p ba,SeqAt.RcNeAt.tuple_str _ _ p ba⟩
  |tup ys=>
   obtain⟨a',gu,rfl,h',r'⟩:=r2.tupI;cases ru;obtain⟨its',lu,p',_⟩:=I.tuple h';simp only[w6];refine jP p p' (by rw[<-rr.length,r.length]) (by rw[<-lu.length,r'.length]) ba (gN I r r' rr lu ?_ ?_)
   ·rw[E6]at hu;rw[v7];lia
   ·rw[E6]at hv;rw[v7];lia
  |lst ys=>obtain⟨a',gu,rfl,h',r'⟩:=r2.aa5;cases ru;obtain⟨_,_,p',_⟩:=I.list h';simp only[w6];exact⟨SeqAt.RcAt.tuple_list p p'.isList ba,SeqAt.RcNeAt.tuple_list p p'.isList ba⟩
 |lst xs=>
  obtain⟨a,vs,rfl,h,r⟩:=r1.aa5;cases rv;obtain⟨its,rr,p,_⟩:=I.list h;cases dy with
  |dct=>exact absurd hv (by rw[E6];lia)
  |non=>cases r2.ac0;cases ru;simp only[w6];exact⟨SeqAt.RcAt.list_none p.isList ba,SeqAt.RcNeAt.list_none p.isList ba⟩
  |bl=>cases r2.blI;cases ru;simp only[w6];exact⟨SeqAt.RcAt.list_bool _ p.isList ba,SeqAt.RcNeAt.list_bool _ p.isList ba⟩
  |int=>cases r2.aa6;obtain⟨t,rfl⟩:=ru;simp only[w6];exact⟨SeqAt.RcAt.list_int _ _ p.isList ba,SeqAt.RcNeAt.list_int _ _ p.isList ba⟩
  |str=>cases r2.ac5;obtain⟨t,rfl⟩:=ru;simp only[w6];exact⟨SeqAt.RcAt.list_str _ _ p.isList ba,SeqAt.RcNeAt.list_str _ _ p.isList ba⟩
  |tup ys=>obtain⟨a',gu,rfl,h',r'⟩:=r2.tupI;cases ru;obtain⟨_,_,p',_⟩:=I.tuple h';simp only[w6];exact⟨SeqAt.RcAt.list_tuple p.isList p' ba,SeqAt.RcNeAt.list_tuple p.isList p' ba⟩
  |lst ys=>
   obtain⟨a',gu,rfl,h',r'⟩:=r2.aa5;cases ru;obtain⟨its',lu,p',_⟩:=I.list h';simp only[w6];refine wG p.isList p'.isList (by rw[<-rr.length,r.length]) (by rw[<-lu.length,r'.length]) ba (gN I r r' rr lu ?_ ?_)
   ·rw[E6]at hu;rw[v7];lia
   ·rw[E6]at hv;rw[v7];lia
end
def UG (x y:D):R D:=if E6 x<=40/\E6 y<=40 then .ok (.bl (w6 x y))else .bad
def HD (x y:D):R D:=if E6 x<=40/\E6 y<=40 then .ok (.bl (!w6 x y))else .bad
section
def N6 (hu:X.A.units+64<cLine):mB X (compareOp .Eq) UG:=by
 intro H O x y dx dy Q fr r1 r2 q;unfold UG at q;split at q
 ·rename_i hd;refine⟨λx' y' H' Q'=>x'=x/\y'=y/\H'=H/\Q' (.bl (w6 dx dy)) H,?_,rfl,rfl,rfl,q _ H (Same.refl _) .bl⟩;intro pins s σ H' x' y' v u Q' I rx ry ⟨e1,e2,e3,q'⟩;subst e1 e2 e3;exact(bz I (A:=X.A) r1 r2 rx ry (by lia) (by lia)).1 _ _ _ _ ⟨.bl _,_,I,rfl,q'⟩
 ·exact q.elim
def lJ (hu:X.A.units+64<cLine):mB X (compareOp .NotEq) HD:=by
 intro H O x y dx dy Q fr r1 r2 q;unfold HD at q;split at q
 ·rename_i hd;refine⟨λx' y' H' Q'=>x'=x/\y'=y/\H'=H/\Q' (.bl (!w6 dx dy)) H,?_,rfl,rfl,rfl,q _ H (Same.refl _) .bl⟩;intro pins s σ H' x' y' v u Q' I rx ry ⟨e1,e2,e3,q'⟩;subst e1 e2 e3;exact(bz I (A:=X.A) r1 r2 rx ry (by lia) (by lia)).2 _ _ _ _ ⟨.bl _,_,I,rfl,q'⟩
 ·exact q.elim
end
def kF:D->D->R D
 |.int a,.int b=>.ok (.int (a+b))
 |.lst a,.lst b=>if a.length+b.length<=sizeLine then .ok (.lst (a++b))else .bad
 |.tup [],.tup b=>.ok (.tup b)
 |.tup (x::a),.tup []=>if(x::a).length<=sizeLine then .ok (.tup (x::a))else .bad
 |.tup (x::a),.tup (y::b)=>if(x::a).length+(y::b).length<=sizeLine then .ok (.tup ((x::a)++(y::b)))else .bad
 |_,_=>.bad
def HK:D->D->R D
 |.int a,.int b=>.ok (.int (a-b))
 |_,_=>.bad
def k8 (a b:Int):Prop:=aAT a<=60000000/\aAT b<=60000000
instance(a b:Int):Decidable (k8 a b):=inferInstanceAs (Decidable<|_/\_)
def J3:D->D->R D
 |.int a,.int b=>if k8 a b then .ok (.int (a*b))else .bad
 |_,_=>.bad
def qX (b:Int):Prop:=b≠0/\aAT b<=9000
instance(b:Int):Decidable (qX b):=inferInstanceAs (Decidable<|_/\_)
def M6:D->D->R D
 |.int a,.int b=>if qX b then .ok (.int (a.fdiv b))else .bad
 |_,_=>.bad
def M9:D->D->R D
 |.int a,.int b=>if b≠0 then .ok (.int (a.fmod b))else .bad
 |_,_=>.bad
def BR:D->D->R D
 |.int a,.int b=>if 0<=b/\b<=1000000/\a.natAbs<2^64 then .ok (.int (a^b.toNat))else .bad
 |_,_=>.bad
def mj:D->D->R D
 |.int a,.int b=>.ok (.bl (decide (a<b)))
 |_,_=>.bad
def cz:D->D->R D
 |.int a,.int b=>.ok (.bl (decide (a<=b)))
 |_,_=>.bad
def WI:D->D->R D
 |.int a,.int b=>.ok (.bl (decide (b<a)))
 |_,_=>.bad
def GA (h0:b≠0)(h:aAT b<=n):b.natAbs.log2<n:=by
 unfold aAT at h;split at h
 ·rename_i z;exact absurd (by simpa using z) h0
 ·omega
def JC (h:k8 a b):IntMulOk a b:=mulOk_of_bits (m:=60000000) (n:=60000000) h.1 h.2 (by decide)
section
def mB.aa7 {f:Value->Value->Sem Value}{g:D->D->R D}{C:Int->Int->Prop}{w:Int->Int->V}{dw:Int->Int->D}(hr:lZ X f (rI C w))(hg:∀dx dy d,g dx dy=.ok d->∃i j,dx=.int i/\dy=.int j/\C i j/\d=dw i j)
  (hb:∀dx dy e,g dx dy≠.ex e) (hw:∀K H O i j,Rep K H O (w i j) (dw i j)):mB X f g:=by
 intro H O x y dx dy Q fr r1 r2 q;cases e:g dx dy with
 |ok d=>rw[e]at q;obtain⟨i,j,rfl,rfl,hc,rfl⟩:=hg dx dy d e;cases r1.aa6;cases r2.aa6;exact⟨_,hr,i,j,rfl,rfl,hc,q _ H (Same.refl _) (hw _ _ _ _ _)⟩
 |ex x=>exact absurd e (hb _ _ _)
 |bad=>rw[e]at q;exact q.elim
def lZ.c0 (h:lZ X f (TW w)):lZ X f (rI (λ_ _=>True) w):=λpins s σ H x y v u Q I rx ry ⟨i,j,e1,e2,_,q⟩=>h pins s σ H x y v u Q I rx ry ⟨i,j,e1,e2,q⟩
def t6:mB X (binaryOp .Sub) HK:=mB.aa7 (dw:=λi j=>.int (i-j)) (lZ.c0 WD) (λdx dy d h=>by cases dx<;>cases dy<;>simp only[HK,R.ok.injEq,reduceCtorEq]at h;exact⟨_,_,rfl,rfl,trivial,h.symm⟩) (λdx dy e h=>by cases dx<;>cases dy<;>simp only[HK,reduceCtorEq]at h) λ_ _ _ _ _=>.int
def yS:mB X (compareOp .Lt) mj:=mB.aa7 (dw:=λi j=>.bl (decide (i<j))) (lZ.c0 gy) (λdx dy d h=>by cases dx<;>cases dy<;>simp only[mj,R.ok.injEq,reduceCtorEq]at h;exact⟨_,_,rfl,rfl,trivial,h.symm⟩) (λdx dy e h=>by cases dx<;>cases dy<;>simp only[mj,reduceCtorEq]at h) λ_ _ _ _ _=>.bl
def aq:mB X (compareOp .LtE) cz:=mB.aa7 (dw:=λi j=>.bl (decide (i<=j))) (lZ.c0 bq) (λdx dy d h=>by cases dx<;>cases dy<;>simp only[cz,R.ok.injEq,reduceCtorEq]at h;exact⟨_,_,rfl,rfl,trivial,h.symm⟩) (λdx dy e h=>by cases dx<;>cases dy<;>simp only[cz,reduceCtorEq]at h) λ_ _ _ _ _=>.bl
def kW:mB X (compareOp .Gt) WI:=mB.aa7 (dw:=λi j=>.bl (decide (j<i))) (lZ.c0 ZZ) (λdx dy d h=>by cases dx<;>cases dy<;>simp only[WI,R.ok.injEq,reduceCtorEq]at h;exact⟨_,_,rfl,rfl,trivial,h.symm⟩) (λdx dy e h=>by cases dx<;>cases dy<;>simp only[WI,reduceCtorEq]at h) λ_ _ _ _ _=>.bl
def JH:lZ X (binaryOp .FloorDiv) (rI (λ_ j=>qX j) λi j=>.int (i.fdiv j)):=jw λ_ _ _ _ _ _ _ hc q=>floordiv_int hc.1 q (.inl (PyProof.noPylong_of_log2<|GA hc.1 hc.2))
def p7:mB X (binaryOp .FloorDiv) M6:=mB.aa7 (dw:=λi j=>.int (i.fdiv j)) JH (λdx dy d h=>by
 cases dx<;>cases dy<;>simp only[M6,reduceCtorEq]at h;split at h
 ·rename_i hc;cases h;exact⟨_,_,rfl,rfl,hc,rfl⟩
 ·cases h) (λdx dy e h=>by
  cases dx<;>cases dy<;>simp only[M6,reduceCtorEq]at h;split at h<;>cases h) λ_ _ _ _ _=>.int
def u8:mB X (binaryOp .Mod) M9:=mB.aa7 (dw:=λi j=>.int (i.fmod j)) SR (λdx dy d h=>by
 cases dx<;>cases dy<;>simp only[M9,reduceCtorEq]at h;split at h
 ·rename_i hc;cases h;exact⟨_,_,rfl,rfl,hc,rfl⟩
 ·cases h) (λdx dy e h=>by
  cases dx<;>cases dy<;>simp only[M9,reduceCtorEq]at h;split at h<;>cases h) λ_ _ _ _ _=>.int
def bK:mB X (binaryOp .Pow) BR:=mB.aa7 (dw:=λi j=>.int (i^j.toNat)) XN (λdx dy d h=>by
 cases dx<;>cases dy<;>simp only[BR,reduceCtorEq]at h;split at h
 ·rename_i hc;cases h;exact⟨_,_,rfl,rfl,hc,rfl⟩
 ·cases h) (λdx dy e h=>by
  cases dx<;>cases dy<;>simp only[BR,reduceCtorEq]at h;split at h<;>cases h) λ_ _ _ _ _=>.int
def QC:lZ X (binaryOp .Mult) (rI k8 λi j=>.int (i*j)):=jw λ_ _ _ _ _ _ _ hc q=>mul_int q (JC hc)
def k5:mB X (binaryOp .Mult) J3:=mB.aa7 (dw:=λi j=>.int (i*j)) QC (λdx dy d h=>by
 cases dx<;>cases dy<;>simp only[J3,reduceCtorEq]at h;split at h
 ·rename_i hc;cases h;exact⟨_,_,rfl,rfl,hc,rfl⟩
 ·cases h) (λdx dy e h=>by
  cases dx<;>cases dy<;>simp only[J3,reduceCtorEq]at h;split at h<;>cases h) λ_ _ _ _ _=>.int
def SG:lZ X (binaryOp .Add) (λx y H Q=>∃l b xs zs,x=.ref l/\y=.ref b/\N8 X.K H l xs/\N8 X.K H b zs/\xs.length+zs.length<=sizeLine/\∀p,H p=none->Q (.ref p) (upd H p (.lst (xs++zs)))):=by
 intro pins s σ H x y v u Q I rx ry h;obtain⟨l,b,xs,zs,rfl,rfl,hH,hB,hz,q⟩:=h;cases rx;cases ry;obtain⟨its,r,p,_⟩:=I.list hH;obtain⟨vc,r2,p2,_⟩:=I.list hB;obtain⟨⟨cls,dd,data,sl⟩,ho,hc,n,hd⟩:=p.isList;obtain⟨⟨cls2,xl,data2,xm⟩,jv,jm,n2,hd2⟩:=p2.isList;simp only at hc hd jm hd2;subst hc hd jm hd2;have hsz:its.toArray.size+vc.toArray.size<=sizeLine:=by rw[aAq,aAq,<-r.length,<-r2.length];exact hz
 have ea:its.toArray++vc.toArray=(its++vc).toArray:=by simp
 refine aFz ⟨_,ho,rfl⟩ ⟨_,jv,rfl⟩ noFill_list_add seq_list_add PySem.F.slot_list_add PySem.F.entry_list_add (PySem.F.args_list_add_2 _ _) (list_addW l b its.toArray vc.toArray n n2 dd xl sl xm hsz) ⟨ho,jv,?_⟩;rw[ea];exact⟨.ref _,_,I.ag2 (t':=s.toks) (r.append r2) (by rw[aAN];omega),rfl,q _ I.fresh⟩
def LH:lZ X (binaryOp .Add) (λx y H Q=>∃a b ys,x=.ref a/\y=.ref b/\W2 X.K H a []/\W2 X.K H b ys/\Q (.ref b) H):=by intro pins s σ H x y v u Q I rx ry h;obtain⟨t,b,ys,rfl,rfl,ha,hb,q⟩:=h;cases rx;cases ry;obtain⟨its,r1,p1,_⟩:=I.tuple ha;obtain⟨ws,r2,p2,_⟩:=I.tuple hb;cases r1;obtain⟨⟨cls,dd,data,sl⟩,ho,hc,n,hd⟩:=p1;obtain⟨⟨cls2,xl,data2,xm⟩,jv,jm,n2,hd2⟩:=p2;simp only at hc hd jm hd2;subst hc hd jm hd2;exact aFz ⟨_,ho,rfl⟩ ⟨_,jv,rfl⟩ aFn seq_tuple_add PySem.F.slot_tuple_add PySem.F.entry_tuple_add (PySem.F.args_tuple_add_2 _ _) (tuple_addW0 t b _ _ n n2 dd xl sl xm (by simp)) ⟨ho,jv,.ref b,H,I,rfl,q⟩
def l7:mB X (binaryOp .Add) kF:=by
 intro H O x y dx dy Q fr r1 r2 q;cases dx with
 |int i=>
  cases dy with
  |int j=>cases r1.aa6;cases r2.aa6;exact⟨_,VG,i,j,rfl,rfl,q _ H (Same.refl _) .int⟩
  |_=>exact aAm q
 |lst a=>
  cases dy with
  |lst b=>
   simp only[kF]at q;split at q
   ·rename_i hz;obtain⟨l,vs,rfl,h1,h2⟩:=r1.aa5;obtain⟨l',gu,rfl,xo,xp⟩:=r2.aa5;exact⟨_,SG,l,l',vs,gu,rfl,rfl,h1,xo,by rw[h2.length,xp.length];exact hz,λp hp=>q _ _ (j7 hp _) (.lst (N8.of j6) (fr p hp) ((h2.append xp).same (j7 hp _)))⟩
   ·exact q.elim
  |_=>exact aAm q
 |tup a=>
  cases dy with
  |tup b=>
   cases a with
   |nil=>obtain⟨l,vs,rfl,h1,h2⟩:=r1.tupI;obtain⟨l',gu,rfl,xo,xp⟩:=r2.tupI;cases h2;exact⟨_,LH,l,l',gu,rfl,rfl,h1,xo,q _ H (Same.refl _) (.tup xo xp)⟩
   |cons x a=>
    cases b with
    |nil=>
     obtain⟨l,vs,rfl,h1,h2⟩:=r1.tupI;obtain⟨l',gu,rfl,xo,xp⟩:=r2.tupI;cases xp;have n1:vs≠[]:=λz=>by subst z;have:=h2.length;simp at this
     simp only[kF]at q;split at q
     ·rename_i hz;exact⟨_,EX,l,l',vs,[],rfl,rfl,h1,xo,n1,by rw[h2.length];exact hz,λ_=>q _ H (Same.refl _) (.tup h1 h2),λz=>absurd rfl z⟩
     ·exact q.elim
    |cons y b=>
     simp only[kF]at q;split at q
     ·rename_i hz;obtain⟨l,vs,rfl,h1,h2⟩:=r1.tupI;obtain⟨l',gu,rfl,xo,xp⟩:=r2.tupI;have n1:vs≠[]:=λz=>by subst z;have:=h2.length;simp at this
      have n2:gu≠[]:=λz=>by subst z;have:=xp.length;simp at this
      exact⟨_,EX,l,l',vs,gu,rfl,rfl,h1,xo,n1,by rw[h2.length,xp.length];exact hz,λz=>absurd z n2,λ_ p hp=>q _ _ (j7 hp _) (.tup (W2.of j6) ((h2.append xp).same (j7 hp _)))⟩
     ·exact q.elim
  |_=>cases a<;>exact aAm q
 |_=>exact aAm q
def L3 (x y:D):R D:=match x,y with
 |.lst xs,.int i=>match lS xs i with|some d=>.ok d|none=>.bad
 |.tup xs,.int i=>match lS xs i with|some d=>.ok d|none=>.bad
 |_,_=>.bad
def yK {K:PySem.W.Frag}{H:Hp}{O:Addr->Prop}{vs:List V}{ds:List D}{i:Int}{d:D}(r:Reps K H O vs ds)(h:lS ds i=some d):∃v,lS vs i=some v/\Rep K H O v d:=by
 unfold lS at h⊢;rw[r.length];cases e:yY ds.length i with
 |none=>rw[e]at h;cases h
 |some j=>rw[e]at h;exact r.get h
def f6 (ha:PB X a f)(hb:PD X b g)(hs:TM b:=by exactλ_ _=>rfl):PD X (.Subscript a b pos) (λρ=>(f ρ).bind λx=>(g ρ).bind λy=>L3 x y):=by
 refine vU λpins s σ H Q I H9 O0 O ρ E q=>?_;refine Subscript_ (MQ ha hb.pb I (mG E q) λv u s2 x y H2 I2 rx ry h=>?_);obtain⟨dx,dy,fr,r1,r2,q⟩:=h;cases dy with
 |int i=>
  cases r2.aa6;cases dx with
  |lst xs=>
   simp only[L3]at q;cases e:lS xs i with
   |none=>rw[e]at q;exact q.elim
   |some d=>rw[e]at q;obtain⟨p,vs,rfl,h1,h2⟩:=r1.aa5;obtain⟨w,h3,h4⟩:=yK h2 e;exact RX a b pins s2 σ H2 _ _ v u Q I2 rx ry ⟨p,vs,i,w,rfl,rfl,h1,h3,q w H2 (Same.refl _) h4⟩ (hs _ _)
  |tup xs=>
   simp only[L3]at q;cases e:lS xs i with
   |none=>rw[e]at q;exact q.elim
   |some d=>rw[e]at q;obtain⟨p,vs,rfl,h1,h2⟩:=r1.tupI;obtain⟨w,h3,h4⟩:=yK h2 e;exact XT a b pins s2 σ H2 _ _ v u Q I2 rx ry ⟨p,vs,i,w,rfl,rfl,h1,h3,q w H2 (Same.refl _) h4⟩ (hs _ _)
  |_=>exact aAm q
 |_=>cases dx<;>exact aAm q
def cutD (xs:List D)(lo hi:Option Int):List D:=(xs.drop<|HT.sIx xs.length 0 lo).take (HT.sIx xs.length xs.length hi-HT.sIx xs.length 0 lo)
def rP {K:PySem.W.Frag}{H:Hp}{O:Addr->Prop}{vs:List V}{ds:List D}{lo hi:Option Int}(r:Reps K H O vs ds):Reps K H O (xQ vs lo hi) (cutD ds lo hi):=by unfold xQ cutD;rw[r.length];exact(r.drop _).take _
def iy (X:Cx)(e:Option Expr)(f:Ev->R (Option Int)):Prop:=PO X e λσ H Q=>∃H9 O0 O ρ,EnvOk X.K H9 O0 H O σ ρ/\match f ρ with
 |.ok o=>∀H',Same H H'->Q o H'
 |.ex e=>∀H',Same H H'->XW X e H'
 |.bad=>False
def toI:D->R (Option Int)
 |.int i=>.ok (some i)
 |_=>.bad
def cT:iy X none (λ_=>.ok none):=λpins s σ H Q I ⟨H9,O0,O,ρ,E,q⟩=>QK pins s σ H Q I (q H<|Same.refl _)
def V4 (h:PD X e f):iy X (some e) (λρ=>(f ρ).bind toI):=λpins s σ H Q I ⟨H9,O0,O,ρ,E,q⟩=>RL h pins s σ H Q I ⟨H9,O0,O,ρ,E,by
 dsimp only at q;cases e:f ρ with
 |ok d=>
  rw[e]at q;cases d with
  |int i=>exactλv H1 s1 r1=>by cases r1;exact⟨i,rfl,q H1 s1⟩
  |_=>exact aAm q
 |ex x=>rw[e]at q;exact q
 |bad=>rw[e]at q;exact q⟩
def NF (x:D)(lo hi:Option Int):R D:=match x with
 |.lst xs=>.ok (.lst (cutD xs lo hi))
 |.tup xs=>if HT.sIx xs.length 0 lo=0/\HT.sIx xs.length xs.length hi=xs.length then .bad else .ok (.tup (cutD xs lo hi))
 |_=>.bad
def sE {lo hi:Option Expr}{p2:Pos}{fl fh:Ev->R (Option Int)}(he:PB X a f)(hl:iy X lo fl)(hu:iy X hi fh):
  PD X (.Subscript a (.Slice lo hi none p2) pos) (λρ=>(f ρ).bind λx=>(fl ρ).bind λl=>(fh ρ).bind λh=>NF x l h):=by
 refine vU λpins s σ H Q I H9 O0 O ρ E q=>?_;have fin:∀x d l h H',A9 X.K H' O x d->(∀p,H' p=none->¬O p)->RC X H' O (NF d l h) Q->cx X.K x l h H' Q\/bx X.K x l h H' Q:=λx d l h H' r fr q=>by
  cases d with
  |lst xs=>obtain⟨p,vs,rfl,h1,h2⟩:=r.aa5;exact .inl ⟨p,vs,rfl,h1,λp hp=>q _ _ (j7 hp _) (.lst (N8.of j6) (fr p hp) ((rP h2).same (j7 hp _)))⟩
  |tup xs=>
   obtain⟨p,vs,rfl,h1,h2⟩:=r.tupI;simp only[NF]at q;split at q
   ·exact q.elim
   ·rename_i hn;exact .inr ⟨p,vs,rfl,h1,by rw[h2.length];exact hn,λp hp=>q _ _ (j7 hp _) (.tup (W2.of j6) ((rP h2).same (j7 hp _)))⟩
  |_=>exact aAm q
 refine OP (QG.or WW) he hl hu pins s σ H Q I ⟨H9,O0,O,ρ,E,?_⟩;dsimp only at q;cases e1:f ρ with
 |ok d=>
  rw[e1]at q;intro x H1 s1 r1;refine⟨H9,O0,O,ρ,E.grow s1,?_⟩;rw[R.aa0]at q;cases e2:fl ρ with
  |ok l=>
   rw[e2]at q;intro H2 s2;refine⟨H9,O0,O,ρ,(E.grow s1).grow s2,?_⟩;cases e3:fh ρ with
   |ok h=>rw[e3]at q;intro H3 s3;have q':RC X H O (NF d l h) Q:=q;exact fin x d l h H3 ((r1.same s2).same s3) (λp hp=>(((E.grow s1).grow s2).grow s3).fresh hp) (q'.grow<|s1.trans<|s2.trans s3)
   |ex x=>rw[e3]at q;exactλH3 s3=>q H3 (s1.trans<|s2.trans s3)
   |bad=>rw[e3]at q;exact q
  |ex x=>rw[e2]at q;exactλH3 s3=>q H3 (s1.trans s3)
  |bad=>rw[e2]at q;exact q
 |ex x=>rw[e1]at q;exact q
 |bad=>rw[e1]at q;exact q
def BQ {K:PySem.W.Frag}{H:Hp}{O:Addr->Prop}{vs:List V}{d:D}(r:Paired (A9 K H O) vs [d]):∃v,vs=[v]/\A9 K H O v d:=by
 cases r with
 |cons r1 r2=>cases r2;exact⟨_,rfl,r1⟩
def mz {K:PySem.W.Frag}{H:Hp}{O:Addr->Prop}{vs:List V}{d d':D}(r:Paired (A9 K H O) vs [d,d']):∃v v',vs=[v,v']/\A9 K H O v d/\A9 K H O v' d':=by
 cases r with
 |cons r1 r2=>obtain⟨v',e,r'⟩:=BQ r2;subst e;exact⟨_,_,rfl,r1,r'⟩
def LO:List D->R D
 |[.lst xs]=>.ok (.int xs.length)
 |[.tup xs]=>.ok (.int xs.length)
 |_=>.bad
def P6:aG X (.builtin "len") LO:=by
 intro H O vs ds Q fr r q;match ds,q with
 |[.lst xs],q=>obtain⟨v,rfl,z⟩:=BQ r;obtain⟨p,ys,rfl,h1,h2⟩:=z.aa5;exact⟨_,iX,p,ys,rfl,.inl h1,q _ H (Same.refl _) (by rw[h2.length];exact .int)⟩
 |[.tup xs],q=>obtain⟨v,rfl,z⟩:=BQ r;obtain⟨p,ys,rfl,h1,h2⟩:=z.tupI;exact⟨_,iX,p,ys,rfl,.inr h1,q _ H (Same.refl _) (by rw[h2.length];exact .int)⟩
def ak:List D->R D
 |[.int i]=>.ok (.int (if i<0 then-i else i))
 |_=>.bad
def LK:aG X (.builtin "abs") ak:=by
 intro H O vs ds Q fr r q;match ds,q with
 |[.int i],q=>obtain⟨v,rfl,z⟩:=BQ r;cases z.aa6;exact⟨_,OF,i,rfl,q _ H (Same.refl _) .int⟩
def UZ:List D->R D
 |[.int i,.int j]=>.ok (.int (if j>i then j else i))
 |_=>.bad
def DI (hc:X.calm=true):aG X (.builtin "max") UZ:=by
 intro H O vs ds Q fr r q;match ds,q with
 |[.int i,.int j],q=>obtain⟨v,v',rfl,z,z'⟩:=mz r;cases z.aa6;cases z'.aa6;exact⟨_,GZ hc,i,j,rfl,q _ H (Same.refl _) .int⟩
def QW:List D->R D
 |[.int i]=>.ok (.int i)
 |[.bl b]=>.ok (.int (if b then 1 else 0))
 |_=>.bad
def JT:aG X (.type "int") QW:=by
 intro H O vs ds Q fr r q;match ds,q with
 |[.int i],q=>obtain⟨v,rfl,z⟩:=BQ r;cases z.aa6;exact⟨_,rR,.inl ⟨i,rfl,q _ H (Same.refl _) .int⟩⟩
 |[.bl i],q=>obtain⟨v,rfl,z⟩:=BQ r;cases z.blI;exact⟨_,rR,.inr ⟨i,rfl,q _ H (Same.refl _) .int⟩⟩
def kL:List D->R D
 |[.lst xs]=>.ok (.tup xs)
 |[.tup xs]=>.ok (.tup xs)
 |_=>.bad
def V2:aG X (.type "tuple") kL:=by
 intro H O vs ds Q fr r q;match ds,q with
 |[.lst xs],q=>obtain⟨v,rfl,z⟩:=BQ r;obtain⟨p,ys,rfl,h1,h2⟩:=z.aa5;exact⟨_,fF,p,ys,rfl,.inl ⟨h1,λl hl=>q _ _ (j7 hl _) (.tup (W2.of j6) (h2.same<|j7 hl _))⟩⟩
 |[.tup xs],q=>obtain⟨v,rfl,z⟩:=BQ r;obtain⟨p,ys,rfl,h1,h2⟩:=z.tupI;exact⟨_,fF,p,ys,rfl,.inr ⟨h1,q _ _ (Same.refl _) (.tup h1 h2)⟩⟩
def EL:List D->R D
 |[.lst xs]=>.ok (.lst xs)
 |[.tup xs]=>.ok (.lst xs)
 |_=>.bad
def PV:aG X (.type "list") EL:=by
 intro H O vs ds Q fr r q;match ds,q with
 |[.lst xs],q=>obtain⟨v,rfl,z⟩:=BQ r;obtain⟨p,ys,rfl,h1,h2⟩:=z.aa5;exact⟨_,iO,p,ys,rfl,.inl h1,λl hl=>q _ _ (j7 hl _) (.lst (N8.of j6) (fr l hl) (h2.same<|j7 hl _))⟩
 |[.tup xs],q=>obtain⟨v,rfl,z⟩:=BQ r;obtain⟨p,ys,rfl,h1,h2⟩:=z.tupI;exact⟨_,iO,p,ys,rfl,.inr h1,λl hl=>q _ _ (j7 hl _) (.lst (N8.of j6) (fr l hl) (h2.same<|j7 hl _))⟩
def rj:D->String
 |.non=> "NoneType"|.bl _=> "bool"|.int _=> "int"|.str _=> "str"|.tup _=> "tuple"|.lst _=> "list"|.dct=> "dict"
def vI (T:String)(d:D):Bool:=rj d==T||(T== "int"&&rj d== "bool")
def CK (T:String):Prop:=∀(K:PySem.W.Frag) (d:D),PySem.W.kitOne K (.type (rj d)) (.type T)=some (vI T d)
def SU:CK "int":=λK d=>by cases d<;>with_unfolding_all rfl
def JG:CK "bool":=λK d=>by cases d<;>with_unfolding_all rfl
def QY {O:Addr->Prop}(I:Inv X pins σ H s)(ht:CK T)(r:A9 X.K H O v d)(ru:RelV v u)(q:Q (.bl (vI T d)) H):
  wpAny (model X.prog X.w) X.A (call (.builtin "isinstance") [u,.type T]) (EP X pins σ Q) X.xe s:=by
 have e:=ht X.K d;have fin:∀tk,EP X pins σ Q (.bool (vI T d)) {s with toks:=tk}:=λtk=>⟨.bl _,H,I.tok _,rfl,q⟩;cases d with
 |non=>cases r.ac0;cases ru;exact PySem.W.kia_one PySem.W.kitx_none I.kIn aGo e (λz=>nomatch z) fin
 |bl=>cases r.blI;cases ru;exact PySem.W.kia_one PySem.W.kitx_bool I.kIn aGo e (λz=>nomatch z) fin
 |int=>cases r.aa6;obtain⟨t,rfl⟩:=ru;exact PySem.W.kia_one PySem.W.kitx_int I.kIn aGo e (λz=>nomatch z) fin
 |str=>cases r.ac5;obtain⟨t,rfl⟩:=ru;exact PySem.W.kia_one PySem.W.kitx_str I.kIn aGo e (λz=>nomatch z) fin
 |tup xs=>obtain⟨a,vs,rfl,h,_⟩:=r.tupI;cases ru;obtain⟨its,_,p,_⟩:=I.tuple h;obtain⟨o,h1,h2,_⟩:=p;exact PySem.W.kia_one PySem.W.kitx_tuple I.kIn ⟨o,h1,h2⟩ e (λz=>nomatch z) fin
 |lst xs=>obtain⟨a,vs,rfl,h,_⟩:=r.aa5;cases ru;obtain⟨its,_,p,_⟩:=I.list h;obtain⟨o,n,h1,h2,_⟩:=p;exact PySem.W.kia_one PySem.W.kitx_list I.kIn ⟨o,h1,h2⟩ e (λz=>nomatch z) fin
 |dct=>obtain⟨a,o,rfl,h,x⟩:=r.af8;cases ru;exact PySem.W.kia_one PySem.W.kitx_dict I.kIn ⟨o,(I.hok _ _ h).1,x.1⟩ e (λz=>nomatch z) fin
def NB (ht:CK T)(ha:PB X a f)(hT:bootBuiltins x=some (.type T):=by decide+kernel)(hm:X.mg "isinstance"=none:=by assumption)(hmT:X.mg x=none:=by assumption)(hg:Gl X "isinstance":=by rfl)(hgT:Gl X x:=by rfl)(ia:(x==("__debug__":Str))=false:=by decide)(hn:x≠ "__name__":=by decide)(he:starEach [a,.Name x pt] X.env=(false,eval a X.env)::starEach [.Name x pt] X.env:=by rfl)(km:starEach [Expr.Name x pt] X.env=[(false,eval (.Name x pt) X.env)]:=by rfl)(bf:(backTo pos (starEach [Expr.Name x pt] X.env)).any (·.1)=false:=by rfl):
  PD X (.Call (.Name "isinstance" p) [a,.Name x pt] [] pos) (λρ=>(f ρ).bind λd=>.ok (.bl (vI T d))):=by
 refine vU λpins s σ H Q I H9 O0 O ρ E q=>?_;refine aAM (N0 (u:=.builtin "isinstance") I hg hm (by decide+kernel) ?_);have hb:PE X (.Name x pt) (tC<|.ty T):=PN hgT hmT hT rfl hn ia;have h:=J9 ha (J9 hb aV (by rw[km];rfl)) he pos pins s σ H (λvs H1=>∃v d,vs=[v,.ty T]/\A9 X.K H1 O v d/\Q (.bl (vI T d)) H1) I ⟨H9,O0,O,ρ,E,by refine NR.mono (NR.seq q) λv H1 ⟨d,_,s1,r1,h1⟩=>?_;exact⟨v,d,rfl,r1,h1 _ H1 (Same.refl _) .bl⟩⟩
 refine aBF (D9 h λus s1 ⟨vs,H1,I1,r1,v,d,e,r,h⟩=>?_) he bf;subst e;obtain⟨u,w,rfl,ru,rw'⟩:=vals2 r1;cases rw';exact QY I1 ht r ru h
end
section
variable{K:PySem.W.Frag}
def Kp.lst (k:Kp H O H' O'){a:Addr}{xs:List V}(n:¬O a)(h:N8 K H a xs)(hK:∀o,K.lookup a=some o->¬O' a):¬O' a/\N8 K H' a xs:=by
 rcases h with(h|⟨o,h⟩)|h
 ·exact⟨(k _ _ h n).2,.inl (.inl (k _ _ h n).1)⟩
 ·exact⟨(k _ _ h n).2,.inl (.inr ⟨o,(k _ _ h n).1⟩)⟩
 ·obtain⟨o,its,m,h1,h2⟩:=h;exact⟨hK o h1,.inr ⟨o,its,m,h1,h2⟩⟩
def Kp.tup (k:Kp H O H' O')(hO:∀a,O a->∃o,H a=some o/\Mt o){a:Addr}{xs:List V}(h:W2 K H a xs):W2 K H' a xs:=by
 rcases h with(h|⟨o,h⟩)|h
 ·exact .inl (.inl (k _ _ h λz=>by obtain⟨o,q,m⟩:=hO a z;rw[h]at q;cases q;exact m).1)
 ·exact .inl (.inr ⟨o,(k _ _ h λz=>by obtain⟨o,q,m⟩:=hO a z;rw[h]at q;cases q;exact m).1⟩)
 ·exact .inr h
end
def cD (K:PySem.W.Frag)(O:Addr->Prop):Prop:=∀a o,K.lookup a=some o->¬O a
def Kp.rep {K:PySem.W.Frag}{H H':Hp}{O O':Addr->Prop}(k:Kp H O H' O')(hO:∀a,O a->∃o,H a=some o/\Mt o)(hK:cD K O'){v:V}{d:D}(r:Rep K H O v d):Rep K H' O' v d:=
 r.mono (λ_ _ h=>k.tup hO h) (λa _ n h=>k.lst n h λo q=>hK a o q) λa _ n h=>⟨(k a _ h n).2,(k a _ h n).1⟩
def Kp.ac2 {K:PySem.W.Frag}{H H':Hp}{O O':Addr->Prop}(k:Kp H O H' O')(hO:∀a,O a->∃o,H a=some o/\Mt o)(hK:cD K O'){v:List V}{d:List D}(r:Reps K H O v d):Reps K H' O' v d:=
 r.mono (λ_ _ h=>k.tup hO h) (λa _ n h=>k.lst n h λo q=>hK a o q) λa _ n h=>⟨(k a _ h n).2,(k a _ h n).1⟩
inductive Out where
 |nx (ρ:Ev)|rt (d:D)|bk (ρ:Ev)|ct (ρ:Ev)
def RS (X:Cx)(H9:Hp)(O0:Addr->Prop)(H:Hp)(O:Addr->Prop)(r:R Out)(D:Ends):Prop:=match r with
 |.ok (.nx ρ)=>∀ai H' O',EnvOk X.K H9 O0 H' O' ai ρ->cD X.K O'->Kp H O H' O'->D.nx ai H'
 |.ok (.bk ρ)=>∀ai H' O',EnvOk X.K H9 O0 H' O' ai ρ->cD X.K O'->Kp H O H' O'->D.bk ai H'
 |.ok (.ct ρ)=>∀ai H' O',EnvOk X.K H9 O0 H' O' ai ρ->cD X.K O'->Kp H O H' O'->D.ct ai H'
 |.ok (.rt d)=>∀v H',Same H9 H'->Rep X.K H' O0 v d->D.rt v H'
 |.ex e=>∀H',Same H9 H'->XW X e H'
 |.bad=>False
def tS (X:Cx)(H9:Hp)(O0:Addr->Prop)(F:Ev->R Out):TS:=λD σ H=>∃O ρ,EnvOk X.K H9 O0 H O σ ρ/\cD X.K O/\RS X H9 O0 H O (F ρ) D
def pL (X:Cx)(st:Stmt)(F:Ev->R Out):Prop:=∀H9 O0,PS X st (tS X H9 O0 F)
def bZ (X:Cx)(st:List Stmt)(F:Ev->R Out):Prop:=∀H9 O0,uG X st (tS X H9 O0 F)
def VJ {X:Cx}{st:Stmt}{t t':TS}(h:PS X st t)(i:∀D σ H,t' D σ H->t D σ H):PS X st t':=λpins s σ H D I q=>h pins s σ H D I (i D σ H q)
def RI {X:Cx}{st:List Stmt}{t t':TS}(h:uG X st t)(i:∀D σ H,t' D σ H->t D σ H):uG X st t':=λpins s σ H D I q=>h pins s σ H D I (i D σ H q)
def CU {X:Cx}{st:Stmt}{t:TS}{F:Ev->R Out}{H9:Hp}{O0:Addr->Prop}(h:PS X st t)(i:∀D σ H O ρ,EnvOk X.K H9 O0 H O σ ρ->cD X.K O->RS X H9 O0 H O (F ρ) D->t D σ H):PS X st (tS X H9 O0 F):=VJ h λD σ H ⟨O,ρ,E,f,q⟩=>i D σ H O ρ E f q
def iq {X:Cx}{st:List Stmt}{t:TS}{F:Ev->R Out}{H9:Hp}{O0:Addr->Prop}(h:uG X st t)(i:∀D σ H O ρ,EnvOk X.K H9 O0 H O σ ρ->cD X.K O->RS X H9 O0 H O (F ρ) D->t D σ H):uG X st (tS X H9 O0 F):=RI h λD σ H ⟨O,ρ,E,f,q⟩=>i D σ H O ρ E f q
def RS.grow {X:Cx}{H9:Hp}{O0:Addr->Prop}{H H1:Hp}{O O1:Addr->Prop}{r:R Out}{D:Ends}(h:RS X H9 O0 H O r D)(k:Kp H O H1 O1):RS X H9 O0 H1 O1 r D:=by
 cases r with
 |ok o=>
  cases o with
  |nx ρ=>exactλai H' O' E f q=>h ai H' O' E f (k.trans q)
  |bk ρ=>exactλai H' O' E f q=>h ai H' O' E f (k.trans q)
  |ct ρ=>exactλai H' O' E f q=>h ai H' O' E f (k.trans q)
  |rt d=>exact h
 |ex e=>exact h
 |bad=>exact h
def C3 (r:R Out)(F:Ev->R Out):R Out:=match r with
 |.ok (.nx ρ)=>F ρ
 |r=>r
section
variable{st:Stmt} {rest:List Stmt}
def RS.seq {H9:Hp}{O0:Addr->Prop}{H:Hp}{O:Addr->Prop}{r:R Out}{D:Ends}(h:RS X H9 O0 H O (C3 r G) D):RS X H9 O0 H O r {D with nx:=tS X H9 O0 G D}:=by
 cases r with
 |ok o=>
  cases o with
  |nx ρ=>exactλai H' O' E f k=>⟨O',ρ,E,f,(show RS X H9 O0 H O (G ρ) D from h).grow k⟩
  |bk ρ=>exact h
  |ct ρ=>exact h
  |rt d=>exact h
 |ex e=>exact h
 |bad=>exact h
def m9:bZ X [] (λρ=>.ok (.nx ρ)):=λH9 O0=>iq RJ λD σ H O ρ E f q=>q σ H O E f (Kp.refl _ _)
def c5 (h1:pL X st F)(h2:bZ X rest G):bZ X (st::rest) (λρ=>C3 (F ρ) G):=λH9 O0=>iq (LB (h1 H9 O0)<|h2 H9 O0) λD σ H O ρ E f q=>⟨O,ρ,E,f,RS.seq q⟩
def c9 (h1:pL X st F):bZ X [st] F:=λH9 O0=>CZ (h1 H9 O0)
def j1 {e:Expr}{f:Ev->R D}(he:PD X e f):pL X (.Return (some e) pos) (λρ=>(f ρ).bind λd=>.ok (.rt d)):=λH9 O0=>CU (NV he) λD σ H O ρ E fk q=>⟨H9,O0,O,ρ,E,by
 cases e1:f ρ with
 |ok d=>rw[e1]at q;exactλv H' s r=>q v H' (E.same.trans s) (r.sub E.sub)
 |ex x=>rw[e1]at q;exactλH' s=>q H' (E.same.trans s)
 |bad=>rw[e1]at q;exact q⟩
def i9 (i:Nat){x:Str}{e:Expr}{f:Ev->R D}{pos':Pos}(he:PD X e f)(hN:X.N.Nodup)(hi:X.N[i]?=some x:=by rfl)(hx:Loc X.env.scope x:=by first|exact aCM rfl|exact aBW rfl)
  (hs:swapsWith e (some (.Name x pos')) pos.line X.env=pure false:=by rfl) (hf:X.fn x=true\/X.env.scope.names.lookup x=some .local:=by first|exact .inl rfl|exact .inr rfl|assumption):
  pL X (.Assign [.Name x pos'] e pos) (λρ=>(f ρ).bind λd=>.ok (.nx (ρ.set i (.v d)))):=λH9 O0=>CU (ME hN hi hx he hs hf) λD σ H O ρ E fk q=>⟨H9,O0,O,ρ,E,by
 cases e1:f ρ with
 |ok d=>rw[e1]at q;exactλv H' s r=>q _ H' O ((E.grow s).set i r) fk (Kp.of s)
 |ex x=>rw[e1]at q;exactλH' s=>q H' (E.same.trans s)
 |bad=>rw[e1]at q;exact q⟩
def w5 {c:Expr}{a b:List Stmt}{fc:Ev->R Bool}(hc:EC X c fc)(ha:bZ X a F)(hb:bZ X b G):pL X (.If c a b pos) (λρ=>(fc ρ).bind λt=>if t=true then F ρ else G ρ):=λH9 O0=>CU (iw hc (ha H9 O0)<|hb H9 O0) λD σ H O ρ E fk q=>⟨H9,O0,O,ρ,E,by
 cases e1:fc ρ with
 |ok t=>
  rw[e1]at q;intro H' s;cases t with
  |true=>rw[if_pos rfl];exact⟨O,ρ,E.grow s,fk,RS.grow q (Kp.of s)⟩
  |false=>rw[if_neg aBg];exact⟨O,ρ,E.grow s,fk,RS.grow q (Kp.of s)⟩
 |ex x=>rw[e1]at q;exactλH' s=>q H' (E.same.trans s)
 |bad=>rw[e1]at q;exact q⟩
def US (K:PySem.W.Frag)(J:It)(H:Hp)(O:Addr->Prop)(ds:List D):Prop:=∀H2 O2,Kp H O H2 O2->cD K O2->(∀a,O a->∃o,H a=some o/\Mt o)->(∀a,O2 a->∃o,H2 a=some o/\Mt o)->∀i:Nat,
 (∀d,ds[i]?=some d->J.go i H2/\∀x H',J.yld i H2 x H'->Same H2 H'/\Rep K H' O2 x d)/\(ds[i]?=none->J.stop i H2)
def tI (X:Cx)(f:Ev->R (List D)):TI:=λσ H R=>∃H9 O0 O ρ,EnvOk X.K H9 O0 H O σ ρ/\cD X.K O/\match f ρ with
 |.ok ds=>∀J H',Same H H'->US X.K J H' O ds->R J H'
 |.ex e=>∀H',Same H H'->XW X e H'
 |.bad=>False
def UE (X:Cx)(tg iter:Expr)(f:Ev->R (List D)):Prop:=PI X tg iter (tI X f)
def KF (h:PI X tg iter t)(i:∀σ H R,t' σ H R->t σ H R):PI X tg iter t':=λpins s σ H R I q=>h pins s σ H R I (i σ H R q)
def L8:D->R (List D)
 |.lst xs=>.ok xs
 |_=>.bad
def CV:D->R (List D)
 |.tup xs=>.ok xs
 |_=>.bad
def t5 (h:PD X iter f):UE X tg iter (λρ=>(f ρ).bind L8):=KF (SO h) λσ H R ⟨H9,O0,O,ρ,E,fk,q⟩=>⟨H9,O0,O,ρ,E,by
 dsimp only at q;cases e:f ρ with
 |ok d=>
  rw[e]at q;cases d with
  |lst xs=>
   intro v H' s r;cases r with
   |lst h n r=>
    rename_i a vs;refine⟨a,rfl,⟨vs,h⟩,q (xy X.K a) H' s ?_⟩;intro H2 O2 k hK hO hO2 i;obtain⟨n2,h2⟩:=k.lst n h λo q=>hK a o q;have r2:=k.ac2 hO hK r;refine⟨λd e=>?_,λe=>⟨vs,h2,by rw[r.length];exact aBJ.mp e⟩⟩;obtain⟨v,h3,h4⟩:=r2.get e;exact⟨⟨vs,v,h2,h3⟩,λx H3 ⟨e1,e2⟩=>by subst e1;have:=e2 vs h2;rw[h3]at this;cases this;exact⟨Same.refl _,h4⟩⟩
  |_=>exact aAm q
 |ex x=>rw[e]at q;exact q
 |bad=>rw[e]at q;exact q⟩
def mO (h:PD X iter f):UE X tg iter (λρ=>(f ρ).bind CV):=KF (VX h) λσ H R ⟨H9,O0,O,ρ,E,fk,q⟩=>⟨H9,O0,O,ρ,E,by
 dsimp only at q;cases e:f ρ with
 |ok d=>
  rw[e]at q;cases d with
  |tup xs=>
   intro v H' s r;cases r with
   |tup h r=>
    rename_i a vs;refine⟨a,rfl,⟨vs,h⟩,q (wj X.K a) H' s ?_⟩;intro H2 O2 k hK hO hO2 i;have h2:=k.tup hO h;have r2:=k.ac2 hO hK r;refine⟨λd e=>?_,λe=>⟨vs,h2,by rw[r.length];exact aBJ.mp e⟩⟩;obtain⟨v,h3,h4⟩:=r2.get e;exact⟨⟨vs,v,h2,h3⟩,λx H3 ⟨e1,e2⟩=>by subst e1;have:=e2 vs h2;rw[h3]at this;cases this;exact⟨Same.refl _,h4⟩⟩
  |_=>exact aAm q
 |ex x=>rw[e]at q;exact q
 |bad=>rw[e]at q;exact q⟩
def VL (lo c:Int)(n:Nat):It:=⟨λi _=>i<n,λi H x H'=>H'=H/\x=.int (lo+i*c),λi _=>n<=i⟩
def yF {P:Program}{w:World}{K:PySem.W.Frag}{tg:Expr}(it:Addr)(lo c:Int)(n:Nat):Turn P w K tg (VL lo c n) [it] it (λi h=>IsRangeIter h it (lo+(i:Nat)*c) ((n:Int)-(i:Nat)) c)where
 mem:=by simp
 obj:=λi h st b hb=>by
  have e:b=it:=by simpa using hb
  subst e;exact⟨_,st,λv z=>by have z':Data.fields _=Data.cell v:=z;cases z'⟩
 keep:=λi h h' st k=>k it (by simp) _ st
 item:=by intro X hP hw hK hc i pins s σ H E I hf st hg;subst hP hw hK;obtain⟨f0,f1,f2,f3,f4,f5⟩:=hf it (by simp);have W:=Walks.range (prog:=X.prog) (w:=X.w) (I.ok.hd hc) it lo c n;refine W.item i s _ _ hg st λv h' tk hv st' kk=>?_;obtain⟨t,rfl⟩:=hv;have I1:Inv X pins σ H {s with heap:=h',toks:=tk}:=I.turned (λb o hb e=>kk b o (by simpa using hb) e) f0 f1 f3 f4 f5;exact⟨_,rfl,MU (s:={s with heap:=h',toks:=tk}) (n:= "range_iterator") st' rfl rfl (by decide) ⟨.int (lo+i*c),H,I1,⟨t,rfl⟩,⟨rfl,rfl⟩,st',λb hb=>(hf b hb).1⟩⟩
 done:=by intro X hP hw hK hc i pins s σ H E I hf st hg;subst hP hw hK;obtain⟨f0,f1,f2,f3,f4,f5⟩:=hf it (by simp);exact wpAny_pyNext_range_end (I.ok.hd hc) st (by have:n<=i:=hg;lia) λh' eb=>⟨rfl,I.turned (t':=s.toks) (λb o hb e=>eb b o hb e) f0 f1 f3 f4 f5⟩
 self:=λ_ _ _ _ _ st h=>wpAny_pyIter_rangeiter st h
def tR (lo c:Int)(n:Nat):List D:=(aBu n).map λ(k:Nat)=>D.int (lo+(k:Int)*c)
def jU (K:PySem.W.Frag)(H:Hp)(O:Addr->Prop)(lo c:Int)(n:Nat):US K (VL lo c n) H O (tR lo c n):=by
 intro H2 O2 k hK hO hO2 i;unfold tR;rw[aAD];by_cases hi:i<n
 ·rw[List.getElem?_range hi];refine⟨λd e=>?_,λe=>(by cases e)⟩;cases e;exact⟨hi,λx H' ⟨e1,e2⟩=>by subst e1 e2;exact⟨Same.refl _,.int⟩⟩
 ·rw[aBJ.mpr (by simpa using hi)];exact⟨λd e=>(by cases e),λ_=>aEj hi⟩
def fW (a b c:Int):Nat:=if a<b then((b-a-1)/c+1).toNat else 0
def HP (hc:0<c):aCt a b c=(fW a b c:Int):=by
 unfold aCt fW;rw[if_pos (by lia)];split
 ·have:0<=(b-a-1)/c:=Int.ediv_nonneg (by lia) (by lia)
  lia
 ·rfl
def HM (hc:0<c)(jm:c<2^30)(ha:-(2^60)<=a)(ha':a<2^60)(hb:-(2^60)<=b)(jb:b<2^60):aFX a b c=true:=by
 unfold aFX;have e:aCt a b c=if a<b then(b-a-1)/c+1 else 0:=by unfold aCt;rw[if_pos (by lia)]
 rw[e];have h1:a<b->(b-a-1)/c<=b-a-1:=λh=>Int.ediv_le_self _ (by lia);have h2:a<b->0<=(b-a-1)/c:=λh=>Int.ediv_nonneg (by lia) (by lia);have h3:a<b->(b-a-1)/c*c<=b-a-1:=λh=>Int.ediv_mul_le _ (by lia);simp only[Builtin.Range.rangeFitsLong,aAK,Bool.or_eq_true,decide_eq_true_eq,beq_iff_eq,show c>0 by lia,if_true];split
 ·rename_i h;have h1:=h1 h;have h2:=h2 h;have h3:=h3 h;generalize(b-a-1)/c=q at*
  lia
 ·lia
def oP (a b c:Int):Prop:=0<c/\c<2^30/\-(2^60)<=a/\a<2^60/\-(2^60)<=b/\b<2^60
instance(a b c:Int):Decidable (oP a b c):=inferInstanceAs (Decidable<|_/\_)
def dZ:List D->R (List D)
 |[.int b]=>if oP 0 b 1 then .ok (tR 0 1 (fW 0 b 1))else .bad
 |[.int a,.int b]=>if oP a b 1 then .ok (tR a 1 (fW a b 1))else .bad
 |[.int a,.int b,.int c]=>if oP a b c then .ok (tR a c (fW a b c))else .bad
 |_=>.bad
def kN {R:It->Hp->Prop}{E:C8}(I:Inv X pins σ H s)(h:oP a b c)(q:R (VL a c (fW a b c)) H):wpAny (model X.prog X.w) X.A (pyIter (.ref s.heap.objs.size)) (nk X pins σ tg R) E {s with heap:=s.heap.push {cls:=.type "range",data:=.fields #[.int a t,.int b u,.int c v]},toks:=tk}:=by
 obtain⟨h1,h2,h3,h4,h5,h6⟩:=h;refine wpAny_pyIter_range (IsRange.new ..) (HM h1 h2 h3 h4 h5 h6) ?_;have I1:Inv X pins σ H {s with heap:=s.heap.push {cls:=.type "range",data:=.fields #[.int a t,.int b u,.int c v]},toks:=tk}:=I.kept λb o e=>aAc _ e;refine⟨(s.heap.push {cls:=.type "range",data:=.fields #[.int a t,.int b u,.int c v]}).objs.size,[(s.heap.push {cls:=.type "range",data:=.fields #[.int a t,.int b u,.int c v]}).objs.size],_,_,H,rfl,
  I1.kept (t':=tk) λb o e=>aAc _ e,yF _ a c (fW a b c),?_,λbb hb=>?_,q⟩
 ·have e1:a+((0:Nat):Int)*c=a:=by simp
  have e2:((fW a b c:Nat):Int)-((0:Nat):Int)=aCt a b c:=by rw[HP h1];simp
  show IsRangeIter _ _ (a+((0:Nat):Int)*c) (((fW a b c:Nat):Int)-((0:Nat):Int)) c;rw[e1,e2];exact aAp _ rfl
 ·have e:bb=(s.heap.push {cls:=.type "range",data:=.fields #[.int a t,.int b u,.int c v]}).objs.size:=by simpa using hb
  subst e;exact I1.af0 (aAh _) (I1.hok.fresh<|aAh _)
def MG {R:It->Hp->Prop}{O:Addr->Prop}(I:Inv X pins σ H s)(r:Paired (A9 X.K H O) vs ds)(ru:n8 vs us)(h:dZ ds=.ok bh)(q:∀J,US X.K J H O bh->R J H):wpAny (model X.prog X.w) X.A (call (.type "range") us) (λv s1=>wpAny (model X.prog X.w) X.A (pyIter v) (nk X pins σ tg R) X.xe s1) X.xe s:=by
 match ds,h with
 |[.int b],h=>
  obtain⟨v,rfl,z⟩:=BQ r;cases z.aa6;obtain⟨u,rfl,t,rfl⟩:=vals1 ru;simp only[dZ]at h;split at h
  ·rename_i hk;cases h;exact call_range_1 (kN I hk<|q _<|jU _ _ _ _ _ _)
  ·cases h
 |[.int a,.int b],h=>
  obtain⟨v,v',rfl,z,z'⟩:=mz r;cases z.aa6;cases z'.aa6;obtain⟨u,u',rfl,⟨t,rfl⟩,⟨t',rfl⟩⟩:=vals2 ru;simp only[dZ]at h;split at h
  ·rename_i hk;cases h;exact call_range_2 (kN I hk<|q _<|jU _ _ _ _ _ _)
  ·cases h
 |[.int a,.int b,.int c],h=>
  cases r with
  |cons z1 r=>
   obtain⟨v,v',rfl,z,z'⟩:=mz r;cases z1.aa6;cases z.aa6;cases z'.aa6;cases ru with
   |cons w1 ru=>
    obtain⟨u,u',rfl,⟨t,rfl⟩,⟨t',rfl⟩⟩:=vals2 ru;obtain⟨t1,rfl⟩:=w1;simp only[dZ]at h;split at h
    ·rename_i hk;cases h;have ke:=hk;obtain⟨h1,h2,_⟩:=ke;exact call_range_3 (by lia) (kN (tk:=s.toks) I hk<|q _<|jU _ _ _ _ _ _) (.inl (PyProof.noPylong_small (by lia)))
    ·cases h
def B7 {tg e:Expr}{es:List Expr}{p:Pos}{f:Ev->R (List D)}(ha:VM X (e::es) f)(hg:Gl X "range":=by rfl)(hm:X.mg "range"=none:=by assumption)
  (he:starEach (e::es) X.env=(false,eval e X.env)::starEach es X.env:=by rfl) (bf:(backTo pos (starEach es X.env)).any (·.1)=false:=by rfl):
  UE X tg (.Call (.Name "range" p) (e::es) [] pos) (λρ=>(f ρ).bind dZ):=by
 intro pins s σ H Q I ⟨H9,O0,O,ρ,E,fk,q⟩;dsimp only at q;refine Call_ (N0 I hg hm boot_range<|aBb (D9 (ha pos pins s σ H (λvs H1=>∃ds bh,Same H H1/\Paired (A9 X.K H1 O) vs ds/\dZ ds=.ok bh/\∀J,US X.K J H1 O bh->Q J H1) I ⟨H9,O0,O,ρ,E,?_⟩) λus s1 ⟨vs,H1,I1,r1,ds,bh,sm,r,h1,h2⟩=>?_) he bf)
 ·cases e1:f ρ with
  |ok ds=>
   rw[e1]at q;intro vs H1 s1 r1;rw[R.aa0]at q;cases e2:dZ ds with
   |ok bh=>rw[e2]at q;exact⟨ds,bh,s1,r1,e2,λJ hJ=>q J H1 s1 hJ⟩
   |ex x=>
    rw[e2]at q;match ds,e2 with
    |[.int b],e2=>simp only[dZ]at e2;split at e2<;>cases e2
    |[.int a,.int b],e2=>simp only[dZ]at e2;split at e2<;>cases e2
    |[.int a,.int b,.int c],e2=>simp only[dZ]at e2;split at e2<;>cases e2
   |bad=>rw[e2]at q;exact q.elim
  |ex x=>rw[e1]at q;exact q
  |bad=>rw[e1]at q;exact q
 ·exact MG I1 r r1 h1 h2
def tG (X:Cx)(G:D->Ev->R Ev):TG:=λv σ H Q=>∃H9 O0 O ρ d ao,EnvOk X.K H9 O0 H O σ ρ/\Rep X.K H O v d/\G d ρ=.ok ao/\∀ai H',Same H H'->EnvOk X.K H9 O0 H' O ai ao->Q ai H'
def KP (X:Cx)(tg:Expr)(G:D->Ev->R Ev):Prop:=PG X tg (tG X G)
def XY (h:PG X tg t)(i:∀v σ H Q,t' v σ H Q->t v σ H Q):PG X tg t':=λpins s σ H v u Q I r q=>h pins s σ H v u Q I r (i v σ H Q q)
def l8 (i:Nat)(hN:X.N.Nodup)(hi:X.N[i]?=some x:=by rfl)(hx:Loc X.env.scope x:=by first|exact aCM rfl|exact aBW rfl)(hf:X.fn x=true\/X.env.scope.names.lookup x=some .local:=by first|exact .inl rfl|exact .inr rfl|assumption):
  KP X (.Name x pos) (λd ρ=>.ok (ρ.set i (.v d))):=XY (QT hN hi hx hf) λv σ H Q ⟨H9,O0,O,ρ,d,ao,E,r,e,q⟩=>by
 cases e;exact q _ H (Same.refl _) (E.set i r)
def tGs (X:Cx)(G:List D->Ev->R Ev):VQ:=λvs σ H Q=>∃H9 O0 O ρ ds ao,EnvOk X.K H9 O0 H O σ ρ/\Reps X.K H O vs ds/\G ds ρ=.ok ao/\∀ai H',Same H H'->EnvOk X.K H9 O0 H' O ai ao->Q ai H'
def QR (X:Cx)(tgs:List Expr)(G:List D->Ev->R Ev):Prop:=YU X tgs (tGs X G)
def EK {tg:List Expr}{t t':VQ}(h:YU X tg t)(i:∀v σ H Q,t' v σ H Q->t v σ H Q):YU X tg t':=λpins s σ H v u Q I r q=>h pins s σ H v u Q I r (i v σ H Q q)
def kZ:List D->Ev->R Ev
 |[],ρ=>.ok ρ
 |_,_=>.bad
def O9 (G:D->Ev->R Ev)(Gs:List D->Ev->R Ev):List D->Ev->R Ev
 |d::ds,ρ=>(G d ρ).bind λao=>Gs ds ao
 |_,_=>.bad
def dF:QR X [] kZ:=EK PK λvs σ H Q ⟨H9,O0,O,ρ,ds,ao,E,r,e,q⟩=>by
 cases r with
 |nil=>cases e;exact⟨rfl,q σ H (Same.refl _) E⟩
 |cons _ _=>cases e
def z9 {e:Expr}{es:List Expr}{G:D->Ev->R Ev}{Gs:List D->Ev->R Ev}(h1:KP X e G)(h2:QR X es Gs)
  (hs:(assignEach (e::es) X.env).map (·.2)=assign e X.env::(assignEach es X.env).map (·.2):=by rfl):QR X (e::es) (O9 G Gs):=EK (JB h1 h2 hs) λvs σ H Q ⟨H9,O0,O,ρ,ds,ao,E,r,e,q⟩=>by
 cases r with
 |nil=>cases e
 |@cons v d vs ds r rr=>
  simp only[O9]at e;cases e1:G d ρ with
  |ok ρ1=>rw[e1]at e;exact⟨v,vs,rfl,H9,O0,O,ρ,d,ρ1,E,r,e1,λσ1 H1 s1 E1=>⟨H9,O0,O,ρ1,ds,ao,E1,rr.same s1,e,λum H2 s2 E2=>q um H2 (s1.trans s2) E2⟩⟩
  |ex x=>rw[e1]at e;cases e
  |bad=>rw[e1]at e;cases e
def fG (n:Nat)(Gs:List D->Ev->R Ev):D->Ev->R Ev
 |.tup ds,ρ=>if ds.length=n then Gs ds ρ else .bad
 |.lst ds,ρ=>if ds.length=n then Gs ds ρ else .bad
 |_,_=>.bad
end
section
theorem qQ (af:t≠it):∀(n i:Nat) (s:Shared) (Q:List Value->Shared->Prop),s.heap.IsListIter it t i->s.heap.IsList t items->i+n<=items.size->
  (∀h',h'.IsListIter it t (i+n)->Heap.SameBut it s.heap h'->Q ((items.toList.drop i).take n) {s with heap:=h'})->wpAny (model prog w) A (draw (.ref it) n) Q E s
 |0,i,s,Q,hit,_,_,hQ=>by show wpAny _ _ (pure []) Q E s;exact aAb (by simpa using hQ s.heap hit (aFb ..))
 |n+1,i,s,Q,hit,ht,hle,hQ=>by
  have ar:i<items.size:=by omega
  show wpAny _ _ (pyNext (.ref it)>>=_) Q E s;refine aAa (wpAny_pyNext_list_item hit ht (x:=items[i]) (by simp[ar]) λh₁ hit0 il=>?_);refine aAa (aAJ (qQ af n (i+1) _ _ hit0 (ht.extBut il.extBut af) (by omega) λir hit1 kn=>aAb ?_));have hd:items.toList.drop i=items[i]::items.toList.drop (i+1):=by simp[aDy,ar]
  have:=hQ ir (by rw[show i+(n+1)=i+1+n by omega];exact hit1) (il.trans kn);rw[hd,List.take_succ_cons]at this;exact this
def jB {Q:List Value->Shared->Prop}(hh:A.handled=none)(ht:s.heap.IsList t items)(hQ:∀h',Heap.ExtBut s.heap.objs.size s.heap h'->Q items.toList {s with heap:=h'}):wpAny (model prog w) A (unpackItems (.ref t) items.size none) Q E s:=by
 have ar:t≠s.heap.objs.size:=by obtain⟨o,ho,_⟩:=ht;exact aAi (aAf ho)
 unfold unpackItems;refine aAa ?_
 ·unfold notIterableAtAll;refine aAa (aBp ht.typeIs slot_list_iter.lookup ?_);refine aAb ?_;simp only[aAt,if_false];refine aAa (aAJ<|aDr ht ?_);have ht0:(s.heap.push {cls:=.type "list_iterator",data:=.fields #[.ref t,.int 0 0]}).IsList t items:=by obtain⟨o,ho,r⟩:=ht;exact⟨o,aAc _ ho,r⟩
  refine aAa (aAJ (qQ ar items.size 0 _ _ ⟨_,aAp _ rfl,rfl,rfl⟩ ht0 (by omega) λh₁ hit0 il=>?_));have lh:List.take items.size (List.drop 0 items.toList)=items.toList:=by rw[aFQ];exact aDU (by simp)
  rw[lh];rw[if_neg (by simp)];have ht3:h₁.IsList t items:=ht0.extBut il.extBut ar;refine aAa (aAJ (wpAny_pyNext_list_end hh hit0 ht3 (by simp) λir he3=>?_));simp only[Option.isSome_none,aAt,if_false];refine aAb (hQ ir λb o hb e=>he3 b o hb (il.extBut b o hb<|aAc _ e))
def gP {x1}{Q:Unit->Shared->Prop}(hh:A.handled=none)(ht:s.heap.IsList t items)(hn:(assignEach elts env).length=items.size)(hstar:(assignEach elts env).findIdx? (·.1)=none)(h:∀h',Heap.ExtBut s.heap.objs.size s.heap h'->wpAny (model prog w) A (assignInOrder ((assignEach elts env).map (·.2)) items.toList) Q E {s with heap:=h'}):
  wpAny (model prog w) A (assign (.Tuple elts x1 pos) env (.ref t)) Q E s:=by
 rw[assign_Tuple];refine aAa (aDL ?_);unfold unpack;rw[hn,hstar];exact aAa (aAJ<|jB hh ht h)
end
section
def iG (hc:X.calm=true)(h:QR X es Gs)(hn:(assignEach es X.env).length=n:=by rfl)(jg:(assignEach es X.env).findIdx? (·.1)=none:=by rfl):KP X (.Tuple es k pos) (fG n Gs):=by
 intro pins s σ H v u Q I r ⟨H9,O0,O,ρ,d,ao,E,rd,e,q⟩;cases rd with
 |@tup a vs ds hq rs=>
  cases r;simp only[fG]at e;split at e
  ·rename_i hl;obtain⟨its,rv,ht,hz⟩:=I.tuple hq;refine assign_Tuple_tuple (I.ok.hd hc) ht (by simp[hn,<-hl,<-rs.length,rv.length]) jg λh' hx=>?_;have I1:Inv X pins σ H {s with heap:=h'}:=I.kept (t':=s.toks) λb o e=>hx b o (aAi<|aAf e) e;exact h pins _ σ H vs _ Q I1 (by simpa using rv) ⟨H9,O0,O,ρ,ds,ao,E,rs,e,q⟩
  ·cases e
 |@lst a vs ds hq _ rs=>
  cases r;simp only[fG]at e;split at e
  ·rename_i hl;obtain⟨its,rv,ht,hz⟩:=I.list hq;refine gP (I.ok.hd hc) ht.isList (by simp[hn,<-hl,<-rs.length,rv.length]) jg λh' hx=>?_;have I1:Inv X pins σ H {s with heap:=h'}:=I.kept (t':=s.toks) λb o e=>hx b o (aAi<|aAf e) e;exact h pins _ σ H vs _ Q I1 (by simpa using rv) ⟨H9,O0,O,ρ,ds,ao,E,rs,e,q⟩
  ·cases e
 |_=>cases e
def HZ (f:Ev->R D)(G:D->Ev->R Ev):Ev->R Out:=λρ=>(f ρ).bind λd=>match G d ρ with
 |.ok ao=>.ok (.nx ao)
 |_=>.bad
def uX (he:PD X e f)(hg:KP X tg G)(hs:swapsWithSole [tg] e pos.line X.env=pure false:=by rfl)(hw:swappedStores [tg] e X.env=pure none:=by rfl)(h1:(assignEach [tg] X.env).map (·.2)=[assign tg X.env]:=by rfl):pL X (.Assign [tg] e pos) (HZ f G):=λH9 O0=>CU (AF he hg hs hw h1) λD σ H O ρ E fk q=>⟨H9,O0,O,ρ,E,by
 unfold HZ at q;cases e1:f ρ with
 |ok d=>
  rw[e1,R.aa0]at q;intro v H' s r;cases e2:G d ρ with
  |ok ao=>rw[e2]at q;exact⟨H9,O0,O,ρ,d,ao,E.grow s,r,e2,λai H2 s2 E2=>q ai H2 O E2 fk (Kp.of<|s.trans s2)⟩
  |ex x=>rw[e2]at q;exact aAm q
  |bad=>rw[e2]at q;exact aAm q
 |ex x=>rw[e1]at q;exactλH' s=>q H' (E.same.trans s)
 |bad=>rw[e1]at q;exact q⟩
def OD (i j:Nat){kt k2 GH}(hc:X.calm=true)(hN:X.N.Nodup)(ha:IL X [a,b] f)(hi:X.N[i]?=some x:=by rfl)(hj:X.N[j]?=some y:=by rfl)(jh:i≠j:=by decide)(hx:X.env.scope.names.lookup x=some .local:=by rfl)(hy:X.env.scope.names.lookup y=some .local:=by rfl)(hw:swappedStores [.Tuple [.Name x px,.Name y py] kt pt] (.Tuple [a,b] k2 GH) X.env=pure (some [x,y]):=by rfl)(hs:swapsWithSole [.Tuple [.Name x px,.Name y py] kt pt] (.Tuple [a,b] k2 GH) pos.line X.env=pure false:=by rfl):
  pL X (.Assign [.Tuple [.Name x px,.Name y py] kt pt] (.Tuple [a,b] k2 GH) pos) (λρ=>(f ρ).bind λds=>match ds with
   |[d,d']=>.ok (.nx ((ρ.set i (.v d)).set j (.v d')))
   |_=>.bad):=λH9 O0=>CU (VR hc hN hi hj jh hx hy ha hw hs) λD σ H O ρ E fk q=>⟨H9,O0,O,ρ,E,by
 cases e1:f ρ with
 |ok ds=>
  rw[e1,R.aa0]at q;intro vs H' s r;cases r with
  |nil=>exact aAm q
  |cons r1 r=>
   cases r with
   |nil=>exact aAm q
   |cons r2 r=>
    cases r with
    |nil=>exact⟨_,_,rfl,q _ H' O (((E.grow s).set i r1).set j r2) fk (Kp.of s)⟩
    |cons _ _=>exact aAm q
 |ex x=>rw[e1]at q;exactλH' s=>q H' (E.same.trans s)
 |bad=>rw[e1]at q;exact q⟩
def M3 (G:D->Ev->R Ev)(F:Ev->R Out):List D->Ev->R Out
 |[],ρ=>.ok (.nx ρ)
 |d::ds,ρ=>match G d ρ with
  |.ok ρ1=>match F ρ1 with
   |.ok (.nx ρ2)=>M3 G F ds ρ2
   |.ok (.ct ρ2)=>M3 G F ds ρ2
   |.ok (.bk ρ2)=>.ok (.nx ρ2)
   |r=>r
  |_=>.bad
def D6 (hp:PassesOwn (model X.prog X.w) X.A X.env X.xe)(hc:X.calm=true)(hi:UE X tg iter f)(hg:KP X tg G)(hb:bZ X body F)(hs:∀x,foldedSetIterable iter X.env x=pure x:=by intro _;rfl):pL X (.For tg iter body [] pos) (λρ=>(f ρ).bind λds=>M3 G F ds ρ):=λH9 O0=>CU (WZ hp hc hi hg (hb H9 O0) hs) λD σ H O ρ E fk q=>⟨H9,O0,O,ρ,E,fk,by
 cases e1:f ρ with
 |ex x=>rw[e1]at q;exactλH' s=>q H' (E.same.trans s)
 |bad=>rw[e1]at q;exact q
 |ok ds=>
  rw[e1,R.aa0]at q;intro J H1 s1 hJ;refine⟨λi m ai H'=>m=ds.length-i/\i<=ds.length/\∃O' ao,EnvOk X.K H9 O0 H' O' ai ao/\cD X.K O'/\Kp H1 O H' O'/\RS X H9 O0 H' O' (M3 G F (ds.drop i) ao) D,⟨ds.length,by simp,aBc _,O,ρ,E.grow s1,fk,Kp.refl _ _,?_⟩,?_⟩
  ·rw[aFQ];exact q.grow (Kp.of s1)
  ·rintro i m ai H' ⟨rfl,hi,O',ao,E',fk',k',q'⟩;have hit:=hJ H' O' k' fk' (E.grow s1).trk E'.trk i;by_cases ar:i<ds.length
   ·obtain⟨go,yl⟩:=hit.1 ds[i] (aAg ar);refine .inr ⟨go,λum H2=>∃O2 ρ2,EnvOk X.K H9 O0 H2 O2 um ρ2/\cD X.K O2/\Kp H1 O H2 O2/\RS X H9 O0 H2 O2 (M3 G F (ds.drop<|i+1) ρ2) D,λum H2 p=>⟨ds.length-(i+1),by omega,rfl,ar,p⟩,λx H2 y=>?_⟩;obtain⟨s2,r2⟩:=yl x H2 y;rw[aDy ar,M3]at q';cases e2:G ds[i] ao with
    |ex x=>rw[e2]at q';exact(show False from q').elim
    |bad=>rw[e2]at q';exact(show False from q').elim
    |ok ρ1=>
     rw[e2]at q';dsimp only at q';refine⟨H9,O0,O',ao,ds[i],ρ1,E'.grow s2,r2,e2,λqa H3 s3 E3=>⟨O',ρ1,E3,fk',?_⟩⟩;have kk:Kp H' O' H3 O':=Kp.of (s2.trans s3);cases e3:F ρ1 with
     |ex x=>rw[e3]at q';exact q'
     |bad=>rw[e3]at q';exact q'
     |ok o=>
      rw[e3]at q';cases o with
      |nx ρ2=>exactλσ4 H4 O4 E4 f4 k4=>⟨O4,ρ2,E4,f4,k'.trans (kk.trans k4),RS.grow q' (kk.trans k4)⟩
      |ct ρ2=>exactλσ4 H4 O4 E4 f4 k4=>⟨O4,ρ2,E4,f4,k'.trans (kk.trans k4),RS.grow q' (kk.trans k4)⟩
      |bk ρ2=>exactλσ4 H4 O4 E4 f4 k4=>q' σ4 H4 O4 E4 f4 (kk.trans k4)
      |rt d=>exact q'
   ·have e:i=ds.length:=by omega
    subst e;rw[List.drop_length,M3]at q';exact .inl ⟨hit.2 (by simp),q' ai H' O' E' fk' (Kp.refl _ _)⟩⟩
def R1 (c:Ev->R Bool)(F:Ev->R Out):Nat->Ev->R Out
 |0,_=>.bad
 |n+1,ρ=>(c ρ).bind λb=>if b=true then(match F ρ with
  |.ok (.nx ρ2)=>R1 c F n ρ2
  |.ok (.ct ρ2)=>R1 c F n ρ2
  |.ok (.bk ρ2)=>.ok (.nx ρ2)
  |r=>r)else .ok (.nx ρ)
def eS (n:Ev->Nat)(hp:PassesOwn (model X.prog X.w) X.A X.env X.xe)(hc:EC X c fc)(hb:bZ X body F):pL X (.While c body [] pos) (λρ=>R1 fc F (n ρ) ρ):=λH9 O0=>CU (MF hp hc<|hb H9 O0) λD σ H O ρ E fk q=>by
 refine⟨λm ai H'=>∃O' ao,EnvOk X.K H9 O0 H' O' ai ao/\cD X.K O'/\RS X H9 O0 H' O' (R1 fc F m ao) D,⟨n ρ,O,ρ,E,fk,q⟩,?_⟩;rintro m ai H' ⟨O',ao,E',fk',q'⟩;cases m with
 |zero=>exact(show False from q').elim
 |succ m=>
  rw[R1]at q';refine⟨H9,O0,O',ao,E',?_⟩;cases e1:fc ao with
  |ex x=>rw[e1]at q';exactλH2 s2=>q' H2 (E'.same.trans s2)
  |bad=>rw[e1]at q';exact q'
  |ok b=>
   rw[e1,R.aa0]at q';intro H2 s2;cases b with
   |false=>rw[if_neg aBg]at q'⊢;exact q' ai H2 O' (E'.grow s2) fk' (Kp.of s2)
   |true=>
    rw[if_pos rfl]at q'⊢;refine⟨λqa H3=>∃O3 ρ3,EnvOk X.K H9 O0 H3 O3 qa ρ3/\cD X.K O3/\RS X H9 O0 H3 O3 (R1 fc F m ρ3) D,λqa H3 p=>⟨m,aDD m,p⟩,O',ao,E'.grow s2,fk',?_⟩;have kk:Kp H' O' H2 O':=Kp.of s2;cases e3:F ao with
    |ex x=>rw[e3]at q';exact q'
    |bad=>rw[e3]at q';exact q'
    |ok o=>
     rw[e3]at q';cases o with
     |nx ρ2=>exactλσ4 H4 O4 E4 f4 k4=>⟨O4,ρ2,E4,f4,RS.grow q' (kk.trans k4)⟩
     |ct ρ2=>exactλσ4 H4 O4 E4 f4 k4=>⟨O4,ρ2,E4,f4,RS.grow q' (kk.trans k4)⟩
     |bk ρ2=>exactλσ4 H4 O4 E4 f4 k4=>q' σ4 H4 O4 E4 f4 (kk.trans k4)
     |rt d=>exact q'
end
def YR (K:PySem.W.Frag)(n:Nat)(m:List D->R D):Sp:=λvs H Q _=>∃O ds d,Reps K H O vs ds/\ds.length=n/\(∀a,O a->∃o,H a=some o/\Mt o)/\Tb H/\cD K O/\m ds=.ok d/\∀v H',Same H H'->Rep K H' O v d->Q v H'
def j5 (N:List Str)(ds:List D):Ev:=ds.map Sl.v++aCJ (N.length-ds.length) Sl.no
def L4:R Out->R D
 |.ok (.rt d)=>.ok d
 |.ok (.nx _)=>.ok .non
 |.ex e=>.ex e
 |_=>.bad
def rQ {K:PySem.W.Frag}{H:Hp}{O:Addr->Prop}{N:List Str}{vs:List V}{ds:List D}(r:Reps K H O vs ds)(t:∀a,O a->∃o,H a=some o/\Mt o)(tb:Tb H):EnvOk K H O H O (start N vs) (j5 N ds)where
 len:=by simp[L2.start,j5,r.length]
 same:=Same.refl H
 sub:=λ_ h=>h
 trk:=t
 trk0:=λa h=>let⟨o,q,_⟩:=t a h;⟨o,q⟩
 tab:=tb
 slot:=λi sl h=>by
  unfold j5 at h;unfold L2.start;by_cases hi:i<ds.length
  ·rw[aAO (by simpa using hi),aAD]at h;cases e:ds[i]? with
   |none=>rw[e]at h;cases h
   |some d'=>rw[e]at h;have h':Sl.v d'=sl:=aAj h;subst h';obtain⟨v,h1,h2⟩:=r.get e;exact⟨v,by rw[aAO (by rw[aAk,r.length];exact hi),aAD,h1];rfl,h2⟩
  ·rw[aAz (by simpa using hi),aBn]at h;split at h
   ·cases h;trivial
   ·cases h
 inj:=λi j x y a h _ o=>by
  unfold j5 at h;by_cases hi:i<ds.length
  ·rw[aAO (by simpa using hi),aAD]at h;cases e:ds[i]? with
   |none=>rw[e]at h;cases h
   |some d'=>rw[e]at h;have h':Sl.v d'=x:=aAj h;subst h';exact o.elim
  ·rw[aAz (by simpa using hi),aBn]at h;split at h
   ·cases h;exact o.elim
   ·cases h
section
variable{K:PySem.W.Frag}
abbrev TC (P:Program)(w:World)(K:PySem.W.Frag)(mg:cF)(base:Heap)(N:List Str)(qual:Str)(sc:Scope)(f:Addr)(cdv:Value)(A:Around)(outer:List Env)(s:Shared)(H:Hp)(E:XK):Cx:=(BM vM P w K mg base N qual sc f cdv A outer s H E).nox
def fnD {x qual:Str}{st:Stmt}{f:Addr}{fd:FuncData}{N ps:List Str}{k:Nat}{m:List D->R D}{F:Ev->R Out}(F0:Fun K x qual st f fd)(S:FnScope N ps (c7 st))
  (hb:∀(cdv:Value) (A:Around) (outer:List Env) (s:Shared) (H:Hp) (E:XK),Room k (A.deeper (envOfC qual (c7 st) s.heap.objs.size f cdv))->bZ (TC P w K mg base N qual (c7 st) f cdv A outer s H E) (u5 st) F)
  (hm:∀ds d,ds.length=ps.length->m ds=.ok d->L4 (F (j5 N ds))=.ok d):FnOk P w K mg base vM (k+1) f fd ps (YR K ps.length m):=by
 refine F0.ok S (λvs H Q E ⟨O,ds,d,r,hl,_⟩=>by rw[r.length];exact hl) (λcdv A outer s H vs Q E hr ⟨O,ds,d,r,hl,ht,tb,fk,e,q⟩=>?_);refine⟨_,hb cdv A outer s H E hr H O,O,_,rQ r ht tb,fk,?_⟩;have h:=hm ds d hl e;cases e1:F (j5 N ds)with
 |ok o=>
  rw[e1]at h;cases o with
  |rt d'=>have h':R.ok d'=R.ok d:=h;injection h' with h';subst h';exact q
  |nx ρ=>have h':R.ok D.non=R.ok d:=h;injection h' with h';subst h';exactλai H' O' E' _ _=>q .non H' E'.same .non
  |bk ρ=>cases h
  |ct ρ=>cases h
 |ex x=>rw[e1]at h;cases h
 |bad=>rw[e1]at h;cases h
end
section
def oQ (I:Inv X pins σ H s)(O:Addr->Prop)(t:∀a,O a->∃o,H a=some o/\Mt o):cD X.K O:=λa o hk z=>by obtain⟨u,h,_⟩:=t a z;have:=(I.bs a o<|I.ok.mod.kin a o hk).2;rw[h]at this;cases this
def QO (F:FnOk X.prog X.w X.K X.mg X.base vM k g gd ps (YR X.K n m))(hr:Room k X.A)(hm:X.mg x=some (.ref g))(hk:PySem.W.keepIn X.K (.ref g)=true)(hb:Binds X.K gd ps [])(ha:IL X (e::es) f)(hl:∀ρ ds,f ρ=.ok ds->ds.length=n)(hg:Gl X x:=by rfl)(ia:(x==("__debug__":Str))=false:=by decide)(he:starEach (e::es) X.env=(false,eval e X.env)::starEach es X.env:=by rfl)(bf:(backTo pos (starEach es X.env)).any (·.1)=false:=by rfl):
  PD X (.Call (.Name x p) (e::es) [] pos) (λρ=>(f ρ).bind m):=by
 refine vU λpins s σ H Q I H9 O0 O ρ E q=>?_;refine TF F hr hg hm hk hb .nil dj ha ia he bf pins s σ H Q I ⟨H9,O0,O,ρ,E,?_⟩;dsimp only at q;cases e1:f ρ with
 |ex z=>rw[e1]at q;exact q
 |bad=>rw[e1]at q;exact q
 |ok ds=>
  rw[e1,R.aa0]at q;intro vs H1 s1 r1;rw[aCB];have E1:=E.grow s1;cases e2:m ds with
  |ex z=>rw[e2]at q;exact(q H<|Same.refl _).elim
  |bad=>rw[e2]at q;exact q.elim
  |ok d=>rw[e2]at q;refine⟨O,ds,d,r1,hl ρ ds e1,E1.trk,E1.tab,?_,e2,λv H' s2 r2=>q v H' (s1.trans s2) r2⟩;exact oQ I O E.trk
end
def IQ (env:Env):List (Str×NameKind)->List (Str×Addr)->List (Str×Addr)
 |[],acc=>acc
 |(n,k)::r,acc=>IQ env r (if k=.free then(n,(env.cells.lookup n).getD 0)::acc else acc)
def Z0 (h:∀y∈scope.names,y.2=.free->∃c,env.cells.lookup y.1=some c):closureFor scope env=pure (IQ env scope.names []):=by
 have go:∀(names:List (Str×NameKind)) (acc:List (Str×Addr)),(∀y∈names,y.2=.free->∃c,env.cells.lookup y.1=some c)->
   (forIn names acc λ(x:Str×NameKind) (r:List (Str×Addr))=>(match x with
    |(name,kind)=>if(kind==NameKind.free)=true then(do let a<-cellOf env name;pure (aCj ((name,a)::r)))else pure (aCj r):Sem (ForInStep<|List<|Str×Addr)))=pure (IQ env names acc):=by
  intro names;induction names with
  |nil=>intro acc _;rfl
  |cons y r ih=>
   intro acc hy;obtain⟨n,k⟩:=y;rw[aCR];by_cases hk:k=.free
   ·subst hk;obtain⟨c,hc⟩:=hy (n,.free) aAL rfl;have e:cellOf env n=pure c:=by unfold cellOf;rw[hc]
    simp only[beq_self_eq_true,if_true,e,pure_bind];rw[ih _ λz hz=>hy z (aAe _ hz)];simp[IQ,hc]
   ·have hb:(k==NameKind.free)=false:=by simpa using hk
    simp only[hb,aAt,if_false,pure_bind];rw[ih _ λz hz=>hy z (aAe _ hz)];simp[IQ,hk]
 have e:=go scope.names [] h;show((forIn scope.names ([]:List (Str×Addr)) λ(x:Str×NameKind) (r:List (Str×Addr))=>(match x with
    |(name,kind)=>if(kind==NameKind.free)=true then(do let a<-cellOf env name;pure (aCj ((name,a)::r)))else pure (aCj r):Sem (ForInStep<|List<|Str×Addr)))>>=λs=>pure s)=_
 rw[e];rfl
theorem xN:∀(names:List (Str×NameKind)) (acc:List (Str×Addr)) {x:Str} {c:Addr},(∀y∈names,y.2=.free->∃c,env.cells.lookup y.1=some c)->(∀x c,acc.lookup x=some c->env.cells.lookup x=some c)->
  (IQ env names acc).lookup x=some c->env.cells.lookup x=some c
 |[],acc,x,c,_,ha,h=>ha x c h
 |(n,k)::r,acc,x,c,hy,ha,h=>by
  refine xN r _ (λy hm=>hy y (aAe _ hm)) (λx' c' h'=>?_) h;by_cases hk:k=.free
  ·rw[if_pos hk]at h';obtain⟨c0,hc⟩:=hy (n,k) aAL hk;by_cases hx:x'=n
   ·subst hx;rw[aBB]at h';rw[hc]at h';rw[hc];exact h'
   ·rw[aAZ,beq_eq_false_iff_ne.mpr hx]at h';exact ha x' c' h'
  ·rw[if_neg hk]at h';exact ha x' c' h'
theorem tZ:∀(names:List (Str×NameKind)) (acc:List (Str×Addr)) {x:Str},((x,NameKind.free)∈names\/∃c,acc.lookup x=some c)->∃c,(IQ env names acc).lookup x=some c
 |[],acc,x,h=>by
  rcases h with h|h
  ·cases h
  ·exact h
 |(n,k)::r,acc,x,h=>by
  refine tZ r _ ?_;rcases h with h|⟨c,h⟩
  ·rcases aAd.mp h with e|h
   ·cases e;right;rw[if_pos rfl,aBB];exact⟨_,rfl⟩
   ·exact .inl h
  ·right;by_cases hk:k=.free
   ·rw[if_pos hk,aAZ];cases(x==n)with
    |true=>exact⟨_,rfl⟩
    |false=>exact⟨c,h⟩
   ·rw[if_neg hk];exact⟨c,h⟩
theorem iP {env:Env}:∀{names:List (Str×NameKind)} {x:Str},
  ((names.map λ(n,k)=>if(k==NameKind.free&&env.scope.kind==.function&&env.kindOf n==some .cell)then(n,aBX)else(n,k)).lookup x=some .cell\/
   (names.map λ(n,k)=>if(k==NameKind.free&&env.scope.kind==.function&&env.kindOf n==some .cell)then(n,aBX)else(n,k)).lookup x=some .free)->(x,NameKind.free)∈names\/names.lookup x=some .cell
 |[],_,h=>by rcases h with h|h<;>cases h
 |(n,k)::r,x,h=>by
  have ih:=@iP env r x;rw[aAy]at h;dsimp only at h;by_cases hx:x=n
  ·subst hx;by_cases hk:(k==NameKind.free&&env.scope.kind==.function&&env.kindOf x==some .cell)=true
   ·have kf:k=.free:=by rw[aAK,aAK]at hk;simpa using hk.1.1
    subst kf;exact .inl aAL
   ·rw[if_neg hk,aBB]at h;rcases h with h|h
    ·right;rw[aBB];exact h
    ·have:k=.free:=aAj h;subst this;exact .inl aAL
  ·have h':(r.map λ(n,k)=>if(k==NameKind.free&&env.scope.kind==.function&&env.kindOf n==some .cell)then(n,aBX)else(n,k)).lookup x=some .cell\/
     (r.map λ(n,k)=>if(k==NameKind.free&&env.scope.kind==.function&&env.kindOf n==some .cell)then(n,aBX)else(n,k)).lookup x=some .free:=by
    by_cases hk:(k==NameKind.free&&env.scope.kind==.function&&env.kindOf n==some .cell)=true
    ·rw[if_pos hk,aAZ,beq_eq_false_iff_ne.mpr hx]at h;exact h
    ·rw[if_neg hk,aAZ,beq_eq_false_iff_ne.mpr hx]at h;exact h
   rcases ih h' with h|h
   ·exact .inl (aAe _ h)
   ·right;rw[aAZ,beq_eq_false_iff_ne.mpr hx];exact h
theorem pC:∀(names:List (Str×NameKind)) (h:Heap) (acc:List (Str×Addr)) {x:Str} {c:Addr},(cellsFrom h.objs.size names acc).lookup x=some c->acc.lookup x=some c\/((pushCells h names).IsCell c none/\h.objs.size<=c)
 |[],h,acc,x,c,e=>.inl e
 |(n,k)::r,h,acc,x,c,e=>by
  unfold cellsFrom at e;unfold pushCells;split at e
  ·rename_i hk;rw[if_pos hk];rcases pC r (h.push {cls:=.type "cell",data:=.cell none}) ((n,h.objs.size)::acc) (x:=x) (c:=c) (by rw[aBv];exact e)with h1|⟨h1,h2⟩
   ·rw[aAZ]at h1;cases hx:(x==n)with
    |true=>rw[hx]at h1;have e':h.objs.size=c:=aAj h1;subst e';exact .inr ⟨⟨_,aEt _ _ _ _ (aAp _ rfl),rfl⟩,aAh _⟩
    |false=>rw[hx]at h1;exact .inl h1
   ·exact .inr ⟨h1,by rw[aBv]at h2;exact aCy h2⟩
  ·rename_i hk;rw[if_neg hk];exact pC r h acc e
theorem kJ:∀(names:List (Str×NameKind)) (n:Nat) (acc:List (Str×Addr)) {x:Str} {c:Addr},(cellsFrom n names acc).lookup x=some c->acc.lookup x=some c\/n<=c
 |[],n,acc,x,c,e=>.inl e
 |(m,k)::r,n,acc,x,c,e=>by
  unfold cellsFrom at e;split at e
  ·rcases kJ r (n+1) _ e with h1|h1
   ·rw[aAZ]at h1;cases hx:(x==m)with
    |true=>rw[hx]at h1;exact .inr (aEb (aAj h1))
    |false=>rw[hx]at h1;exact .inl h1
   ·exact .inr (aCy h1)
  ·exact kJ r n acc e
theorem nZ:∀(names:List (Str×NameKind)) (n:Nat) (acc:List (Str×Addr)) {x:Str} {c:Addr},(x,aBX)∈names->(cellsFrom n names acc).lookup x=some c->n<=c
 |[],n,acc,x,c,hm,e=>nomatch hm
 |(m,k)::r,n,acc,x,c,hm,e=>by
  unfold cellsFrom at e;rcases aAd.mp hm with hm|hm
  ·cases hm;rw[if_pos (show(aBX==aBX)=true from rfl)]at e;rcases kJ r (n+1) _ e with h1|h1
   ·rw[aBB]at h1;exact aEb (aAj h1)
   ·exact aCy h1
  ·split at e
   ·exact aCy (nZ r (n+1) _ hm e)
   ·exact nZ r n acc hm e
theorem pB:∀(names:List (Str×NameKind)) (n:Nat) (acc:List (Str×Addr)) {x:Str},(x,aBX)∉names->(cellsFrom n names acc).lookup x=acc.lookup x
 |[],n,acc,x,_=>rfl
 |(m,k)::r,n,acc,x,hm=>by
  unfold cellsFrom;split
  ·rename_i hk;rw[pB r (n+1) _ λz=>hm (aAe _ z),aAZ];cases hx:(x==m)with
   |true=>
    have e1:x=m:=by simpa using hx
    have e2:k=.cell:=by simpa using hk
    exact absurd (by rw[e1,e2];exact aAL) hm
   |false=>rfl
  ·exact pB r n acc λz=>hm (aAe _ z)
theorem jW:∀(names:List (Str×NameKind)) (n:Nat) (acc:List (Str×Addr)),(∀x c,acc.lookup x=some c->c<n)->(∀x y c,acc.lookup x=some c->acc.lookup y=some c->x=y)->
  ∀x y c,(cellsFrom n names acc).lookup x=some c->(cellsFrom n names acc).lookup y=some c->x=y
 |[],n,acc,_,h=>h
 |(m,k)::r,n,acc,hl,h=>by
  unfold cellsFrom;split
  ·refine jW r (n+1) _ (λx c e=>?_) λx y c e1 e2=>?_
   ·rw[aAZ]at e;cases hx:(x==m)with
    |true=>rw[hx]at e;rw[<-aAj e];exact aDD _
    |false=>rw[hx]at e;exact aBw (hl x c e)
   ·rw[aAZ]at e1 e2;cases hx:(x==m)with
    |true=>
     rw[hx]at e1;cases hy:(y==m)with
     |true=>rw[show x=m by simpa using hx,show y=m by simpa using hy]
     |false=>rw[hy]at e2;rw[<-aAj e1]at e2;exact absurd (hl y _ e2) (aBe _)
    |false=>
     rw[hx]at e1;cases hy:(y==m)with
     |true=>rw[hy]at e2;rw[<-aAj e2]at e1;exact absurd (hl x _ e1) (aBe _)
     |false=>rw[hy]at e2;exact h x y c e1 e2
  ·exact jW r n acc hl h
abbrev cQ (X:Cx)(scope:Scope)(C:Addr):List (Str×Addr):=cellsFrom (C+1) scope.names (IQ X.env scope.names [])
def HR {E:C8}{Q:Env->Shared->Prop}(hQ:Q (newEnv scope s.heap.objs.size g (cellsFrom (s.heap.objs.size+1) scope.names cl) q none .none (some env) builtinsNs) {s with heap:=pushCells (s.heap.push {cls:=.type "dict",data:=.dict #[]}) scope.names}):
  wpAny M A (newFunctionEnv scope g cl [] q none .none (some env)) Q E s:=by
 simp only[newFunctionEnv,Option.isSome_some,if_true];refine aAa (wpAny_alloc ?_);refine aAa (wpAny_layCells _ (λname kind cells=>by cases hkc:kind==aBX<;>simp[hkc]) _ _ _ _ ?_);rw[show({s with heap:=s.heap.push {cls:=.type "dict",data:=.dict #[]}}:Shared).heap.objs.size=s.heap.objs.size+1 from aBv ..];exact aAa (aAb<|aAb hQ)
def GS {R:Result->Shared->Prop}(I:Nat->Shared->Prop)(turn:∀n s,I n s->wpAny (model prog w) A (pyNext it) (λr ae=>match r with
   |none=>R (.ok .next) ae
   |some v=>wpAny (model prog w) A (letOwnedTupleGo target it v) (λ_ s'0=>wpAny (model prog w) A (assign target env v) (λ_ gh=>
    wpAny (model prog w) A (forIn ifs true λc r=>if r=true then do let ok<-isTrue c env (eval c env);pure (aCj ok)else pure (aCj r)) (λok se=>
     if ok=true then wpAny (model prog w) A (eval elt env) (λx sh=>wpAny (model prog w) A (call (.builtin "list.append") [acc,x]) (λ_ si=>∃m,m<n/\I m si) (λ_ _=>False) sh) (λ_ _=>False) se
     else∃m,m<n/\I m se) (λ_ _=>False) gh) (λ_ _=>False) s'0) (λ_ _=>False) ae) (λ_ _=>False) s) (n:Nat) (h:I n s):codeAny (model prog w) A (.compLoop (.ListComp elt [⟨target,iter,ifs,0⟩] scope pos) 0 it acc env) R s:=by
 refine codeAny_loop rfl I (λn s hI=>?_) n h;show wpAny _ A ((compTurn (.ListComp elt [⟨target,iter,ifs,0⟩] scope pos) 0 it acc env).onRaise (λx=>do noteFrame x env;theTreesLotGoes x)) _ _ s;refine wpAny_noted ?_;rw[compTurn_list];refine aAa (aDL<|aAa<|aCn (turn n s hI) (λr ae h₁=>?_) λ_ _ h'=>h'.elim);cases r with
 |none=>exact aAb h₁
 |some v=>
  refine aAa (aCn h₁ (λ_ s'0 h'0=>?_) λ_ _ h'=>h'.elim);refine aAa (aCn h'0 (λ_ gh ir=>aAa (aCn ir (λok se aA=>?_) λ_ _ h'=>h'.elim)) λ_ _ h'=>h'.elim);cases ok with
  |false=>exact aAb ⟨rfl,aA⟩
  |true=>exact aAa (aAa<|aCn aA (λx sh hV=>aAa (aCn hV (λ_ si h9=>aAb (aAb ⟨rfl,h9⟩)) λ_ _ h'=>h'.elim)) λ_ _ h'=>h'.elim)
def GQ (X:Cx)(pins:N5)(s9:Shared)(H9:Hp)(N':List Str)(scope:Scope)(cl:List (Str×Addr))(C:Addr)(fp:List Addr):Cx where
 prog:=X.prog
 w:=X.w
 K:=X.K
 mg:=X.mg
 base:=X.base
 A:=X.A
 N:=N'
 s9:=s9
 H9:=H9
 env:=compEnvC scope cl C X.env
 outer:=X.stack
 stack:=X.stack
 ex:=fp
 fn:=λx=>scope.names.lookup x==some .cell
 calm:=X.calm
 pn:=X.pn++pins
 xe:=λ_ _=>False
structure CompSc (X:Cx)(scope:Scope)(own fr:List Str)(js:List Nat):Prop where
 kind:scope.kind=.function
 apart:∀y∈scope.names,y.2=.free->(y.1,aBX)∉scope.names
 names:∀y∈scope.names,y.2=.local->scope.names.lookup y.1=some .local
 free:∀y∈scope.names,y.2=.free->X.env.kindOf y.1=some .cell\/X.env.kindOf y.1=some .free
 len:js.length=fr.length
 at_:∀(i j:Nat) (x:Str),js[i]?=some j->fr[i]?=some x->X.N[j]?=some x/\(x,NameKind.free)∈scope.names
 nd:js.Nodup
 dis:∀y∈scope.names,y.2=.free->scope.names.lookup y.1=some .free
def seen:Sl->Sl
 |.v d=>.v d
 |_=>.no
def f9 (own:List Str)(js:List Nat)(ρ:Ev):Ev:=aCJ own.length Sl.no++js.map λj=>seen (ρ.getD j Sl.no)
def X4 (own:List Str)(js:List Nat)(σ:St):St:=aCJ own.length none++js.map λj=>σ.getD j none
def Inv.aa9 (I:L2.Inv X pins σ H s)(S:CompSc X scope own fr js):∀y∈scope.names,y.2=.free->∃c,X.env.cells.lookup y.1=some c:=
 λy hy hf=>I.ok.has y.1 (S.free y hy hf)
def bE (h:(f9 own js ρ)[i]?=some sl):sl=.no\/∃d j,sl=.v d/\own.length<=i/\js[i-own.length]?=some j/\ρ[j]?=some (.v d):=by
 unfold f9 at h;by_cases hi:i<own.length
 ·rw[aAO (by simpa using hi),aBn,if_pos hi]at h;cases h;exact .inl rfl
 ·have fo:own.length<=i:=aEj hi;rw[aAz (by simpa using fo),aCi,aAD]at h;cases e:js[i-own.length]? with
  |none=>rw[e]at h;cases h
  |some j=>
   rw[e]at h;have h':seen (ρ.getD j Sl.no)=sl:=aAj h;rw[aAn]at h';cases e2:ρ[j]? with
   |none=>rw[e2]at h';subst h';exact .inl rfl
   |some z=>
    rw[e2]at h';cases z with
    |v d=>subst h';exact .inr ⟨d,j,rfl,fo,rfl,e2⟩
    |_=>subst h';exact .inl rfl
def FM {K:PySem.W.Frag}{H9 H:Hp}{O0 O:Addr->Prop}{σ:St}{ρ:Ev}{own:List Str}{js:List Nat}(E:EnvOk K H9 O0 H O σ ρ):EnvOk K H9 O0 H O (X4 own js σ) (f9 own js ρ):=by
 refine⟨by simp[X4,f9],E.same,E.sub,E.trk,E.trk0,E.tab,λi sl h=>?_,λi j x y a h1 h2 o=>?_⟩
 ·rcases bE h with rfl|⟨d,j,rfl,fo,e,h1⟩
  ·trivial
  ·obtain⟨v,h3,h4⟩:=E.val j d h1;refine⟨v,?_,h4⟩;unfold X4;rw[aAz (by simpa using fo),aCi,aAD,e];show some (σ.getD j none)=some (some v);rw[aAn,h3];rfl
 ·rcases bE h1 with rfl|⟨d,j,rfl,_⟩
  ·exact o.elim
  ·exact o.elim
def FQ (I:L2.Inv X pins σ H s)(S:CompSc X scope own fr js)(ve:∀b∈fp,lT X pins H b)(ar:∀b∈fp,b<s.heap.objs.size)(e8:h₁=pushCells (s.heap.push {cls:=.type "dict",data:=.dict #[]}) scope.names):
  L2.Inv (GQ X pins s H (own++fr) scope (cQ X scope s.heap.objs.size) s.heap.objs.size fp) [] (X4 own js σ) H {s with heap:=h₁,toks:=tk}:=by
 have hcells:=Inv.aa9 I S;have keep:∀b o,s.heap.get? b=some o->h₁.get? b=some o:=λb o e=>by rw[e8];exact aEt _ _ _ _ (aAc _ e)
 have ym:h₁.Ns s.heap.objs.size (λ_=>none):=by rw[e8];exact(Heap.Ns.new s.heap<|.type "dict").keeps (aEt _ _)
 have cc:∀x c,(cQ X scope s.heap.objs.size).lookup x=some c->(IQ X.env scope.names []).lookup x=some c\/(h₁.IsCell c none/\s.heap.objs.size+1<=c):=λx c h=>by have:=pC scope.names (s.heap.push {cls:=.type "dict",data:=.dict #[]}) (IQ X.env scope.names []) (x:=x) (c:=c) (by rw[aBv];exact h);rw[aBv,<-e8]at this;exact this
 have eu:∀x c,(IQ X.env scope.names []).lookup x=some c->X.env.cells.lookup x=some c:=λx c h=>xN scope.names [] hcells (λ_ _ z=>(by cases z)) h;have base_lt:∀b o,X.base.get? b=some o->b∉fp:=λb o e hb=>by
  rcases(ve b hb).2.2.2.1 with z|z
  ·exact I.ok.noex b o e z
  ·exact absurd (aAs (aAf e)<|aAr I.ok.bsz z) (aBe _)
 have nfs:∀b∈fp,b∉yV X.stack:=λb hb z=>by
  rcases aAd.mp (I.ab6 b z)with e|z
  ·exact(ve b hb).2.1 e
  ·exact(ve b hb).2.2.1 z
 have old_lt:∀x c,X.env.cells.lookup x=some c->c<s.heap.objs.size+1:=λx c h=>by obtain⟨v,o,ho,_⟩:=I.cell x c h;exact aBw (aAf ho)
 have has:∀x,((relabel scope X.env).names.lookup x=some .cell\/(relabel scope X.env).names.lookup x=some .free)->∃c,(cQ X scope s.heap.objs.size).lookup x=some c:=λx hx=>by
  have:((cQ X scope s.heap.objs.size).lookup x).isSome=true:=PySem.W.cellsFrom_some _ _ _ (by
   rcases iP hx with h|h
   ·obtain⟨c,hc⟩:=tZ (env:=X.env) scope.names [] (x:=x) (.inl h);exact .inr (by rw[hc];rfl)
   ·exact .inl h)
  exact aFa.mp this
 refine⟨⟨I.ok.mod,S.kind,I.ok.glob,I.ok.blt,aAh _,jW scope.names _ _ (λx c h=>old_lt x c (eu x c h)) (λx y c h1 h2=>I.ok.inj x y c (eu x c h1) (eu y c h2)),has,λx c hf h=>aCy (nZ scope.names _ _ (PySem.mem_of_lookup<|eq_of_beq hf) h),I.ok.hd,I.ok.frames,.inl rfl,
  λb hb=>⟨aAi (ar b hb),λx c h=>(cc x c h).elim (λh=>(ve b hb).2.2.2.2.1 x c (eu x c h)) λ⟨_,h2⟩ z=>absurd (aAs (ar b hb)<|aCy h2) (by rw[z];exact aBe _)⟩,I.bs,aAr I.ok.bsz I.sz,λb o e=>base_lt b o e,nfs,I.stack,I.ad4⟩,rfl,I.bare,Un.kept keep,⟨_,ym,λi x v e1 e2 e3=>?_⟩,λx c h=>?_,I.hok.fresh (aAh _),λx c h=>(cc x c h).elim (λh=>I.freeC x c (eu x c h)) λ⟨_,h2⟩=>I.hok.fresh (aCy h2),λp hp=>?_,I.hok.kept keep,?_⟩
 ·
  have hlen:(own++fr).length=(X4 own js σ).length:=by simp[X4,S.len]
  unfold X4 at e2;by_cases hi:i<own.length
  ·rw[aAO (by simpa using hi),aBn,if_pos hi]at e2;cases e2
  ·have fo:own.length<=i:=aEj hi;rw[aAz (by simpa using fo),aCi,aAD]at e2;have zv:(own++fr)[i]?=some x:=e1;rw[aAz fo]at zv;cases e:js[i-own.length]? with
   |none=>rw[e]at e2;cases e2
   |some j=>
    rw[e]at e2;have e2':σ.getD j none=some v:=aAj e2;obtain⟨hN,jl⟩:=S.at_ (i-own.length) j x e zv;have hσ:σ[j]?=some (some v):=by
     rw[aAn]at e2';cases e4:σ[j]? with
     |none=>rw[e4]at e2';cases e2'
     |some z=>rw[e4]at e2';exact congrArg some e2'
    have hk:=S.free (x,.free) jl rfl;have hvis:zJ X.env.scope x:=.inr hk;obtain⟨m,hn,hl⟩:=I.loc;obtain⟨u,r,lk⟩:=hl j x v hN hσ hvis;refine⟨u,r,?_⟩;rcases lk with⟨ke,_⟩|⟨_,c,hc,fg⟩
    ·rcases hk with hk|hk<;>(rw[ke]at hk;cases hk)
    ·right;obtain⟨c',xi⟩:=tZ (env:=X.env) scope.names [] (x:=x) (.inl jl);have:=eu x c' xi;rw[hc]at this;cases this;refine⟨?_,c,(pB scope.names _ _<|S.apart (x,.free) jl rfl).trans xi,?_⟩
     ·rcases e3 with e3|e3|e3
      ·
       have hq:(relabel scope X.env).names.lookup x=some .local:=e3;exfalso;have:∀names:List (Str×NameKind),(names.map λ(n,k)=>if(k==NameKind.free&&X.env.scope.kind==.function&&X.env.kindOf n==some .cell)then(n,aBX)else(n,k)).lookup x=some .local->names.lookup x=some .local:=by
        intro names;induction names with
        |nil=>intro h;cases h
        |cons y r ih=>
         obtain⟨n,k⟩:=y;intro h;rw[aAy]at h;dsimp only at h;by_cases hx:x=n
         ·subst hx;by_cases hkk:(k==NameKind.free&&X.env.scope.kind==.function&&X.env.kindOf x==some .cell)=true
          ·rw[if_pos hkk,aBB]at h;cases h
          ·rw[if_neg hkk,aBB]at h;rw[aBB];exact h
         ·rw[aAZ,beq_eq_false_iff_ne.mpr hx];by_cases hkk:(k==NameKind.free&&X.env.scope.kind==.function&&X.env.kindOf n==some .cell)=true
          ·rw[if_pos hkk,aAZ,beq_eq_false_iff_ne.mpr hx]at h;exact ih h
          ·rw[if_neg hkk,aAZ,beq_eq_false_iff_ne.mpr hx]at h;exact ih h
       have h2:=this scope.names hq;rw[S.dis (x,.free) jl rfl]at h2;cases h2
      ·exact .inl e3
      ·exact .inr e3
     ·obtain⟨o,ho,hd⟩:=fg;exact⟨o,keep c o ho,hd⟩
 ·rcases cc x c h with h|⟨h,_⟩
  ·obtain⟨v,o,ho,hd⟩:=I.cell x c (eu x c h);exact⟨v,o,keep c o ho,hd⟩
  ·exact⟨_,h⟩
 ·have hp':p∈X.pn++pins:=by simpa[GQ]using hp
  obtain⟨e,n,ne,nf,d⟩:=I.pin p hp';refine⟨keep _ _ e,n,aAi (aAf e),λz=>?_,d⟩;rcases aAd.mp (I.ab6 p.1 z)with e'|z'
  ·exact ne e'
  ·exact nf z'
 ·simp[X4,GQ,S.len]
def u4 (G:D->Ev->R Ev)(ft:Ev->R Bool)(fe:Ev->R D)(ρ:Ev):List D->R (List D)
 |[]=>.ok []
 |d::ds=>match G d ρ with
  |.ok ρ1=>(ft ρ1).bind λb=>if b=true then(fe ρ1).bind λr=>(u4 G ft fe ρ ds).bind λrs=>.ok (r::rs)else u4 G ft fe ρ ds
  |_=>.bad
def qF (ρ1 ρ:Ev):Prop:=ρ1.length=ρ.length/\∀(i:Nat) (sl:Sl),ρ[i]?=some sl->sl≠.no->ρ1[i]?=some sl
def EnvOk.weak {K:PySem.W.Frag}{H9 H:Hp}{O0 O:Addr->Prop}{σ:St}{ρ1 ρ:Ev}(E:EnvOk K H9 O0 H O σ ρ1)(h:qF ρ1 ρ):EnvOk K H9 O0 H O σ ρ where
 len:=E.len.trans h.1
 same:=E.same
 sub:=E.sub
 trk:=E.trk
 trk0:=E.trk0
 tab:=E.tab
 slot:=λi sl e=>by
  by_cases n:sl=.no
  ·subst n;trivial
  ·exact E.slot i sl (h.2 i _ e n)
 inj:=λi j x y a h1 h2 o1 o2=>E.inj i j x y a (h.2 i _ h1 (by rintro rfl;exact o1)) (h.2 j _ h2 (by rintro rfl;exact o2)) o1 o2
def R9 (H:Hp)(a:Addr):Hp:=λb=>if b=a then none else H b
def AQ (H:Hp)(a:Addr):R9 H a a=none:=if_pos rfl
def W3 (h:b≠a):R9 H a b=H b:=if_neg h
def FY (h:H a=some o):upd (R9 H a) a o=H:=by
 funext b
 unfold upd R9;by_cases hb:b=a
 ·subst hb;rw[if_pos rfl,h]
 ·rw[if_neg hb,if_neg hb]
def EnvOk.ae3 {K:PySem.W.Frag}{H9 H:Hp}{O0 O:Addr->Prop}{σ:St}{ρ:Ev}{a:Addr}{vs:List V}(E:EnvOk K H9 O0 H O σ ρ)(h:H a=none)(hk:K.lookup a=none):EnvOk K H9 O0 (upd H a (.lst vs)) (λb=>O b\/b=a) σ ρ:=E.ab8 h hk trivial
def Rep.hidden {K:PySem.W.Frag}{H:Hp}{O:Addr->Prop}{a:Addr}{vs:List V}{v:V}{d:D}(h:H a=some (.lst vs))(r:Rep K H (λb=>O b\/b=a) v d):Rep K (R9 H a) O v d:=by
 refine r.mono (λb xs q=>?_) (λb xs n q=>⟨λz=>n (.inl z),?_⟩) λb φ n q=>⟨λz=>n (.inl z),by rw[W3 λz=>n (.inr z)];exact q⟩
 ·rcases q with(q|⟨o,q⟩)|q
  ·exact .inl (.inl (by rw[W3 (by rintro rfl;rw[h]at q;cases q)];exact q))
  ·exact .inl (.inr ⟨o,by rw[W3 (by rintro rfl;rw[h]at q;cases q)];exact q⟩)
  ·exact .inr q
 ·have hb:b≠a:=λz=>n (.inr z);rcases q with(q|⟨o,q⟩)|q
  ·exact .inl (.inl (by rw[W3 hb];exact q))
  ·exact .inl (.inr ⟨o,by rw[W3 hb];exact q⟩)
  ·exact .inr q
def V8 (h:H a=none)(s:Same (upd H a (.lst vs)) H'):Same H (R9 H' a):=λb o q=>by
 have hb:b≠a:=by rintro rfl;rw[h]at q;cases q
 rw[W3 hb];exact s b o (by rw[l5 hb];exact q)
section
def UR (X:Cx)(ifs:List Expr)(ft:Ev->R Bool):Prop:=
 ∀(pins:N5) (s:Shared) (σ:St) (H:Hp) (Q:Bool->Hp->Prop),Inv X pins σ H s->xk X ft σ H Q->
  wpAny (model X.prog X.w) X.A (forIn ifs true λc r=>if r=true then do let ok<-isTrue c X.env (eval c X.env);pure (aCj ok)else pure (aCj r)) (TP X pins σ Q) X.xe s
def DF:UR X [] (λ_=>.ok true):=λpins s σ H Q I ⟨H9,O0,O,ρ,E,q⟩=>wpAny_tests_nil ⟨H,I,q H (Same.refl _)⟩
def SC (h:EC X c ft):UR X [c] ft:=λpins s σ H Q I q=>wpAny_tests_one (h pins s σ H Q I q)
def oE {tg elt iter:Expr}{ifs:List Expr}{scope:Scope}{own fr:List Str}{js:List Nat}{G:D->Ev->R Ev}{ft:Ev->R Bool}{fe:Ev->R D}{pins:N5}{σ:St}{H:Hp}{s:Shared}{H9:Hp}{O0 O:Addr->Prop}{ρ:Ev}
  {it:Addr} {fp:List Addr} {tn:Nat->Heap->Prop} {J:It} {ds rs:List D} {RR:Value->Addr->Result->Shared->Prop} {EE:C8} (hc:X.calm=true) (S:CompSc X scope own fr js)
  (hX:∀X':Cx,(∃s9 Ha C,X'=GQ X pins s9 Ha (own++fr) scope (cQ X scope C) C fp)->KP X' tg G/\UR X' ifs ft/\PD X' elt fe)
  (hG:∀d ρ1,G d (f9 own js ρ)=.ok ρ1->qF ρ1 (f9 own js ρ))
  (I:Inv X pins σ H s) (T:Turn X.prog X.w X.K tg J fp it tn) (st:tn 0 s.heap) (ve:∀b∈fp,lT X pins H b) (E:EnvOk X.K H9 O0 H O σ ρ) (hJ:US X.K J H O ds) (hrs:u4 G ft fe (f9 own js ρ) ds=.ok rs) (hlen:ds.length<=sizeLine)
  (fin:∀acc C s' H' m,s'.heap.Ns C m->C≠acc->s.heap.objs.size<=C->s.heap.objs.size<=acc->Same H H'->Rep X.K H' O (.ref acc) (.lst rs)->(∃H1 vs,Same H H1/\H1 acc=none/\H'=upd H1 acc (.lst vs)/\Reps X.K H1 O vs rs)->H' C=none->(∀h',Heap.SameBut C s'.heap h'->Inv X pins σ H' {s' with heap:=h'})->RR (.ref acc) C (.ok .next) s'):
  wpAny (model X.prog X.w) X.A (newList []) (λacc se=>wpAny (model X.prog X.w) X.A (newFunctionEnv scope X.env.globals (IQ X.env scope.names []) [] X.env.qual none .none (some X.env)) (λcenv sh=>codeAny (model X.prog X.w) X.A (.compStart (.ListComp elt [⟨tg,iter,ifs,0⟩] scope pos) 0 (.ref it) acc {cenv with scope:=relabel scope X.env}) (RR acc cenv.locals) sh) EE se) EE s:=by
 have hO:=oQ I O E.trk;refine aAS ?_;have hfr:H s.heap.objs.size=none:=I.hok.fresh (aAh _);have hkl:X.K.lookup s.heap.objs.size=none:=by
  cases e:X.K.lookup s.heap.objs.size with
  |none=>rfl
  |some o=>exact absurd (aAf<|I.kIn _ o e) (aBe _)
 have I1:Inv X pins σ (upd H s.heap.objs.size<|.lst []) {s with heap:=s.heap.push {cls:=.type "list",dict:=none,data:=.seq ([]:List Value).toArray}}:=
  I.laid (t':=s.toks) (λb u e=>aAc _ e) (aAh _) ⟨aBc _,[],0,.nil,aAp _ rfl⟩
 generalize dc:s.heap.objs.size=acc at*
 generalize yn:({s with heap:=s.heap.push {cls:=.type "list",dict:=none,data:=.seq ([]:List Value).toArray}}:Shared)=s1 at I1⊢;have sz1:s1.heap.objs.size=acc+1:=by rw[<-yn,<-dc];exact aBv _ _
 have keep1:∀b o,s.heap.get? b=some o->s1.heap.get? b=some o:=λb o e=>by rw[<-yn];exact aAc _ e
 have vf:∀b∈fp,b<acc:=λb hb=>by obtain⟨o,e,_⟩:=T.obj 0 _ st b hb;rw[<-dc];exact aAf e
 have hfp1:∀b∈fp,lT X pins (upd H acc<|.lst []) b:=λb hb=>by obtain⟨f0,f⟩:=ve b hb;exact⟨by rw[l5 (aAi<|vf b hb)];exact f0,f⟩
 refine HR ?_;obtain⟨h₁,e8⟩:∃h₁,pushCells (s1.heap.push {cls:=.type "dict",data:=.dict #[]}) scope.names=h₁:=⟨_,rfl⟩;rw[e8];have keep2:∀b o,s1.heap.get? b=some o->h₁.get? b=some o:=λb o e=>by rw[<-e8];exact aEt _ _ _ _ (aAc _ e)
 have IB:=FQ (tk:=s1.toks) I1 S hfp1 (λb hb=>by rw[sz1];exact aBw (vf b hb)) e8.symm;generalize hC:s1.heap.objs.size=C at*
 obtain⟨hG',hT',hE'⟩:=hX _ ⟨s1,upd H acc (.lst []),C,rfl⟩;generalize ni:GQ X pins s1 (upd H acc<|.lst []) (own++fr) scope (cQ X scope C) C fp=X' at IB hG' hT' hE';have eP:X'.prog=X.prog:=by rw[<-ni];rfl
 have eW:X'.w=X.w:=by rw[<-ni];rfl
 have eK:X'.K=X.K:=by rw[<-ni];rfl
 have eA:X'.A=X.A:=by rw[<-ni];rfl
 have eC:X'.calm=true:=by rw[<-ni];exact hc
 have eX:X'.xe=λ_ _=>False:=by rw[<-ni];rfl
 have eE:X'.env=compEnvC scope (cQ X scope C) C X.env:=by rw[<-ni];rfl
 have eX0:X'.ex=fp:=by rw[<-ni];rfl
 have ePn:X'.pn=X.pn++pins:=by rw[<-ni];rfl
 have eFs:X'.fs=yV X.stack:=by rw[<-ni];rfl
 have eS0:X'.s9=s1:=by rw[<-ni];rfl
 have eH0:X'.H9=upd H acc (.lst []):=by rw[<-ni];rfl
 have eL:X'.env.locals=C:=by rw[eE];rfl
 have eCe:X'.env.cells=cQ X scope C:=by rw[eE];rfl
 have I2of:=IB;have cell_ne:∀b∈fp,∀x c,X'.env.cells.lookup x=some c->c≠b:=λb hb x c h=>(I2of.ok.exf b (by rw[eX0];exact hb)).2 x c h;have accC:acc≠C:=by rw[sz1];exact aAi (aDD _)
 have fpC:∀b∈fp,b≠C:=λb hb=>by have h1:=vf b hb;rw[sz1];exact aAi (aBw h1)
 have fpB:∀{H':Hp},(∀b∈fp,H' b=none)->∀b∈fp,lT X' [] H' b:=λ{H'} hn b hb=>by
  obtain⟨f0,f1,f2,f3,f4,f5⟩:=ve b hb;refine⟨hn b hb,by rw[eL];exact fpC b hb,?_,.inl (by rw[eX0];exact hb),λx c h=>cell_ne b hb x c h,λp hp=>f5 p (by rw[ePn,aCB]at hp;exact hp)⟩;rw[eFs];intro z;rcases aAd.mp (I.ab6 b z)with e|z
  ·exact f1 e
  ·exact f2 z
 have mR:tn 0 h₁:=T.keep 0 s.heap h₁ st λb hb o e=>keep2 b o (keep1 b o e)
 let Iv:Nat->Shared->Prop:=λn s'=>∃i ai Hx vs rd,n=ds.length-i/\i<=ds.length/\Inv X' [] ai (upd Hx acc<|.lst vs) s'/\Hx acc=none/\tn i s'.heap/\(∀b∈fp,Hx b=none)/\EnvOk X.K H9 O0 Hx O ai (f9 own js ρ)/\Same H Hx/\
  Reps X.K Hx O vs rd/\(∃rest,u4 G ft fe (f9 own js ρ) (ds.drop i)=.ok rest/\rs=rd++rest)/\vs.length<=i
 have loop:codeAny (model X.prog X.w) X.A (.compLoop (.ListComp elt [⟨tg,iter,ifs,0⟩] scope pos) 0 (.ref it) (.ref acc) (compEnvC scope (cQ X scope C) C X.env)) (RR (.ref acc) C) {s1 with heap:=h₁}:=by
  refine GS Iv ?_ ds.length ⟨0,_,H,[],[],by simp,aBc _,IB,hfr,mR,λb hb=>(ve b hb).1,FM E,Same.refl H,.nil,⟨rs,by rw[aFQ];exact hrs,rfl⟩,aBc _⟩;rintro n s2 ⟨i,um,Hx,vs,rd,rfl,hi,I2,xr,ju,fx2,E2,yo,r2,⟨rest,ah,vg⟩,hvl⟩;have fr2:∀b∈fp,(upd Hx acc<|.lst vs) b=none:=λb hb=>by rw[l5 (aAi<|vf b hb)];exact fx2 b hb
  have sU:=j7 xr (.lst vs);have hit:=hJ (upd Hx acc<|.lst vs) (λb=>O b\/b=acc) (λb o q n=>⟨sU b o (yo b o q),λz=>z.elim n λz=>by subst z;rw[hfr]at q;cases q⟩) (λa o q z=>z.elim (hO a o q) λz=>by subst z;rw[hkl]at q;cases q) E.trk
   (λa z=>(E2.ae3 (vs:=vs) xr hkl).trk a z) i
  by_cases ar:i<ds.length
  ·obtain⟨go,yl⟩:=hit.1 ds[i] (aAg ar);rw[aDy ar,u4]at ah;have nu:=T.item X' eP eW eK eC i [] s2 um _ (λ_ _=>False) I2 (fpB fr2) ju go;rw[eA]at nu;refine D9 nu λr s3 ⟨u,hr,h3⟩=>?_;subst hr;refine D9 h3 λ_ s4 ⟨x,H4,I4,ru,y4,st4,fr4⟩=>?_;obtain⟨sm4,rep4⟩:=yl x H4 y4;cases e1:G ds[i] (f9 own js ρ)with
   |ex z=>rw[e1]at ah;cases ah
   |bad=>rw[e1]at ah;cases ah
   |ok ρ1=>
    rw[e1]at ah;dsimp only at ah;have EB:EnvOk X.K H9 O0 H4 (λb=>O b\/b=acc) um (f9 own js ρ):=(E2.ae3 xr hkl).grow sm4;have I4':=I4.pinned (fpB fr4) (T.obj _ _ st4);have again:∀{s7:Shared} {om:St} {H7:Hp} {vs7:List V} {rd7:List D} {rest7:List D},Inv X' ([]++mS fp s4.heap) om H7 s7->H7 acc=some (.lst vs7)->EnvOk X.K H9 O0 (R9 H7 acc) O om (f9 own js ρ)->Same H (R9 H7 acc)->Reps X.K (R9 H7 acc) O vs7 rd7->
      u4 G ft fe (f9 own js ρ) (ds.drop<|i+1)=.ok rest7->rs=rd7++rest7->vs7.length<=i+1->∃m,m<ds.length-i/\Iv m s7:=λ{s7 om H7 vs7 rd7 rest7} I7 h7 E7 sm7 r7 hr7 hrs7 hv7=>by
     refine⟨ds.length-(i+1),by omega,i+1,om,R9 H7 acc,vs7,rd7,rfl,ar,?_,AQ _ _,T.keep _ _ _ st4 λb hb o e=>(I7.pin (b,o)<|aAF _<|aAF _<|bR hb e).1,λb hb=>?_,E7,sm7,r7,⟨rest7,hr7,hrs7⟩,hv7⟩
     ·rw[FY h7];exact I7.ab2
     ·rw[W3 (aAi<|vf b hb)];obtain⟨o,e,d⟩:=T.obj _ _ st4 b hb;exact(I7.pin (b,o)<|aAF _<|aAF _<|bR hb e).2.1
    have hasg:=hG' _ s4 um H4 x u (λσ5 H5=>Same H4 H5/\EnvOk X.K H9 O0 H5 (λb=>O b\/b=acc) σ5 ρ1) I4' ru ⟨H9,O0,_,_,ds[i],ρ1,by rw[eK];exact EB,by rw[eK];exact rep4,e1,λσ5 H5 s5 E5=>⟨s5,by rw[eK]at E5;exact E5⟩⟩;rw[eP,eW,eA,eE,eX]at hasg;refine D9 hasg λ_ s5 ⟨σ5,H5,I5,sm5,E5⟩=>?_;have hacc5:H5 acc=some (.lst vs):=sm5 acc _ (sm4 acc _ j6);cases e2:ft ρ1 with
    |ex z=>rw[e2]at ah;cases ah
    |bad=>rw[e2]at ah;cases ah
    |ok b=>
     rw[e2,R.aa0]at ah;have htst:=hT' _ s5 σ5 H5 (λc H6=>c=b/\Same H5 H6) I5 ⟨H9,O0,_,ρ1,by rw[eK];exact E5,by rw[e2];exactλH6 s6=>⟨rfl,s6⟩⟩;rw[eP,eW,eA,eE,eX]at htst;refine D9 htst λok s6 ⟨H6,I6,hb,sm6⟩=>?_;subst hb;have sm46:Same (upd Hx acc<|.lst vs) H6:=sm4.trans (sm5.trans sm6);have hacc6:H6 acc=some (.lst vs):=sm6 acc _ hacc5;have smx6:Same Hx (R9 H6 acc):=V8 xr sm46;have W1:qF ρ1 (f9 own js ρ):=hG _ _ e1;have Eb:∀{H7:Hp},Same H5 H7->EnvOk X.K H9 O0 (R9 H7 acc) O σ5 (f9 own js ρ):=λ{H7} s7=>by
      have E7:=(E5.grow s7).weak W1;have h7:H7 acc=some (.lst vs):=s7 acc _ hacc5;refine⟨E7.len,E2.same.trans (V8 xr<|sm4.trans<|sm5.trans s7),E2.sub,λa z=>?_,E2.trk0,E2.tab.same (V8 xr<|sm4.trans<|sm5.trans s7),λj sl e=>?_,E7.inj⟩
      ·obtain⟨o,q,mt⟩:=E2.trk a z;exact⟨o,V8 xr (sm4.trans<|sm5.trans s7) a o q,mt⟩
      ·rcases bE e with rfl|⟨d,_,rfl,_⟩
       ·trivial
       ·obtain⟨v,h1,h2⟩:=E7.val j d e;exact⟨v,h1,Rep.hidden h7 h2⟩
     cases ok with
     |false=>rw[if_neg aBg]at ah⊢;exact again I6 hacc6 (Eb sm6) (yo.trans smx6) (r2.same smx6) ah vg (Nat.le_succ_of_le hvl)
     |true=>
      rw[if_pos rfl]at ah⊢;cases e3:fe ρ1 with
      |ex z=>rw[e3]at ah;cases ah
      |bad=>rw[e3]at ah;cases ah
      |ok dv=>
       rw[e3,R.aa0]at ah;cases e4:u4 G ft fe (f9 own js ρ) (ds.drop<|i+1)with
       |ex z=>rw[e4]at ah;cases ah
       |bad=>rw[e4]at ah;cases ah
       |ok rest'=>
        rw[e4,R.aa0]at ah;have qd:dv::rest'=rest:=R.ok.inj ah;have helt:=hE' _ s6 σ5 H6 (λv H7=>Same H6 H7/\Rep X.K H7 (λb=>O b\/b=acc) v dv) I6 ⟨H9,O0,_,ρ1,by rw[eK];exact E5.grow sm6,by rw[e3,RC];exactλv H7 s7 r7=>⟨s7,by rw[eK]at r7;exact r7⟩⟩;rw[eP,eW,eA,eE,eX]at helt;refine D9 helt λuv s7 ⟨v,H7,I7,ruv,sm7,r7⟩=>?_;have hacc7:H7 acc=some (.lst vs):=sm7 acc _ hacc6;have happ:=rK (X:=X') _ s7 σ5 H7 (.ref acc) [v] (.ref acc) [uv] (λ_ H8=>H8=upd H7 acc (.lst (vs++[v]))) I7 rfl (.cons ruv .nil) ⟨acc,vs,v,rfl,rfl,hacc7,by omega,rfl⟩;rw[eP,eW,eA,eX]at happ;refine D9 happ λ_ s8 ⟨_,H8,I8,_,h8⟩=>?_;subst h8;have hh:R9 (upd H7 acc<|.lst (vs++[v])) acc=R9 H7 acc:=by
         funext b
         unfold R9 upd;by_cases hb:b=acc
         ·rw[if_pos hb,if_pos hb]
         ·rw[if_neg hb,if_neg hb,if_neg hb]
        have smx7:Same Hx (R9 H7 acc):=V8 xr (sm46.trans sm7);refine again (vs7:=vs++[v]) (rd7:=rd++[dv]) (rest7:=rest') I8 j6 (by rw[hh];exact Eb (sm6.trans sm7)) (by rw[hh];exact yo.trans smx7) ?_ e4 (by rw[vg,<-qd,List.append_assoc];rfl) (by rw[aAN];exact Nat.succ_le_succ hvl);rw[hh];exact(r2.same smx7).snoc (Rep.hidden hacc7 r7)
  ·have fo:i=ds.length:=by omega
   subst fo;have hstop:=hit.2 (by simp);have nu:=T.done X' eP eW eK eC ds.length [] s2 um _ (λ_ _=>False) I2 (fpB fr2) ju hstop;rw[eA]at nu;refine D9 nu λr s3 ⟨hr,I3⟩=>?_;subst hr;rw[List.drop_length,u4]at ah;have qd:([]:List D)=rest:=R.ok.inj ah;rw[<-qd,aCB]at vg;obtain⟨m,hm,_⟩:=id I3.loc;rw[eL]at hm;have hfin:Same H (upd Hx acc<|.lst vs):=yo.trans sU;refine fin acc C s3 (upd Hx acc<|.lst vs) m hm (aCb accC) (by omega) (aAh _) hfin ?_ ⟨Hx,vs,yo,xr,rfl,by rw[vg];exact r2⟩ (by rw[<-eL];exact I3.free) (λh' ji=>?_)
   ·rw[vg];exact .lst (N8.of j6) (E2.fresh xr) (r2.same sU)
   ·have hU:Un (yV X.stack) fp (upd H acc<|.lst []) (upd Hx acc<|.lst vs) s1.heap s3.heap:=by have:=I3.base;rw[eFs,eX0,eH0,eS0]at this;exact this
    have hCn:∀b o,s1.heap.get? b=some o->b≠C:=λb o e=>by have:=aAf e;rw[hC]at this;exact aAi this
    have hU':Un (yV X.stack) fp (upd H acc<|.lst []) (upd Hx acc<|.lst vs) s1.heap h':=⟨λb o e n hb hx=>(ji.2 b (hCn b o e)).trans (hU.keep b o e n hb hx),λb o e n hb hx=>by
      obtain⟨sl,q⟩:=hU.slot b o e n hb hx;exact⟨sl,(ji.2 b (hCn b o e)).trans q⟩,hU.free,λb o e hx=>by
      obtain⟨o',q⟩:=hU.there b o e hx;exact⟨o',(ji.2 b (hCn b o e)).trans q⟩,hU.tups,hU.frzs,hU.tbls⟩
    have hCf:upd Hx acc (.lst vs) C=none:=by rw[<-eL];exact I3.free
    have yp:fJ X.prog X.w (upd Hx acc<|.lst vs) h':=λb u e=>by
     have hb:b≠C:=by rintro rfl;rw[hCf]at e;cases e
     have:=I3.hok b u e;rw[eP,eW]at this;refine this.ab7 (λc v hc q=>(ji.2 c ?_).trans q) (λ_ q=>q) λ_ _ _ q=>q;rcases hc with z|z
     ·rw[z];exact hb
     ·rintro rfl;rw[hCf]at z;cases z
    have hos:s3.os=s1.os:=by have:=I3.os;rw[eS0]at this;exact this
    exact I1.af9 (s':={s3 with heap:=h'}) (ch:=fp) hos hU' yp I3.bare λb hb=>by obtain⟨f0,f1,f2,f3,f4,f5⟩:=ve b hb;exact⟨f3,f1,f4,f5⟩
 exact codeAny_compStart_list loop (T.self _ 0 _ _ _ mR loop)
def B0 (own fr:List Str)(js:List Nat)(hc:X.calm=true)(S:CompSc X scope own fr js)(hi:UE X tg iter fi)(hX:∀(pins:N5) (fp:List Addr) (X':Cx),(∃s9 Ha C,X'=GQ X pins s9 Ha (own++fr) scope (cQ X scope C) C fp)->KP X' tg G/\UR X' ifs ft/\PD X' elt fe)(hG:∀ρ d ρ1,G d (f9 own js ρ)=.ok ρ1->qF ρ1 (f9 own js ρ))(hs:∀x,foldedSetIterable iter X.env x=pure x:=by intro _;rfl):
  PD X (.ListComp elt [⟨tg,iter,ifs,0⟩] scope pos) (λρ=>(fi ρ).bind λds=>if ds.length<=sizeLine then(u4 G ft fe (f9 own js ρ) ds).bind λrs=>.ok (.lst rs)else .bad):=by
 refine vU λpins s σ H Q I H9 O0 O ρ E q=>?_;dsimp only at q;rw[eval_ListComp];refine aDI (use:=none) rfl hs (Z0<|Inv.aa9 I S) S.kind S.names ?_;refine D9 (hi pins s σ H (λJ H1=>∃ds rs,Same H H1/\US X.K J H1 O ds/\ds.length<=sizeLine/\u4 G ft fe (f9 own js ρ) ds=.ok rs/\∀v H',Same H H'->Rep X.K H' O v (.lst rs)->Q v H') I ⟨H9,O0,O,ρ,E,oQ I O E.trk,?_⟩) λv s1 h1=>D9 h1 λitv s2 h2=>?_
 ·cases e1:fi ρ with
  |ex x=>rw[e1]at q;exact q
  |bad=>rw[e1]at q;exact q
  |ok ds=>
   rw[e1,R.aa0]at q;intro J H1 s1 hJ;split at q
   ·rename_i hl;cases e2:u4 G ft fe (f9 own js ρ) ds with
    |ex x=>rw[e2]at q;exact(q H<|Same.refl _).elim
    |bad=>rw[e2]at q;exact q.elim
    |ok rs=>rw[e2]at q;exact⟨ds,rs,s1,hJ,hl,e2,q⟩
   ·exact q.elim
 ·obtain⟨it,fp,tn,J,H2,e,I2,T,ju,f2,ds,rs,sm,hJ,hl,hrs,q⟩:=h2;subst e;refine oE (RR:=λacc C=>compPost (model X.prog X.w) X.A X.xe none (EP X pins σ Q) acc C) hc S (hX pins fp) (hG ρ) I2 T ju f2 (E.grow sm) hJ hrs hl ?_;intro acc C s' H' m hn _ _ _ sm' r _ _ hI;exact⟨m,hn,λh' ji=>⟨.ref acc,H',hI h' ji,rfl,q _ H' (sm.trans sm') r⟩⟩
def aS (i:Nat)(own fr:List Str)(js:List Nat)(hN:X.N.Nodup)(hc:X.calm=true)(S:CompSc X scope own fr js)(hi:UE X tg iter fi)(hX:∀(pins:N5) (fp:List Addr) (X':Cx),(∃s9 Ha C,X'=GQ X pins s9 Ha (own++fr) scope (cQ X scope C) C fp)->KP X' tg G/\UR X' ifs ft/\PD X' elt fe)(hG:∀ρ d ρ1,G d (f9 own js ρ)=.ok ρ1->qF ρ1 (f9 own js ρ))(hy:X.N[i]?=some y:=by rfl)(hyl:X.env.scope.names.lookup y=some .local:=by rfl)(yr:swapsWith (.ListComp elt [⟨tg,iter,ifs,0⟩] scope pos) (some (.Name y py)) spos.line X.env=pure true:=by rfl)(hs:∀x,foldedSetIterable iter X.env x=pure x:=by intro _;rfl):
  pL X (.Assign [.Name y py] (.ListComp elt [⟨tg,iter,ifs,0⟩] scope pos) spos) (λρ=>((fi ρ).bind λds=>if ds.length<=sizeLine then(u4 G ft fe (f9 own js ρ) ds).bind λrs=>.ok (D.lst rs)else .bad).bind λd=>.ok (.nx (ρ.set i (.v d)))):=by
 intro H9 O0 pins s σ H D I ⟨O,ρ,E,fk,q⟩;dsimp only at q;rw[exec_Assign_Name_used _ _ _ _ yr];refine aAa (aDL<|aAa ?_);show wpAny _ X.A (do let _<-comprehension (.ListComp elt [⟨tg,iter,ifs,0⟩] scope pos) scope X.env _ (newList []) false (eval iter X.env) (some<|assign (.Name y py) X.env)) _ _ s;refine aAa (aCn (aDI (use:=some (assign (.Name y py) X.env)) (Q:=λ_ s'=>SP X pins D .next s') rfl hs (Z0<|Inv.aa9 I S) S.kind S.names ?_) (λ_ s' hq=>aAb (aAb hq)) λ_ _ e=>e);refine D9 (hi pins s σ H (λJ H1=>∃ds rs,Same H H1/\US X.K J H1 O ds/\ds.length<=sizeLine/\u4 G ft fe (f9 own js ρ) ds=.ok rs/\RS X H9 O0 H O (.ok (.nx (ρ.set i<|.v (.lst rs)))) D) I ⟨H9,O0,O,ρ,E,oQ I O E.trk,?_⟩) λv s1 h1=>D9 h1 λitv s2 h2=>?_
 ·cases e1:fi ρ with
  |ex x=>rw[e1]at q;exactλH' s=>q H' (E.same.trans s)
  |bad=>rw[e1]at q;exact q
  |ok ds=>
   rw[e1,R.aa0]at q;intro J H1 s1 hJ;split at q
   ·rename_i hl;cases e2:u4 G ft fe (f9 own js ρ) ds with
    |ex x=>rw[e2]at q;exact(q H E.same).elim
    |bad=>rw[e2]at q;exact q.elim
    |ok rs=>rw[e2]at q;exact⟨ds,rs,s1,hJ,hl,e2,q⟩
   ·exact q.elim
 ·obtain⟨it,fp,tn,J,H2,e,I2,T,ju,f2,ds,rs,sm,hJ,hl,hrs,q⟩:=h2;subst e;refine oE (RR:=λacc C=>compPost (model X.prog X.w) X.A X.xe (some<|assign (.Name y py) X.env) (λ_ s'=>SP X pins D .next s') acc C) hc S (hX pins fp) (hG ρ) I2 T ju f2 (E.grow sm) hJ hrs hl ?_;intro acc C s' H' m hn hCa yu has sm' r _ hC hI;have I3:=hI s'.heap (aFb ..);show wpAny _ X.A (assign (.Name y py) X.env<|.ref acc) _ _ s';refine aEX (kT (i:=i) (v:=.ref acc) I3 hN hy (.inl hyl) rfl (λs4 I4 ⟨a,hsb,ha⟩=>?_)<|.inr hyl);have fg:∀x c,X.env.cells.lookup x=some c->c≠C:=λx c hc=>by obtain⟨v,hv⟩:=I2.cell x c hc;exact aAi (aAs hv.lt yu)
  have hCL:C≠X.env.locals:=aCh (aAs I2.lt yu);have hCa2:C≠a:=by
   rcases ha with ha|ha
   ·rw[ha];exact hCL
   ·exact aCb (fg y a ha)
  refine⟨m,hn.sameBut hsb hCa2,λh' ji=>?_⟩;refine⟨_,H',?_,q _ H' O (((E.grow sm).grow sm').set i r) (oQ I O E.trk) (Kp.of<|sm.trans sm')⟩;exact I4.turned (t':=s4.toks) (it:=C) (λb o hb e=>(ji.2 b hb).trans e) hC hCL (.inr (aAr I2.sz yu)) fg λp hp=>aAi (aAs (aAf (I2.pin p hp).1) yu)
end
omit [Tabs]in
def xE {ns:List Int}(h:PySem.W.WData.layableAll [PySem.W.WData.list (ns.map PySem.W.WData.int)]=true):∀x∈ns,aAT x<=1048576:=λx hx=>by
 have h1:=(PySem.W.layW_cons h).1;have h2:=PySem.W.layableW_item h1 (.int x) (aAo.mpr ⟨x,hx,rfl⟩);have h3:=PySem.W.lay0_int h2;have h4:PyData.layable0 (.int x)=true:=by simpa[PyData.layableAll0]using h3
 exact PyData.bits_of_layable h4
def v5 (P:Program)(w:World)(K:PySem.W.Frag)(mg:cF)(base:Heap)(k:Nat)(x:Str)(n:Nat)(m:List D->R D):Prop:=
 ∃g gd ps,FnOk P w K mg base vM k g gd ps (YR K n m)/\Binds K gd ps []/\PySem.W.keepIn K (.ref g)=true/\mg x=some (.ref g)
def GJ (f:Ev->R (List D))(n:Nat):Prop:=∀ρ ds,f ρ=.ok ds->ds.length=n
def aP:GJ Q7 0:=λρ ds h=>by cases h;rfl
def A4 (h:GJ g n):GJ (p8 f g) (n+1):=λρ ds e=>by
 unfold p8 at e;cases e1:f ρ with
 |ok d=>
  rw[e1,R.aa0]at e;cases e2:g ρ with
  |ok bh=>rw[e2]at e;cases e;rw[aAx,h ρ bh e2]
  |ex x=>rw[e2]at e;cases e
  |bad=>rw[e2]at e;cases e
 |ex x=>rw[e1]at e;cases e
 |bad=>rw[e1]at e;cases e
section
def uS (c:v5 X.prog X.w X.K X.mg X.base k x n m)(hr:Room k X.A)(ha:IL X (e::es) f)(hl:GJ f n)(hg:Gl X x:=by rfl)(ia:(x==("__debug__":Str))=false:=by decide)(he:starEach (e::es) X.env=(false,eval e X.env)::starEach es X.env:=by rfl)(bf:(backTo pos (starEach es X.env)).any (·.1)=false:=by rfl):
  PD X (.Call (.Name x p) (e::es) [] pos) (λρ=>(f ρ).bind m):=by
 obtain⟨g,gd,ps,F,b,kp,em⟩:=c;exact QO F hr em kp b ha hl hg ia he bf
end
def WG {P:Program}{w:World}{K:PySem.W.Frag}{mg:cF}{base:Heap}{x qual:Str}{st:Stmt}{f:Addr}{fd:FuncData}{N ps:List Str}{k:Nat}{m:List D->R D}{F:Ev->R Out}(F0:Fun K x qual st f fd)(S:FnScope N ps (c7 st))(hb0:Binds K fd ps [])(nv:mg x=some (.ref f))
  (hb:∀(cdv:Value) (A:Around) (outer:List Env) (s:Shared) (H:Hp) (E:XK),Room k (A.deeper (envOfC qual (c7 st) s.heap.objs.size f cdv))->bZ (TC P w K mg base N qual (c7 st) f cdv A outer s H E) (u5 st) F)
  (hm:∀ds d,ds.length=ps.length->m ds=.ok d->L4 (F (j5 N ds))=.ok d):v5 P w K mg base (k+1) x ps.length m:=
 ⟨f,fd,ps,fnD F0 S hb hm,hb0,F0.kp,nv⟩
def l6:∀d ρ1,(R.ok ((f9 [x] js ρ).set 0 (Sl.v d)):R Ev)=.ok ρ1->qF ρ1 (f9 [x] js ρ):=λd ρ1 h=>by
 cases h;refine⟨by simp,λi sl h hn=>?_⟩;cases i with
 |zero=>exact absurd (by simpa[f9]using h.symm) hn
 |succ i=>rw[aCs (by lia)];exact h
def AX (sc:Scope)(N:List Str)(scope:Scope)(fr:List Str)(js:List Nat):Bool:=
 decide (scope.kind=.function)&&scope.names.all (λy=>decide (y.2=.free->(y.1,aBX)∉scope.names))&&scope.names.all (λy=>decide (y.2=.local->scope.names.lookup y.1=some .local))&&
 scope.names.all (λy=>decide (y.2=.free->sc.names.lookup y.1=some .cell\/sc.names.lookup y.1=some .free))&&decide (js.length=fr.length)&&(js.zip fr).all (λp=>decide (N[p.1]?=some p.2/\(p.2,NameKind.free)∈scope.names))&&decide js.Nodup&&
 scope.names.all (λy=>decide (y.2=.free->scope.names.lookup y.1=some .free))
def A0 (hs:X.env.scope=sc:=by rfl)(hN:X.N=N:=by rfl)(h:AX sc N scope fr js=true:=by decide+kernel):CompSc X scope own fr js:=by simp only[AX,aAK,aBC,decide_eq_true_eq]at h;obtain⟨⟨⟨⟨⟨⟨⟨h1,h2⟩,h3⟩,h4⟩,h5⟩,h6⟩,h7⟩,h8⟩:=h;subst hs hN;refine⟨h1,h2,h3,h4,h5,λi j x e1 e2=>?_,h7,h8⟩;refine h6 (j,x) (aAl (i:=i) ?_);rw[aBx];exact⟨e1,e2⟩
def QV (h:AX X.env.scope X.N scope fr js=true:=by first|kernel_rfl|with_unfolding_all rfl):CompSc X scope own fr js:=A0 rfl rfl h
def zF (σ:List (Nat×D))(h:∀p∈σ,p.1<xs.length):qF (σ.foldl (λr p=>r.set p.1 (Sl.v p.2)) (f9 xs js ρ)) (f9 xs js ρ):=by
 have key:∀(σ:List (Nat×D)) (r:Ev),(∀p∈σ,p.1<xs.length)->r.length=(f9 xs js ρ).length->(∀i,xs.length<=i->r[i]?=(f9 xs js ρ)[i]?)->
   (σ.foldl (λr p=>r.set p.1 (Sl.v p.2)) r).length=(f9 xs js ρ).length/\∀i,xs.length<=i->(σ.foldl (λr p=>r.set p.1 (Sl.v p.2)) r)[i]?=(f9 xs js ρ)[i]?:=by
  intro σ;induction σ with
  |nil=>intro r _ h1 h2;exact⟨h1,h2⟩
  |cons p σ ih=>intro r hp h1 h2;refine ih _ (λq hq=>hp q (aAe _ hq)) (by rw[aFA];exact h1) λi hi=>?_;have:=hp p aAL;rw[aCs (by lia)];exact h2 i hi
 obtain⟨h1,h2⟩:=key σ _ h rfl λ_ _=>rfl;refine⟨h1,λi sl e hn=>?_⟩;by_cases hi:i<xs.length
 ·have:sl=.no:=by
   rcases bE e with z|⟨d,j,_,hle,_⟩
   ·exact z
   ·lia
  exact absurd this hn
 ·rw[h2 i (by lia)];exact e
def zD:∀d ρ1,fG 3 (O9 (λd ρ=>.ok (ρ.set 0 (.v d))) (O9 (λd ρ=>.ok (ρ.set 1 (.v d))) (O9 (λd ρ=>.ok (ρ.set 2 (.v d))) kZ))) d (f9 [x,y,z] js ρ)=.ok ρ1->qF ρ1 (f9 [x,y,z] js ρ):=λd ρ1 h=>by
 have go:∀ds:List D,ds.length=3->O9 (λd ρ=>.ok (ρ.set 0<|.v d)) (O9 (λd ρ=>.ok (ρ.set 1<|.v d))<|O9 (λd ρ=>.ok (ρ.set 2<|.v d)) kZ) ds (f9 [x,y,z] js ρ)=.ok ρ1->qF ρ1 (f9 [x,y,z] js ρ)
  |[a,b,c],_,h=>by cases h;exact zF (xs:=[x,y,z]) [(0,a),(1,b),(2,c)] (by simp)
 unfold fG at h;split at h
 ·split at h
  ·exact go _ ‹_› h
  ·cases h
 ·split at h
  ·exact go _ ‹_› h
  ·cases h
 ·cases h
end DL
namespace DL.Att2
open PySem PySem.W PySem.Calls PyProof.Rows
def attach_bits {l:OpenLaw}{n:Nat}{q:Program}{loose:List Str}{XP:(Str->Option Value)->Heap->Prop}{YP:World->Heap->Prop}{d:DefRec}
  (hn:l.most=some n) (hdf:d.params.defaults=[])
  (call:∀(w:World) (s9 ae:Shared) (mg mb:cF) (fa:Addr) (o:Obj) (pm cd doc:Value) (a:Addr) (vs:List Value) (ns:List Int),
   Ground q loose [] XP w s9 mg mb ae.heap->YP w ae.heap->
   ae.heap.get? fa=some o->o.data=.func (docDef d.name d.params d.body d.scope pm cd doc)->ae.heap.CodeRec cd d.name->mg d.name=some (.ref fa)->
   ae.heap.get? a=some {cls:=.type "list",data:=.seq vs.toArray}->IntsAre vs ns->ns.length<=n->(∀x∈ns,aAT x<=1048576)->ae.gens=#[]->
   codeAny (model l.prog w) callerA (.call (.ref fa) ⟨[.ref a],[]⟩) (λr s'=>r=.ok (.ret (.bool true))/\OldK ae.heap s'.heap/\s'.os=ae.os/\AllBare s'.gens) ae):
  WalkO q loose XP YP l.row.toRowW d [] (λf vs=>PySem.call f vs):=by
 intro w s9 ae mg mb G Y fa o pm cd doc dV kV ho hd gg hD nv hg args vals as yi hlay hrd oo hlo;obtain rfl:dV=.none:=Dflts.none hD hdf;obtain rfl:kV=.none:=Dflts.noKw hD;obtain⟨a,vs,ns,rfl,rfl,hobj,hints,hlen⟩:=Att.script_of hn yi oo;have hb:=DL.xE (ns:=ns) (by first|exact hlay|exact hlay.1|(simpa using hlay));refine enter_call (aDG (call w s9 ae mg mb fa o pm cd doc a vs ns G Y ho (fd_plain hd) gg nv hobj hints hlen hb hg) λr s' hq=>?_);obtain⟨rfl,h2,h3,h4⟩:=hq;exact⟨.inl ⟨.bool true,.bool true,[],rfl,λ_=>rfl,.bool true,Att.post_true l _,λ_=>⟨aGp,λ_ hm=>(nomatch hm)⟩⟩,h2,h3,h4⟩
end DL.Att2
namespace DL
open PySem PySem.Spec L2
open PyProof.Rows hiding St
variable [Tabs]
end DL
namespace DL
open PySem L2
abbrev bits (a:Int):Nat:=aAT a
def f8 (h:k8 a b):J3 (.int a) (.int b)=.ok (.int (a*b)):=if_pos h
def T8 (h:qX b):M6 (.int a) (.int b)=.ok (.int (a.fdiv b)):=if_pos h
def oB (h:b≠0):M9 (.int a) (.int b)=.ok (.int (a.fmod b)):=if_pos h
def oR (h:0<=b/\b<=1000000/\a.natAbs<2^64):BR (.int a) (.int b)=.ok (.int (a^b.toNat)):=if_pos h
def k8.of (h1:bits a<=m)(h2:bits b<=n)(hm:m<=60000000:=by decide)(hn:n<=60000000:=by decide):k8 a b:=⟨aAr h1 hm,aAr h2 hn⟩
def bits_add (h1:bits a<=n)(h2:bits b<=n):bits (a+b)<=n+1:=by have:=PyProof.Rows.bits_add h1 h2;rw[Nat.max_self]at this;exact this
def bits_sub (h1:bits a<=n)(h2:bits b<=n):bits (a-b)<=n+1:=by have:=PyProof.Rows.bits_sub h1 h2;rw[Nat.max_self]at this;exact this
def bits_mul (h1:bits a<=m)(h2:bits b<=n):bits (a*b)<=m+n:=PyProof.Rows.bits_mul h1 h2
def bits_neg (h1:bits a<=m):bits (-a)<=m:=PyProof.Rows.bits_neg h1
def DK (h:a.natAbs<2^n):bits a<=n:=PyProof.Rows.intBits_le h
def EF (h:bits a<=n):a.natAbs<2^n:=PyProof.Rows.lt_pow_of_bits h (aAh n)
@[simp]def cC (d:D)(ρ:Ev):Q4 0 (Sl.v d::ρ)=.ok d:=rfl
@[simp]def gS (i:Nat)(x:Sl)(ρ:Ev):Q4 (i+1) (x::ρ)=Q4 i ρ:=rfl
@[simp]def EA (d:D)(ρ:Ev):pK 0 (Sl.v d::ρ)=.ok d:=rfl
@[simp]def zO (d:List D)(ρ:Ev):pK 0 (Sl.o d::ρ)=.ok (.lst d):=rfl
@[simp]def oG (i:Nat)(x:Sl)(ρ:Ev):pK (i+1) (x::ρ)=pK i ρ:=rfl
@[simp]def NM (d:D)(ρ:Ev):UO d ρ=.ok d:=rfl
@[simp]def A1 (ρ:Ev)(F:Ev->R Out):C3 (.ok (.nx ρ)) F=F ρ:=rfl
@[simp]def cj (d:D)(F:Ev->R Out):C3 (.ok (.rt d)) F=.ok (.rt d):=rfl
@[simp]def jz (d:D):L4 (.ok (.rt d))=.ok d:=rfl
@[simp]def jq (ρ:Ev):L4 (.ok (.nx ρ))=.ok .non:=rfl
@[simp]def nQ (f:Ev->R D)(g:Ev->R (List D))(ρ:Ev):p8 f g ρ=(f ρ).bind λd=>(g ρ).bind λds=>.ok (d::ds):=rfl
@[simp]def uM (ρ:Ev):Q7 ρ=.ok []:=rfl
@[simp]def a0g (a b:D):aF [a,b]=.ok (.tup [a,b]):=rfl
@[simp]def a0s (a b c:D):aF [a,b,c]=.ok (.tup [a,b,c]):=rfl
@[simp]def a0v (a b c d:D):aF [a,b,c,d]=.ok (.tup [a,b,c,d]):=rfl
@[simp]def yz:xJ []=.ok (.lst []):=rfl
@[simp]def a0h (a b c:D):xJ [a,b,c]=.ok (.lst [a,b,c]):=rfl
@[simp]def a0a (x y z:D):L3 (.tup [x,y,z]) (.int 0)=.ok x:=rfl
@[simp]def zw (x y z:D):L3 (.tup [x,y,z]) (.int 1)=.ok y:=rfl
@[simp]def a0i (x y z:D):L3 (.tup [x,y,z]) (.int 2)=.ok z:=rfl
@[simp]def yy (x y z t:D):L3 (.tup [x,y,z,t]) (.int 0)=.ok x:=rfl
@[simp]def yx (x y z t:D):L3 (.tup [x,y,z,t]) (.int 1)=.ok y:=rfl
@[simp]def zy (x y z t:D):L3 (.tup [x,y,z,t]) (.int 2)=.ok z:=rfl
@[simp]def zk (x y z t:D):L3 (.tup [x,y,z,t]) (.int 3)=.ok t:=rfl
@[simp]def a0w (x y:D):L3 (.tup [x,y]) (.int 0)=.ok x:=rfl
@[simp]def a0n (x y:D):L3 (.tup [x,y]) (.int 1)=.ok y:=rfl
def N1 (h:lS xs i=some d):L3 (.lst xs) (.int i)=.ok d:=by simp only[L3,h]
def EZ {xs:List D}{i:Int}{d:D}(h:lS xs i=some d):L3 (.tup xs) (.int i)=.ok d:=by simp only[L3,h]
@[simp]def jj (a b:Int):kF (.int a) (.int b)=.ok (.int (a+b)):=rfl
@[simp]def uZ (a b:Int):HK (.int a) (.int b)=.ok (.int (a-b)):=rfl
@[simp]def oz (a b:Int):mj (.int a) (.int b)=.ok (.bl (decide (a<b))):=rfl
@[simp]def AZ (a b:Int):cz (.int a) (.int b)=.ok (.bl (decide (a<=b))):=rfl
@[simp]def uT (a b:Int):WI (.int a) (.int b)=.ok (.bl (decide (b<a))):=rfl
@[simp]def tq (a:Int):YJ (.int a)=.ok (.int (-a)):=rfl
@[simp]def EG (b:Bool):vO (.bl b)=.ok b:=rfl
@[simp]def a0c (b:Int):toI (.int b)=.ok (some b):=rfl
@[simp]def AI (xs:List D):LO [.lst xs]=.ok (.int xs.length):=rfl
@[simp]def KW (a:Int):ak [.int a]=.ok (.int (if a<0 then-a else a)):=rfl
@[simp]def my (a b:Int):UZ [.int a,.int b]=.ok (.int (if b>a then b else a)):=rfl
@[simp]def ZA (xs:List D):kL [.lst xs]=.ok (.tup xs):=rfl
@[simp]def uR (f g:Ev->R Bool)(ρ:Ev):YK f g ρ=(f ρ).bind λb=>if b=true then g ρ else .ok false:=rfl
@[simp]def qj (f g:Ev->R Bool)(ρ:Ev):orB f g ρ=(f ρ).bind λb=>if b=true then .ok true else g ρ:=rfl
@[simp]def jy (f:Ev->R Bool)(ρ:Ev):aw f ρ=(f ρ).bind λb=>.ok (!b):=rfl
@[simp]def yw (a b:Int):UG (.int a) (.int b)=.ok (.bl (a==b)):=by simp only[UG,E6,w6];rfl
@[simp]def JM (a b:Int):HD (.int a) (.int b)=.ok (.bl (!(a==b))):=by simp only[HD,E6,w6];rfl
@[simp]def WF (a b c d e f:Int):UG (.tup [.int a,.int b,.int c]) (.tup [.int d,.int e,.int f])=.ok (.bl (a==d&&(b==e&&c==f))):=by simp[UG,E6,J7,w6,X0]
@[simp]def jI (a b c d e f:Int):HD (.tup [.int a,.int b,.int c]) (.tup [.int d,.int e,.int f])=.ok (.bl (!(a==d&&(b==e&&c==f)))):=by simp[HD,E6,J7,w6,X0]
@[simp]def YQ (a:Int):vI "int" (.int a)=true:=rfl
@[simp]def WT (a:Int):vI "bool" (.int a)=false:=rfl
theorem G4 (r:D->D):∀{ds:List D},(∀d∈ds,∃ρ1,G d ρ=.ok ρ1/\fe ρ1=.ok (r d))->u4 G (λ_=>.ok true) fe ρ ds=.ok (ds.map r)
 |[],_=>rfl
 |d::ds,h=>by obtain⟨ρ1,e1,e2⟩:=h d aAL;rw[u4,e1];simp only[R.aa0,if_true,e2,G4 r λd hd=>h d (aAe _ hd),aAy]
def V6 {α:Type}{xs:List α}{k:Int}(h0:0<=k):lS xs k=xs[k.toNat]?:=by
 unfold lS yY;rw[if_pos h0];by_cases h:k<xs.length
 ·rw[if_pos h];rfl
 ·rw[if_neg h,aBJ.mpr (by omega)];rfl
def M1 (n:Nat)(xs:List D):Prop:=∀x∈xs,∃i,x=.int i/\bits i<=n
def SQ {n:Nat}{ns:List Int}(h:∀x∈ns,bits x<=n):M1 n (ns.map D.int):=λx hx=>by obtain⟨i,hi,rfl⟩:=aAo.mp hx;exact⟨i,rfl,h i hi⟩
def rD (g:Int->Int)(xs:List D)(k:Int):D:=match xs[k.toNat]? with
 |some d=>d
 |none=>.int (g k)
def GY (h:M1 n xs)(g:Int->Int)(k:Int):∃i,rD g xs k=.int i/\(bits i<=n\/i=g k):=by
 unfold rD;cases e:xs[k.toNat]? with
 |none=>exact⟨_,rfl,.inr rfl⟩
 |some d=>obtain⟨i,rfl,hb⟩:=h d (aAl e);exact⟨i,rfl,.inl hb⟩
def K5 (h1:-((2:Int)^n)<a)(h2:a<(2:Int)^n):bits a<=n:=DK (by
 have e:((2^n:Nat):Int)=(2:Int)^n:=by simp
 omega)
def bits_fmod {a b:Int}{n:Nat}(h0:b≠0)(hb:bits b<=n):bits (a.fmod b)<=n:=PyProof.Rows.bits_fmod_by h0 hb
def bits_fdiv (ha:bits a<=n):bits (a.fdiv b)<=n:=PyProof.Rows.bits_fdiv ha
def n9 (h:bits a<=m)(hm:m<=n:=by decide):bits a<=n:=aAr h hm
@[simp]def a1j:dZ [.int 3]=.ok [.int 0,.int 1,.int 2]:=rfl
@[simp]def YW (xs:List D):L8 (.lst xs)=.ok xs:=rfl
@[simp]def sS (xs:List D):CV (.tup xs)=.ok xs:=rfl
@[simp]def VY (G:D->Ev->R Ev)(ft:Ev->R Bool)(fe:Ev->R D)(ρ:Ev):u4 G ft fe ρ []=.ok []:=rfl
@[simp]def XX (i:Nat)(ft:Ev->R Bool)(fe:Ev->R D)(ρ:Ev)(d:D)(ds:List D):u4 (λd ρ=>.ok (ρ.set i (Sl.v d))) ft fe ρ (d::ds)=(ft (ρ.set i (Sl.v d))).bind λb=>if b=true then(fe (ρ.set i (Sl.v d))).bind λr=>(u4 (λd ρ=>.ok (ρ.set i (Sl.v d))) ft fe ρ ds).bind λrs=>.ok (r::rs)else u4 (λd ρ=>.ok (ρ.set i (Sl.v d))) ft fe ρ ds:=rfl
@[simp]def lz (d:D):seen (.v d)=.v d:=rfl
end DL
namespace DL
open PySem L2
def UF (x:D)(r:List D):L3 (.tup (x::r)) (.int 0)=.ok x:=EZ (by rw[V6 (by decide)];rfl)
def UM (x y:D)(r:List D):L3 (.tup (x::y::r)) (.int 1)=.ok y:=EZ (by rw[V6 (by decide)];rfl)
def UP (x y z:D)(r:List D):L3 (.tup (x::y::z::r)) (.int 2)=.ok z:=EZ (by rw[V6 (by decide)];rfl)
theorem gH (Iv:Nat->Ev->Prop)(ht:∀n ρ,Iv (n+1) ρ->c ρ=.ok false\/(c ρ=.ok true/\∃ρ2,F ρ=.ok (.nx ρ2)/\Iv n ρ2))(h00:∀ρ,¬Iv 0 ρ):∀n ρ,Iv n ρ->∃m ao,R1 c F n ρ=.ok (.nx ao)/\Iv m ao/\c ao=.ok false
 |0,ρ,h=>absurd h (h00 ρ)
 |n+1,ρ,h=>by
  rcases ht n ρ h with e|⟨e,ρ2,e2,h2⟩
  ·exact⟨n+1,ρ,by rw[R1,e];rfl,h,e⟩
  ·obtain⟨m,ao,e3,h3,h4⟩:=gH Iv ht h00 n ρ2 h2;exact⟨m,ao,by rw[R1,e];simp only[R.aa0,if_true,e2];exact e3,h3,h4⟩
def HF {Iv:Nat->Ev->Prop}(ht:∀n ρ,Iv (n+1) ρ->c ρ=.ok false\/(c ρ=.ok true/\∃ρ2,F ρ=.ok (.nx ρ2)/\Iv n ρ2))(h0:Iv n ρ)(h2:∀n ao,Iv n ao->c ao=.ok false->L4 (F2 ao)=.ok d)(h00:∀ρ,¬Iv 0 ρ:=by(intro ρ;rintro⟨x,y,_,z,_⟩;omega)):
  L4 (C3 (R1 c F n ρ) F2)=.ok d:=by
 obtain⟨m,ao,e,h,hc⟩:=gH Iv ht h00 n ρ h0;rw[e];exact h2 m ao h hc
end DL
namespace DL
open PySem PySem.Spec L2
open PyProof.Rows hiding St
variable [Tabs]
section
variable{K:PySem.W.Frag}
def EnvOk.ad7 (E:EnvOk K H9 O0 H O σ ρ)(i:Nat)(h:H a=none)(hk:K.lookup a=none)(r:Reps K H O vs xs):
  EnvOk K H9 O0 (upd H a (.lst vs)) (λb=>O b\/b=a) (σ.set i (some (.ref a))) (ρ.set i (.o xs)):=
 E.ad9 i h hk trivial λh0=>⟨a,vs,rfl,.inr rfl,h0,j6,r.ab8 h hk⟩
def EnvOk.disown (E:EnvOk K H9 O0 H O σ ρ)(e:ρ[i]?=some (.o xs)):∃O',EnvOk K H9 O0 H O' σ (ρ.set i (.v (.lst xs)))/\(∀b,O' b->O b):=by obtain⟨a,vs,h1,h2,h3,h4,h5⟩:=E.own i xs e;exact⟨λb=>O b/\b≠a,E.ae6 e trivial h1 (λz=>z) ⟨.ref a,rfl,.lst (N8.of h4) (λz=>z.2 rfl) (h5.sub λ_ z=>z.1)⟩,λb z=>z.1⟩
def EnvOk.write (E:EnvOk K H9 O0 H O σ ρ)(e:ρ[i]?=some (.o xs))(h1:σ[i]?=some (some (V.ref a)))(r:Reps K H O gu xs'):
  EnvOk K H9 O0 (upd H a (.lst gu)) O σ (ρ.set i (.o xs'))/\Kp H O (upd H a (.lst gu)) O:=by
 obtain⟨a',vs,p1,h2,h3,h4,h5⟩:=E.own i xs e;have ea:a'=a:=by rw[p1]at h1;cases h1;rfl
 subst ea;exact E.ae1 e trivial h1 h4 trivial trivial λ_ _ _=>⟨a',gu,rfl,h2,h3,j6,r.upd h4 trivial h2⟩
end
section
def tF (X:Cx)(f:Ev->R (List D)):TE:=λσ H Q=>∃H9 O0 O ρ,EnvOk X.K H9 O0 H O σ ρ/\match f ρ with
 |.ok ds=>∀vs H1 a,Same H H1->H1 a=none->Reps X.K H1 O vs ds->Q (.ref a) (upd H1 a<|.lst vs)
 |.ex e=>∀H',Same H H'->XW X e H'
 |.bad=>False
def PF (X:Cx)(e:Expr)(f:Ev->R (List D)):Prop:=PE X e (tF X f)
def MA (I:Inv X pins σ H s)(h:H a=some o):X.K.lookup a=none:=by
 cases e:X.K.lookup a with
 |none=>rfl
 |some ob=>have:=(I.bs a ob<|I.ok.mod.kin a ob e).2;rw[h]at this;cases this
def PF.pd (h:PF X e f):PD X e (λρ=>(f ρ).bind λds=>.ok (.lst ds)):=TL h λσ H Q H9 O0 O ρ E q=>⟨H9,O0,O,ρ,E,by
 dsimp only at q;cases e1:f ρ with
 |ok ds=>rw[e1]at q;intro vs H1 a s1 ha r;exact q _ _ (s1.trans<|j7 ha _) (.lst (N8.of j6) ((E.grow s1).fresh ha) (r.same<|j7 ha _))
 |ex x=>rw[e1]at q;exact q
 |bad=>rw[e1]at q;exact q⟩
def vE (h:IL X es f):PF X (.List es pos) (λρ=>(f ρ).bind λds=>if ds.length<=sizeLine then .ok ds else .bad):=
 TL (LQ h) λσ H Q H9 O0 O ρ E q=>⟨H9,O0,O,ρ,E,by
  dsimp only at q;cases e1:f ρ with
  |ok ds=>
   rw[e1,R.aa0]at q;intro vs H1 s1 r1;by_cases hz:ds.length<=sizeLine
   ·rw[if_pos hz]at q;exact⟨by rw[r1.length];exact hz,λp hp=>q vs H1 p s1 hp r1⟩
   ·rw[if_neg hz]at q;exact aAm q
  |ex x=>rw[e1]at q;exact q
  |bad=>rw[e1]at q;exact q⟩
def mD (i:Nat)(he:PF X e f)(hN:X.N.Nodup)(hi:X.N[i]?=some x:=by rfl)(hx:Loc X.env.scope x:=by first|exact aCM rfl|exact aBW rfl)(hs:swapsWith e (some (.Name x pos')) pos.line X.env=pure false:=by rfl)(hf:X.fn x=true\/X.env.scope.names.lookup x=some .local:=by first|exact .inl rfl|exact .inr rfl|assumption):
  pL X (.Assign [.Name x pos'] e pos) (λρ=>(f ρ).bind λds=>.ok (.nx (ρ.set i (.o ds)))):=by
 intro H9 O0 pins s σ H D I ⟨O,ρ,E,fk,q⟩;dsimp only at q;refine aEY (D9 (he pins s σ H (λv H2=>∃vs H1 a ds,v=.ref a/\H2=upd H1 a (.lst vs)/\Same H H1/\H1 a=none/\Reps X.K H1 O vs ds/\RS X H9 O0 H O (.ok (.nx (ρ.set i<|.o ds))) D) I ⟨H9,O0,O,ρ,E,?_⟩) λv s1 ⟨y,H2,I2,r2,vs,H1,a,ds,e1,e2,yv,ha,r,q'⟩=>?_) hs
 ·cases e1:f ρ with
  |ok ds=>rw[e1,R.aa0]at q;exactλvs H1 a s1 ha r=>⟨vs,H1,a,ds,rfl,rfl,s1,ha,r,q⟩
  |ex x=>rw[e1]at q;exactλH' s=>q H' (E.same.trans s)
  |bad=>rw[e1]at q;exact q
 ·subst e1 e2;refine Q5 I2 hN hi hx r2 (λs3 I3=>⟨_,_,I3,?_⟩) hf;have hk:=MA I2 (j6 (H:=H1) (a:=a) (o:=.lst vs));have E2:=(E.grow yv).ad7 i ha hk r;refine q' _ _ _ E2 (oQ I2 _ E2.trk) ?_;exactλb o hb n=>⟨by rw[l5 (t9 (yv b o hb) ha)];exact yv b o hb,λz=>z.elim n (t9 (yv b o hb) ha)⟩
def RM (i:Nat)(ρ:Ev):Ev:=match ρ[i]? with
 |some (.o xs)=>ρ.set i (.v (.lst xs))
 |_=>ρ
def CS (i:Nat){st:Stmt}(h:pL X st F):pL X st (λρ=>F (RM i ρ)):=by
 intro H9 O0 pins s σ H D I ⟨O,ρ,E,fk,q⟩;dsimp only at q;unfold RM at q;cases e:ρ[i]? with
 |none=>rw[e]at q;exact h H9 O0 pins s σ H D I ⟨O,ρ,E,fk,q⟩
 |some sl=>
  rw[e]at q;cases sl with
  |x C=>exact h H9 O0 pins s σ H D I ⟨O,ρ,E,fk,q⟩
  |c m φ=>exact h H9 O0 pins s σ H D I ⟨O,ρ,E,fk,q⟩
  |d kvs=>exact h H9 O0 pins s σ H D I ⟨O,ρ,E,fk,q⟩
  |no=>exact h H9 O0 pins s σ H D I ⟨O,ρ,E,fk,q⟩
  |v d=>exact h H9 O0 pins s σ H D I ⟨O,ρ,E,fk,q⟩
  |o xs=>obtain⟨O',E',sub⟩:=E.disown e;exact h H9 O0 pins s σ H D I ⟨O',_,E',λa o hk z=>fk a o hk (sub a z),RS.grow q λb o hb n=>⟨hb,λz=>n (sub b z)⟩⟩
def yO (i:Nat)(ρ:Ev)(d:D):R Out:=match ρ[i]? with
 |some (.o xs)=>if xs.length<sizeLine then .ok (.nx (ρ.set i<|.o (xs++[d])))else .bad
 |_=>.bad
def bI (i:Nat)(he:PD X e f)(hN:X.N[i]?=some x:=by rfl)(hv:zJ X.env.scope x:=by first|exact aCM rfl|exact aBW (aCM rfl)|exact aBW (aBW rfl))(hd:(x==("__debug__":Str))=false:=by decide)(gg:(x==("__classdict__":Str))=false:=by decide)(ig:attributeBase (.Name x p) "append" X.env (eval (.Name x p) X.env)=eval (.Name x p) X.env:=by rfl)(hfew:((backTo bo (starEach [e] X.env)).all (λx=>!x.1)&&(backToKw bo (keywordEach [] X.env)).all (λx=>x.1.isSome)
   &&decide ([e].length+([]:List Keyword).length+(if([]:List Keyword).isEmpty then 0 else 1)<30))=true:=by rfl) (fm:(apos.endLine==bo.line)=true:=by rfl) (hs:starEach [e] X.env=(false,eval e X.env)::starEach [] X.env:=by rfl) (qc:(backTo bo (starEach [] X.env)).any (·.1)=false:=by rfl) (yr:swapsWith (.Call (.Attribute (.Name x p) "append" apos) [e] [] bo) none pos.line X.env=pure false:=by rfl):
  pL X (.Expr (.Call (.Attribute (.Name x p) "append" apos) [e] [] bo) pos) (λρ=>(f ρ).bind (yO i ρ)):=λH9 O0=>
 CU (tV (fx PySem.F.plainAttrs_list PySem.F.slot_list_append PySem.F.type_list_append rK (R3 hN hv hd gg) (j2 he u9 hs) ig hfew fm hs qc) yr) λD σ H O ρ E fk q=>by
 cases e1:f ρ with
 |ok d=>
  rw[e1,R.aa0]at q;unfold yO at q;cases e2:ρ[i]? with
  |none=>rw[e2]at q;exact aAm q
  |some sl=>
   rw[e2]at q;cases sl with
   |x C=>exact aAm q
   |c m φ=>exact aAm q
   |d kvs=>exact aAm q
   |no=>exact aAm q
   |v d=>exact aAm q
   |o xs=>
    dsimp only at q;split at q
    ·rename_i hz;obtain⟨a,vs,h1,h2,h3,h4,h5⟩:=E.own i xs e2;refine⟨_,h1,.inl ⟨rfl,vs,N8.of h4⟩,H9,O0,O,ρ,E,?_⟩;show IP X H O ((f ρ).bind λd=>(R.ok []).bind λds=>.ok (d::ds)) _;rw[e1];intro us H1 s1 r1;cases r1 with
     |cons r1 rn=>cases rn;have E1:=E.grow s1;refine⟨a,vs,_,rfl,rfl,s1 _ _ h4,by rw[h5.length];exact hz,?_⟩;obtain⟨E2,k2⟩:=E1.write e2 h1 ((h5.same s1).snoc r1);exact q σ _ O E2 fk ((Kp.of s1).trans k2)
    ·exact aAm q
 |ex x=>
  rw[e1]at q;cases e2:ρ[i]? with
  |none=>exact(q H E.same).elim
  |some sl=>exact(q H E.same).elim
 |bad=>rw[e1]at q;exact aAm q
def AB (i:Nat)(ρ:Ev):R (D×Ev):=match ρ[i]? with
 |some (.o xs)=>match xs[xs.length-1]? with
  |some d=>.ok (d,ρ.set i (.o xs.dropLast))
  |none=>.bad
 |_=>.bad
def RG (i:Nat)(hN:X.N[i]?=some x:=by rfl)(hv:zJ X.env.scope x:=by first|exact aCM rfl|exact aBW (aCM rfl)|exact aBW (aBW rfl))(hd:(x==("__debug__":Str))=false:=by decide)(gg:(x==("__classdict__":Str))=false:=by decide)(ig:attributeBase (.Name x p) "pop" X.env (eval (.Name x p) X.env)=eval (.Name x p) X.env:=by rfl)(fm:(apos.endLine==bo.line)=true:=by rfl)(yr:swapsWith (.Call (.Attribute (.Name x p) "pop" apos) [] [] bo) none pos.line X.env=pure false:=by rfl):
  pL X (.Expr (.Call (.Attribute (.Name x p) "pop" apos) [] [] bo) pos) (λρ=>(AB i ρ).bind λz=>.ok (.nx z.2)):=λH9 O0=>
 CU (tV (LY PySem.F.plainAttrs_list PySem.F.slot_list_pop PySem.F.type_list_pop JR (R3 hN hv hd gg) ig fm) yr) λD σ H O ρ E fk q=>by
 unfold AB at q;cases e2:ρ[i]? with
 |none=>rw[e2]at q;exact aAm q
 |some sl=>
  rw[e2]at q;cases sl with
  |x C=>exact aAm q
  |c m φ=>exact aAm q
  |d kvs=>exact aAm q
  |no=>exact aAm q
  |v d=>exact aAm q
  |o xs=>
   dsimp only at q;cases e3:xs[xs.length-1]? with
   |none=>rw[e3]at q;exact aAm q
   |some d=>rw[e3]at q;obtain⟨a,vs,h1,h2,h3,h4,h5⟩:=E.own i xs e2;obtain⟨v,g1,g2⟩:=h5.get e3;refine⟨_,h1,.inl ⟨rfl,vs,N8.of h4⟩,a,vs,v,rfl,rfl,h4,by rw[h5.length];exact g1,?_⟩;obtain⟨E2,k2⟩:=E.write e2 h1 h5.dropLast;exact q σ _ O E2 fk k2
def CC (j i:Nat)(hND:X.N.Nodup)(jh:i≠j:=by decide)(hN:X.N[i]?=some x:=by rfl)(hy:X.N[j]?=some y:=by rfl)(hv:zJ X.env.scope x:=by first|exact aCM rfl|exact aBW (aCM rfl)|exact aBW (aBW rfl))(hd:(x==("__debug__":Str))=false:=by decide)(gg:(x==("__classdict__":Str))=false:=by decide)(ig:attributeBase (.Name x p) "pop" X.env (eval (.Name x p) X.env)=eval (.Name x p) X.env:=by rfl)(fm:(apos.endLine==bo.line)=true:=by rfl)(hly:Loc X.env.scope y:=by first|exact aCM rfl|exact aBW rfl)(yr:swapsWith (.Call (.Attribute (.Name x p) "pop" apos) [] [] bo) (some (.Name y py)) pos.line X.env=pure false:=by rfl)(hf:X.fn y=true\/X.env.scope.names.lookup y=some .local:=by first|exact .inl rfl|exact .inr rfl|assumption):
  pL X (.Assign [.Name y py] (.Call (.Attribute (.Name x p) "pop" apos) [] [] bo) pos) (λρ=>(AB i ρ).bind λz=>.ok (.nx (z.2.set j (.v z.1)))):=λH9 O0=>
 CU (ME hND hy hly (LY PySem.F.plainAttrs_list PySem.F.slot_list_pop PySem.F.type_list_pop JR (R3 hN hv hd gg) ig fm) yr hf) λD σ H O ρ E fk q=>by
 unfold AB at q;cases e2:ρ[i]? with
 |none=>rw[e2]at q;exact aAm q
 |some sl=>
  rw[e2]at q;cases sl with
  |x C=>exact aAm q
  |c m φ=>exact aAm q
  |d kvs=>exact aAm q
  |no=>exact aAm q
  |v d=>exact aAm q
  |o xs=>
   dsimp only at q;cases e3:xs[xs.length-1]? with
   |none=>rw[e3]at q;exact aAm q
   |some d=>rw[e3]at q;obtain⟨a,vs,h1,h2,h3,h4,h5⟩:=E.own i xs e2;obtain⟨v,g1,g2⟩:=h5.get e3;refine⟨_,h1,.inl ⟨rfl,vs,N8.of h4⟩,a,vs,v,rfl,rfl,h4,by rw[h5.length];exact g1,?_⟩;obtain⟨E2,k2⟩:=E.write e2 h1 h5.dropLast;exact q _ _ O (E2.set j<|k2.rep E.trk fk g2) fk k2
def VP (i:Nat)(ρ:Ev)(k d:D):R Out:=match ρ[i]?,k with
 |some (.o xs),.int k=>match yY xs.length k with
  |some j=>.ok (.nx (ρ.set i<|.o (xs.set j d)))
  |none=>.bad
 |_,_=>.bad
def GX (i:Nat)(he:PD X e f)(hk:PD X k g)(hN:X.N[i]?=some x:=by rfl)(hv:zJ X.env.scope x:=by first|exact aCM rfl|exact aBW (aCM rfl)|exact aBW (aBW rfl))(hd:(x==("__debug__":Str))=false:=by decide)(gg:(x==("__classdict__":Str))=false:=by decide)(ha:∀v,assign (.Subscript (.Name x p) k ps) X.env v=(do
   let ov<-holding [v] (eval (.Name x p) X.env)
   let iv<-holding [v,ov] (eval k X.env)
   standAt ps
   holding [v,ov,iv] (setItem ov iv v)
   release [v,ov,iv] []):=by intro _;rfl) (hs:swapsWithSole [.Subscript (.Name x p) k ps] e pos.line X.env=pure false:=by rfl) (hw:swappedStores [.Subscript (.Name x p) k ps] e X.env=pure none:=by rfl) (h1:(assignEach [.Subscript (.Name x p) k ps] X.env).map (·.2)=[assign (.Subscript (.Name x p) k ps) X.env]:=by rfl):
  pL X (.Assign [.Subscript (.Name x p) k ps] e pos) (λρ=>(f ρ).bind λd=>(g ρ).bind λkd=>VP i ρ kd d):=λH9 O0=>
 CU (AF he (IW (R3 hN hv hd gg) hk IT ha) hs hw h1) λD σ H O ρ E fk q=>⟨H9,O0,O,ρ,E,by
  cases e1:f ρ with
  |ok d=>
   rw[e1,R.aa0]at q;intro v H1 s1 r1;have E1:=E.grow s1;cases e2:g ρ with
   |ok kd=>
    rw[e2,R.aa0]at q;unfold VP at q;cases e3:ρ[i]? with
    |none=>rw[e3]at q;exact aAm q
    |some sl=>
     rw[e3]at q;cases sl with
     |x C=>exact aAm q
     |c m φ=>exact aAm q
     |d kvs=>exact aAm q
     |no=>exact aAm q
     |v d=>exact aAm q
     |o xs=>
      obtain⟨a,vs,h1,h2,h3,h4,h5⟩:=E1.own i xs e3;refine⟨_,h1,H9,O0,O,ρ,E1,?_⟩;rw[e2];intro kv H2 s2 r2;have E2:=E1.grow s2;cases kd with
      |int kk=>
       dsimp only at q;cases e4:yY xs.length kk with
       |none=>rw[e4]at q;exact aAm q
       |some j=>rw[e4]at q;cases r2;refine⟨a,vs,kk,j,rfl,rfl,s2 _ _ h4,by rw[h5.length];exact e4,?_⟩;obtain⟨E3,k3⟩:=E2.write e3 h1 ((h5.same s2).set (r1.same s2) j);exact q σ _ O E3 fk (((Kp.of s1).trans (Kp.of s2)).trans k3)
      |_=>exact aAm q
   |ex x=>rw[e2]at q;exact(q H E.same).elim
   |bad=>rw[e2]at q;exact aAm q
  |ex x=>rw[e1]at q;exactλH' s=>q H' (E.same.trans s)
  |bad=>rw[e1]at q;exact q⟩
def GM (i:Nat)(own fr:List Str)(js:List Nat)(hN:X.N.Nodup)(hc:X.calm=true)(S:CompSc X scope own fr js)(hi:UE X tg iter fi)(hX:∀(pins:N5) (fp:List Addr) (X':Cx),(∃s9 Ha C,X'=GQ X pins s9 Ha (own++fr) scope (cQ X scope C) C fp)->KP X' tg G/\UR X' ifs ft/\PD X' elt fe)(hG:∀ρ d ρ1,G d (f9 own js ρ)=.ok ρ1->qF ρ1 (f9 own js ρ))(hy:X.N[i]?=some y:=by rfl)(hyl:X.env.scope.names.lookup y=some .local:=by rfl)(yr:swapsWith (.ListComp elt [⟨tg,iter,ifs,0⟩] scope pos) (some (.Name y py)) spos.line X.env=pure true:=by rfl)(hs:∀x,foldedSetIterable iter X.env x=pure x:=by intro _;rfl):
  pL X (.Assign [.Name y py] (.ListComp elt [⟨tg,iter,ifs,0⟩] scope pos) spos) (λρ=>((fi ρ).bind λds=>if ds.length<=sizeLine then(u4 G ft fe (f9 own js ρ) ds).bind λrs=>R.ok rs else .bad).bind λrs=>.ok (.nx (ρ.set i (.o rs)))):=by
 intro H9 O0 pins s σ H D I ⟨O,ρ,E,fk,q⟩;dsimp only at q;rw[exec_Assign_Name_used _ _ _ _ yr];refine aAa (aDL<|aAa ?_);show wpAny _ X.A (do let _<-comprehension (.ListComp elt [⟨tg,iter,ifs,0⟩] scope pos) scope X.env _ (newList []) false (eval iter X.env) (some<|assign (.Name y py) X.env)) _ _ s;refine aAa (aCn (aDI (use:=some (assign (.Name y py) X.env)) (Q:=λ_ s'=>SP X pins D .next s') rfl hs (Z0<|Inv.aa9 I S) S.kind S.names ?_) (λ_ s' hq=>aAb (aAb hq)) λ_ _ e=>e);refine D9 (hi pins s σ H (λJ H1=>∃ds rs,Same H H1/\US X.K J H1 O ds/\ds.length<=sizeLine/\u4 G ft fe (f9 own js ρ) ds=.ok rs/\RS X H9 O0 H O (.ok (.nx (ρ.set i<|.o rs))) D) I ⟨H9,O0,O,ρ,E,oQ I O E.trk,?_⟩) λv s1 h1=>D9 h1 λitv s2 h2=>?_
 ·cases e1:fi ρ with
  |ex x=>rw[e1]at q;exactλH' s=>q H' (E.same.trans s)
  |bad=>rw[e1]at q;exact q
  |ok ds=>
   rw[e1,R.aa0]at q;intro J H1 s1 hJ;split at q
   ·rename_i hl;cases e2:u4 G ft fe (f9 own js ρ) ds with
    |ex x=>rw[e2]at q;exact(q H E.same).elim
    |bad=>rw[e2]at q;exact q.elim
    |ok rs=>rw[e2]at q;exact⟨ds,rs,s1,hJ,hl,e2,q⟩
   ·exact q.elim
 ·obtain⟨it,fp,tn,J,H2,e,I2,T,ju,f2,ds,rs,sm,hJ,hl,hrs,q⟩:=h2;subst e;refine oE (RR:=λacc C=>compPost (model X.prog X.w) X.A X.xe (some<|assign (.Name y py) X.env) (λ_ s'=>SP X pins D .next s') acc C) hc S (hX pins fp) (hG ρ) I2 T ju f2 (E.grow sm) hJ hrs hl ?_;intro acc C s' H' m hn hCa yu has sm' r nw hC hI;have I3:=hI s'.heap (aFb ..);show wpAny _ X.A (assign (.Name y py) X.env<|.ref acc) _ _ s';refine aEX (kT (i:=i) (v:=.ref acc) I3 hN hy (.inl hyl) rfl (λs4 I4 ⟨a,hsb,ha⟩=>?_)<|.inr hyl);have fg:∀x c,X.env.cells.lookup x=some c->c≠C:=λx c hc=>by obtain⟨v,hv⟩:=I2.cell x c hc;exact aAi (aAs hv.lt yu)
  have hCL:C≠X.env.locals:=aCh (aAs I2.lt yu);have hCa2:C≠a:=by
   rcases ha with ha|ha
   ·rw[ha];exact hCL
   ·exact aCb (fg y a ha)
  refine⟨m,hn.sameBut hsb hCa2,λh' ji=>?_⟩;obtain⟨H1,vs,yv,ha1,eH,rr⟩:=nw;subst eH;have E2:=((E.grow sm).grow yv).ad7 i ha1 (MA I3<|j6 (H:=H1) (a:=acc) (o:=.lst vs)) rr;refine⟨_,_,?_,q _ _ _ E2 (oQ I3 _ E2.trk) λb o hb n=>⟨by rw[l5 (t9 ((sm.trans yv) b o hb) ha1)];exact(sm.trans yv) b o hb,λz=>z.elim n (t9 ((sm.trans yv) b o hb) ha1)⟩⟩;exact I4.turned (t':=s4.toks) (it:=C) (λb o hb e=>(ji.2 b hb).trans e) hC hCL (.inr (aAr I2.sz yu)) fg λp hp=>aAi (aAs (aAf (I2.pin p hp).1) yu)
def jQ {st:Stmt}:pL X st (λ_=>.bad):=λH9 O0=>CU JO λD σ H O ρ E fk q=>q
end
end DL
namespace G
structure V where
 x:Int
 y:Int
 z:Int
deriving DecidableEq
instance:Add V:=⟨λu v=>⟨u.x+v.x,u.y+v.y,u.z+v.z⟩⟩
instance:Sub V:=⟨λu v=>⟨u.x-v.x,u.y-v.y,u.z-v.z⟩⟩
instance:Neg V:=⟨λu=>⟨-u.x,-u.y,-u.z⟩⟩
instance:HMul Int V V:=⟨λk u=>⟨k*u.x,k*u.y,k*u.z⟩⟩
instance:OfNat V 0:=⟨⟨0,0,0⟩⟩
@[simp]def a0b (u v:V):(u+v).x=u.x+v.x:=rfl
@[simp]def a0u (u v:V):(u+v).y=u.y+v.y:=rfl
@[simp]def a0f (u v:V):(u+v).z=u.z+v.z:=rfl
@[simp]def UA (u v:V):(u-v).x=u.x-v.x:=rfl
@[simp]def UN (u v:V):(u-v).y=u.y-v.y:=rfl
@[simp]def UC (u v:V):(u-v).z=u.z-v.z:=rfl
@[simp]def TR (u:V):(-u).x=-u.x:=rfl
@[simp]def UH (u:V):(-u).y=-u.y:=rfl
@[simp]def TX (u:V):(-u).z=-u.z:=rfl
@[simp]def MP (k:Int)(u:V):(k*u).x=k*u.x:=rfl
@[simp]def IZ (k:Int)(u:V):(k*u).y=k*u.y:=rfl
@[simp]def NZ (k:Int)(u:V):(k*u).z=k*u.z:=rfl
@[simp]def Y6:(0:V).x=0:=rfl
@[simp]def Z6:(0:V).y=0:=rfl
@[simp]def Z4:(0:V).z=0:=rfl
def ext {u v:V}(h1:u.x=v.x)(h2:u.y=v.y)(h3:u.z=v.z):u=v:=by cases u;cases v;simp_all
def oK {u v:V}:u=v↔u.x=v.x/\u.y=v.y/\u.z=v.z:=⟨λh=>by subst h;exact⟨rfl,rfl,rfl⟩,λ⟨a,b,c⟩=>ext a b c⟩
def c8 (u v:V):Int:=u.x*v.x+u.y*v.y+u.z*v.z
def cr (u v:V):V:=⟨u.y*v.z-u.z*v.y,u.z*v.x-u.x*v.z,u.x*v.y-u.y*v.x⟩
def i8 (a u v:V):Int:=c8 a (cr u v)
@[simp]def PM (u v:V):(cr u v).x=u.y*v.z-u.z*v.y:=rfl
@[simp]def PU (u v:V):(cr u v).y=u.z*v.x-u.x*v.z:=rfl
@[simp]def SF (u v:V):(cr u v).z=u.x*v.y-u.y*v.x:=rfl
def CA (a u v w:V):i8 a u v*w+i8 a v w*u+i8 a w u*v=i8 u v w*a:=by apply ext<;>simp[i8,c8]<;>grind
def LA (f a u v w:V):i8 a u v*c8 f w+i8 a v w*c8 f u+i8 a w u*c8 f v=i8 u v w*c8 f a:=by simp[i8,c8];grind
def j8 (a u v:V):i8 a v u=-i8 a u v:=by simp[i8,c8];grind
def B9 (a u:V):i8 a u u=0:=by simp[i8,c8];grind
def aD (a u v w:V):i8 a (u+v) w=i8 a u w+i8 a v w:=by simp[i8,c8];grind
def aL (a u v w:V):i8 a u (v+w)=i8 a u v+i8 a u w:=by simp[i8,c8];grind
def LZ (a u v w:V):i8 a u (v-w)=i8 a u v-i8 a u w:=by simp[i8,c8];grind
def xZ (a:V)(k:Int)(u v:V):i8 a u (k*v)=k*i8 a u v:=by simp[i8,c8];grind
def cH (u v:V):c8 u v=c8 v u:=by simp[c8];grind
def aZ (f u v:V):c8 f (u+v)=c8 f u+c8 f v:=by simp[c8];grind
def d7 (f u v:V):c8 f (u-v)=c8 f u-c8 f v:=by simp[c8];grind
def u7 (f:V)(k:Int)(v:V):c8 f (k*v)=k*c8 f v:=by simp[c8];grind
def G6 (f:V)(k:Int)(v:V):c8 (k*f) v=k*c8 f v:=by simp[c8];grind
def L9 (f:V):c8 f 0=0:=by simp[c8]
def S9 (a u v:V):c8 (cr a u) v=i8 a u v:=by simp[i8,c8];grind
def y9 {u:V}(h:u≠0):0<c8 u u:=by
 have h1:u.x≠0\/u.y≠0\/u.z≠0:=by
  by_cases a:u.x=0
  ·by_cases b:u.y=0
   ·by_cases c:u.z=0
    ·exact absurd (ext a b c) h
    ·exact .inr (.inr c)
   ·exact .inr (.inl b)
  ·exact .inl a
 have sq:∀t:Int,0<=t*t:=λt=>by
  rcases aGs 0 t with q|q
  ·exact aBK q q
  ·have:=aBK (aFc q) (aFc q);rwa [aDl]at this
 have sqp:∀t:Int,t≠0->0<t*t:=λt ht=>by
  have:=sq t;have:t*t≠0:=λz=>by rcases aAu.mp z with q|q<;>exact ht q
  omega
 have a:=sq u.x;have b:=sq u.y;have c:=sq u.z;unfold c8;rcases h1 with q|q|q
 ·have:=sqp _ q;omega
 ·have:=sqp _ q;omega
 ·have:=sqp _ q;omega
def y3 (h:n≠0)(hu:c8 n u=0)(hv:c8 n v=0)(hw:c8 n w=0):i8 u v w=0:=by
 have e:i8 u v w*c8 n n=0:=by have:=LA n n u v w;rw[hu,hv,hw]at this;simp at this;omega
 rcases aAu.mp e with q|q
 ·exact q
 ·have:=y9 h;omega
end G
namespace G
def v9 (v:V):(0:Int)*v=0:=ext (by simp) (by simp) (by simp)
def oT (v:V):v+0=v:=ext (by simp) (by simp) (by simp)
def fR (v:V):0+v=v:=ext (by simp) (by simp) (by simp)
structure Cone (Pos:V->Prop):Prop where
 add:∀{u v},Pos u->Pos v->Pos (u+v)
 mul:∀{k:Int} {u},0<k->Pos u->Pos (k*u)
 irr:¬Pos 0
section
variable{Pos:V->Prop} (C:Cone Pos)
include C
theorem Cone.comb {p q:Int}{u w:V}(hp:0<p)(hq:0<=q)(hw:Pos w)(hu:Pos u):Pos (p*w+q*u):=by
 by_cases h:q=0
 ·subst h;rw[v9,oT];exact C.mul hp hw
 ·exact C.add (C.mul hp hw) (C.mul (by lia) hu)
theorem Cone.sgn {k:Int}{v:V}(hv:Pos v)(h:Pos (k*v)):0<k:=by
 by_cases hk:0<k
 ·exact hk
 ·exfalso;by_cases h0:k=0
  ·subst h0;rw[v9]at h;exact C.irr h
  ·have h1:=C.add h (C.mul (k:=-k) (by lia) hv);have e:k*v+-k*v=0:=ext (by simp;grind) (by simp;grind) (by simp;grind);rw[e]at h1;exact C.irr h1
theorem Cone.tr {a u v w:V}(hu:Pos u)(hv:Pos v)(hw:Pos w)(hf:i8 u v w=0)(h1:0<i8 a u v)(h2:0<=i8 a v w):0<i8 a u w:=by
 refine C.sgn hv (k:=i8 a u w) ?_;have e:i8 a u w*v=i8 a u v*w+i8 a v w*u:=by have h:=CA a u v w;rw[hf,v9,j8 a u w]at h;have hx:=congrArg V.x h;have hy:=congrArg V.y h;have hz:=congrArg V.z h;simp at hx hy hz;exact ext (by simp;grind) (by simp;grind) (by simp;grind)
 rw[e];exact C.comb h1 h2 hw hu
theorem Cone.tr' {a u v w:V}(hu:Pos u)(hv:Pos v)(hw:Pos w)(hf:i8 u v w=0)(h1:0<=i8 a u v)(h2:0<i8 a v w):0<i8 a u w:=by
 refine C.sgn hv (k:=i8 a u w) ?_;have e:i8 a u w*v=i8 a v w*u+i8 a u v*w:=by have h:=CA a u v w;rw[hf,v9,j8 a u w]at h;have hx:=congrArg V.x h;have hy:=congrArg V.y h;have hz:=congrArg V.z h;simp at hx hy hz;exact ext (by simp;grind) (by simp;grind) (by simp;grind)
 rw[e];exact C.comb h2 h1 hu hw
end
structure ConeM (a:V)(Pos:V->Prop):Prop extends Cone Pos where
 inv:∀{u} (k:Int),Pos u->Pos (u+k*a)
def ConeM.tr {a:V}{Pos:V->Prop}(C:ConeM a Pos){u v w:V}(hu:Pos u)(hv:Pos v)(hw:Pos w)(h1:0<i8 a u v)(h2:0<=i8 a v w):0<i8 a u w:=by
 refine C.sgn hv (k:=i8 a u w) ?_;have e:i8 a u w*v=(i8 a u v*w+i8 a v w*u)+(-i8 u v w)*a:=by have h:=CA a u v w;rw[j8 a u w]at h;have hx:=congrArg V.x h;have hy:=congrArg V.y h;have hz:=congrArg V.z h;simp at hx hy hz;exact ext (by simp;grind) (by simp;grind) (by simp;grind)
 rw[e];exact C.inv _ (C.comb h1 h2 hw hu)
def i7 (w:V):Prop:=0<w.x\/(w.x=0/\(0<w.y\/(w.y=0/\0<w.z)))
instance(w:V):Decidable (i7 w):=inferInstanceAs (Decidable<|_\/_)
def y8:Cone i7 where
 add:=λ{u v} h1 h2=>by unfold i7 at*;simp;lia
 mul:=λ{k u} hk h=>by
  unfold i7 at*
  simp;rcases h with h|⟨h,h'|⟨h',h''⟩⟩
  ·exact .inl (aAU hk h)
  ·exact .inr ⟨by rw[h];simp,.inl (aAU hk h')⟩
  ·exact .inr ⟨by rw[h];simp,.inr ⟨by rw[h'];simp,aAU hk h''⟩⟩
 irr:=by unfold i7;simp
def M0 (w:V):Prop:=i7 (-w)
def zI:-(0:V)=0:=rfl
def aK:Cone M0 where
 add:=λ{u v} h1 h2=>by have e:-(u+v)=-u+-v:=ext (by simp;lia) (by simp;lia) (by simp;lia);unfold M0 at*;rw[e];exact y8.add h1 h2
 mul:=λ{k u} hk h=>by have e:-(k*u)=k*(-u):=ext (by simp;grind) (by simp;grind) (by simp;grind);unfold M0 at*;rw[e];exact y8.mul hk h
 irr:=by unfold M0;rw[zI];exact y8.irr
def RD (w:V):i7 w\/w=0\/M0 w:=by
 unfold M0 i7;rw[oK];simp
 lia
end G
namespace DL
open PySem L2
def N7 (G:D->Ev->R Ev)(F:Ev->R Out)(d:D)(ρ:Ev):R Out:=match G d ρ with
 |.ok ρ1=>F ρ1
 |_=>.bad
@[simp]def W7 (i:Nat)(F:Ev->R Out)(d:D)(ρ:Ev):N7 (λd ρ=>.ok (ρ.set i (Sl.v d))) F d ρ=F (ρ.set i (.v d)):=rfl
theorem rM (Iv:Ev->Prop):∀{ds:List D} {ρ:Ev},(∀d∈ds,∀ρ,Iv ρ->∃ρ2,N7 G F d ρ=.ok (.nx ρ2)/\Iv ρ2)->Iv ρ->∃ao,M3 G F ds ρ=.ok (.nx ao)/\Iv ao
 |[],ρ,_,h=>⟨ρ,rfl,h⟩
 |d::ds,ρ,ht,h=>by
  obtain⟨ρ2,e,h2⟩:=ht d aAL ρ h;obtain⟨ao,e',h'⟩:=rM Iv (ds:=ds) (ρ:=ρ2) (λd hd=>ht d (aAe _ hd)) h2;unfold N7 at e;cases e1:G d ρ with
  |ok ρ1=>rw[e1]at e;exact⟨ao,by rw[M3,e1];dsimp only at e⊢;rw[e];exact e',h'⟩
  |ex x=>rw[e1]at e;cases e
  |bad=>rw[e1]at e;cases e
def KM (Iv:Ev->Prop)(ht:∀d∈ds,∀ρ,Iv ρ->∃ρ2,N7 G F d ρ=.ok (.nx ρ2)/\Iv ρ2)(h0:Iv ρ)(h2:∀ao,Iv ao->L4 (F2 ao)=.ok d):
  L4 (C3 (M3 G F ds ρ) F2)=.ok d:=by
 obtain⟨ao,e,h⟩:=rM Iv ht h0;rw[e];exact h2 ao h
@[simp]def YZ (G:D->Ev->R Ev)(F:Ev->R Out)(ρ:Ev):M3 G F [] ρ=.ok (.nx ρ):=rfl
def KN {α:Type}{a b:α}:(R.ok a=R.ok b)=(a=b):=by simp
end DL
namespace DL
open PySem L2
class Bd (a:Int)(n:outParam Nat):Prop where
 h:bits a<=n
def f7 (h:bits a<=m)(hm:m<=n):bits a<=n:=aAr h hm
section
end
abbrev vd (v:G.V):D:=.tup [.int v.x,.int v.y,.int v.z]
def Sz (n:Nat)(v:G.V):Prop:=bits v.x<=n/\bits v.y<=n/\bits v.z<=n
def Sz.mono (h:Sz m v)(hm:m<=n:=by decide):Sz n v:=⟨f7 h.1 hm,f7 h.2.1 hm,f7 h.2.2 hm⟩
def Sz.sub (h:Sz n u)(h':Sz n v):Sz (n+1) (u-v):=⟨bits_sub h.1 h'.1,bits_sub h.2.1 h'.2.1,bits_sub h.2.2 h'.2.2⟩
def Sz.add (h:Sz n u)(h':Sz n v):Sz (n+1) (u+v):=⟨bits_add h.1 h'.1,bits_add h.2.1 h'.2.1,bits_add h.2.2 h'.2.2⟩
def Sz.cr (h:Sz m u)(h':Sz n v):Sz (m+n+1) (G.cr u v):=⟨bits_sub (bits_mul h.2.1 h'.2.2) (bits_mul h.2.2 h'.2.1),bits_sub (bits_mul h.2.2 h'.1) (bits_mul h.1 h'.2.2),bits_sub (bits_mul h.1 h'.2.1) (bits_mul h.2.1 h'.1)⟩
end DL
namespace M
open PySem L2 DL
abbrev pt (a b c:Int):D:=.tup [.int a,.int b,.int c]
abbrev UX (n:Nat)(a b c:Int):Prop:=bits a<=n/\bits b<=n/\bits c<=n
def v1 (k:Int->Int->Int->List D->R D):List D->R D
 |.tup [.int a,.int b,.int c]::ds=>k a b c ds
 |_=>.bad
def v4 (k:Int->Int->Int->Int->List D->R D):List D->R D
 |.tup [.int a,.int b,.int c,.int d]::ds=>k a b c d ds
 |_=>.bad
def OT (k:List D->List D->R D):List D->R D
 |.lst xs::ds=>k xs ds
 |_=>.bad
def kj (k:List D->List D->R D):List D->R D
 |.tup xs::ds=>k xs ds
 |_=>.bad
def sK (q:R D):List D->R D
 |[]=>q
 |_=>.bad
def C7 (h:v1 k ds=.ok r):∃a b c e,ds=.tup [.int a,.int b,.int c]::e/\k a b c e=.ok r:=by
 unfold v1 at h;split at h
 ·exact⟨_,_,_,_,rfl,h⟩
 ·cases h
def MW (h:v4 k ds=.ok r):∃a b c d e,ds=.tup [.int a,.int b,.int c,.int d]::e/\k a b c d e=.ok r:=by
 unfold v4 at h;split at h
 ·exact⟨_,_,_,_,_,rfl,h⟩
 ·cases h
def uC (h:OT k ds=.ok r):∃xs e,ds=.lst xs::e/\k xs e=.ok r:=by
 unfold OT at h;split at h
 ·exact⟨_,_,rfl,h⟩
 ·cases h
def YH (h:kj k ds=.ok r):∃xs e,ds=.tup xs::e/\k xs e=.ok r:=by
 unfold kj at h;split at h
 ·exact⟨_,_,rfl,h⟩
 ·cases h
def G9 (h:sK q ds=.ok r):ds=[]/\q=.ok r:=by
 unfold sK at h;split at h
 ·exact⟨rfl,h⟩
 ·cases h
def v3 (k:Int->Int->Int->List D->R D):List D->R D
 |.tup (.int a::.int b::.int c::_)::ds=>k a b c ds
 |_=>.bad
def TQ (h:v3 k ds=.ok r):∃a b c t e,ds=.tup (.int a::.int b::.int c::t)::e/\k a b c e=.ok r:=by
 unfold v3 at h;split at h
 ·exact⟨_,_,_,_,_,rfl,h⟩
 ·cases h
def n4:List D->R D:=v1 λa b c=>v1 λa' b' c'=>sK (.ok (pt (a'-a) (b'-b)<|c'-c))
def v6:List D->R D:=v1 λa b c=>v1 λd e f=>sK (if UX 20000000 a b c/\UX 20000000 d e f then .ok (pt (b*f-c*e) (c*d-a*f)<|a*e-b*d)else .bad)
def j4:List D->R D:=v3 λa b c=>v1 λd e f=>sK (if UX 50000000 a b c/\UX 50000000 d e f then .ok (.int (a*d+b*e+c*f))else .bad)
@[simp]def ON (P Q:G.V):n4 [vd P,vd Q]=.ok (vd (Q-P)):=rfl
def Z9 (h1:Sz 20000000 u)(h2:Sz 20000000 v):v6 [vd u,vd v]=.ok (vd (G.cr u v)):=if_pos ⟨h1,h2⟩
def bP (h1:Sz 50000000 u)(h2:Sz 50000000 v):j4 [vd u,vd v]=.ok (.int (G.c8 u v)):=if_pos ⟨h1,h2⟩
def rule (k:Int):Int:=7*k*k+10*k+3
def P64:Int:=10^64
def P34:Int:=10^34
def a0q:Int:=P64*P34
def sgn (x:Int):Int:=if 0<x then 1 else if x<0 then-1 else 0
def G2:List D->R D:=v4 λa b c d=>v1 λx y z=>sK (if UX 50000000 a b c/\UX 50000000 x y z then .ok (.int (sgn<|a*x+b*y+c*z-d))else .bad)
def DQ (h1:UX 50000000 a b c)(h2:UX 50000000 x y z):G2 [.tup [.int a,.int b,.int c,.int d],pt x y z]=.ok (.int (sgn (a*x+b*y+c*z-d))):=if_pos ⟨h1,h2⟩
def VD (i:Nat)(ρ:Ev):Nat:=match ρ[i]? with
 |some (.v (.int b))=>b.natAbs+2
 |_=>0
def yQ (ha:bits a<=n)(hb:bits b<=n):bits (aGq a b)<=n:=by
 refine DK ?_;have h1:=EF ha;have h2:=EF hb;have e:((aGq a b:Nat):Int).natAbs=aGq a b:=by simp
 rw[e];unfold aGq;rcases Nat.eq_zero_or_pos a.natAbs with z|z
 ·rw[z,Nat.gcd_zero_left];exact h2
 ·exact aDf (Nat.gcd_le_left _ z) h1
end M
namespace G
def x8 (v:V):v-v=0:=ext (by simp) (by simp) (by simp)
def eG (a u:V):i8 a u 0=0:=by simp[i8,c8]
def J4 (a u v:V):i8 a u (-v)=-i8 a u v:=by simp[i8,c8];grind
def aO (a u v:V):i8 a (-u) v=-i8 a u v:=by simp[i8,c8];grind
structure Row (n:V)(Pos:V->Prop)(T:V->Prop):Prop where
 cone:Cone Pos
 nz:n≠0
 pl:∀X Y,T X->T Y->c8 n (X-Y)=0
 tot:∀X Y,T X->T Y->X=Y\/Pos (X-Y)\/Pos (Y-X)
def Lft (n:V)(Pos:V->Prop)(a b X:V):Prop:=0<=i8 n (b-a) (X-a)/\(i8 n (b-a) (X-a)=0->(X=a\/Pos (X-a))/\(X=b\/Pos (b-X)))
def turn (n P Q R:V):Int:=i8 n (Q-P) (R-Q)
def X1 (n P:V):List V->List V
 |b::a::r=>if turn n a b P<=0 then X1 n P (a::r)else b::a::r
 |r=>r
def w8 (n:V)(ps:List V):List V:=ps.foldl (λc P=>P::X1 n P c) []
def C9:List V->List (V×V)
 |b::a::r=>(a,b)::C9 (a::r)
 |_=>[]
def qT (n:V):List V->Prop
 |b::a::a'::r=>0<i8 n (a-a') (b-a)/\qT n (a::a'::r)
 |_=>True
def qT.tail (h:qT n (b::r)):qT n r:=by
 match r,h with
 |[],_=>trivial
 |[_],_=>trivial
 |_::_::_,h=>exact h.2
def O7 (h:e∈C9 r):e∈C9 (b::r):=by
 match r,h with
 |a::r,h=>exact aAe _ h
section
variable{n:V} {Pos:V->Prop} {T:V->Prop} (F:Row n Pos T)
include F
structure ChOk (n:V)(Pos:V->Prop)(done:V->Prop)(c:List V):Prop where
 mem:∀X∈c,done X
 ed:∀e∈C9 c,Pos (e.2-e.1)/\∀X,done X->Lft n Pos e.1 e.2 X
 bend:qT n c
 last:∀X,done X->∀z,c.getLast?=some z->X=z\/Pos (X-z)
theorem Row.ac9 {done:V->Prop}(hd:∀X,done X->T X)(hx:Pos x)(hn:c8 n x=0):∀(c:List V),(∀X∈c,done X)->(∀e∈C9 c,Pos (e.2-e.1))->qT n c->(∀b a r,c=b::a::r->0<i8 n (b-a) x)->∀e∈C9 c,0<i8 n (e.2-e.1) x
 |[],_,_,_,_,e,he=>by cases he
 |[_],_,_,_,_,e,he=>by cases he
 |[b,a],_,_,_,h,e,he=>by simp[C9]at he;subst he;exact h b a [] rfl
 |b::a::a'::r,hm,hp,hb,h,e,he=>by
  have hba:=h b a _ rfl;rcases aAd.mp he with q|q
  ·subst q;exact hba
  ·refine Row.ac9 hd hx hn (a::a'::r) (λX hX=>hm X (aAe _ hX)) (λe he=>hp e (O7 he)) hb.tail ?_ e q;intro b1 a1 r1 e1;injection e1 with e1 e2;injection e2 with e2 e3;subst e1 e2;have p1:=hp (a',a) (O7 (by simp[C9]));have p2:=hp (a,b) (by simp[C9]);exact F.cone.tr p1 p2 hx (y3 F.nz (F.pl _ _ (hd _ (hm _ (by simp))) (hd _ (hm _ (by simp)))) (F.pl _ _ (hd _ (hm _ (by simp))) (hd _ (hm _ (by simp)))) hn) hb.1 (aAW hba)
theorem Row.weak (hu:Pos u)(hv:Pos v)(hw:Pos w)(pu:c8 n u=0)(pv:c8 n v=0)(pw:c8 n w=0)(h1:0<=i8 n u v)(h2:0<=i8 n v w):0<=i8 n u w:=by
 have hf:=y3 F.nz pu pv pw;by_cases z1:0<i8 n u v
 ·exact aAW (F.cone.tr hu hv hw hf z1 h2)
 ·by_cases z2:0<i8 n v w
  ·exact aAW (F.cone.tr' hu hv hw hf h1 z2)
  ·have e1:i8 n u v=0:=by lia
   have e2:i8 n v w=0:=by lia
   have h:=CA n u v w;rw[e1,e2,hf,v9,v9,v9,fR,fR]at h;by_cases z:i8 n w u=0
   ·rw[j8];lia
   ·exfalso;have e:v=0:=by have hx:=congrArg V.x h;have hy:=congrArg V.y h;have hz:=congrArg V.z h;simp at hx hy hz;exact ext ((aAu.mp hx).resolve_left z) ((aAu.mp hy).resolve_left z) ((aAu.mp hz).resolve_left z)
    rw[e]at hv;exact F.cone.irr hv
theorem Row.ad3 {done:V->Prop}(hd:∀X,done X->T X)(hP:T P)(ar:∀X,done X->Pos (P-X)):∀(c:List V),ChOk n Pos done c->c≠[]->
  (∀X q,c.head?=some q->done X->(X=q\/Pos (X-q))->0<=i8 n (P-q) (X-q))->
  ∃q r,X1 n P c=q::r/\ChOk n Pos done (q::r)/\(∀X,done X->(X=q\/Pos (X-q))->0<=i8 n (P-q) (X-q))/\∀a r',r=a::r'->0<turn n a q P
 |[],_,h,_=>absurd rfl h
 |[b],ok,_,hh=>⟨b,[],rfl,ok,λX hX h=>hh X b rfl hX h,λa r' e=>by cases e⟩
 |b::a::r,ok,_,hh=>by
  by_cases ht:turn n a b P<=0
  ·have e:X1 n P (b::a::r)=X1 n P (a::r):=by rw[X1,if_pos ht]
   rw[e];have db:=ok.mem b (by simp);have da:=ok.mem a (by simp);have eb:=ok.ed (a,b) (by simp[C9]);refine Row.ad3 hd hP ar (a::r) ⟨λX hX=>ok.mem X (aAe _ hX),λe he=>ok.ed e (O7 he),ok.bend.tail,λX hX z hz=>ok.last X hX z (by rw[aBh];exact hz)⟩ (by simp) ?_;intro X q hq hX hXq;have hq':a=q:=aAj hq;subst hq';have hu:Pos (b-a):=eb.1;have hp:Pos (P-b):=ar b db;have mo:Pos (P-a):=ar a da;have pu:c8 n (b-a)=0:=F.pl _ _ (hd _ db) (hd _ da);have pp:c8 n (P-b)=0:=F.pl _ _ hP (hd _ db);have ppa:c8 n (P-a)=0:=F.pl _ _ hP (hd _ da);unfold turn at ht;have hpu:0<=i8 n (P-b) (b-a):=by rw[j8];lia
   rcases F.tot X b (hd X hX) (hd b db)with z|z|z
   ·
    subst z;have e1:P-a=(P-X)+(X-a):=ext (by simp;lia) (by simp;lia) (by simp;lia);rw[e1,aD,B9];lia
   ·
    have hx:=hh X b rfl hX (.inr z);have px:c8 n (X-b)=0:=F.pl _ _ (hd _ hX) (hd _ db);have hPX:Pos (P-X):=ar X hX;have key:i8 n (P-a) (X-a)*(P-b)=i8 n (P-b) (X-b)*(P-a)+i8 n (P-b) (b-a)*(P-X):=by
     have hr:=CA n (b-a) (X-b) (P-b);rw[y3 F.nz pu px pp,v9]at hr;have e1:P-a=(b-a)+(P-b):=ext (by simp;lia) (by simp;lia) (by simp;lia);have e2:X-a=(b-a)+(X-b):=ext (by simp;lia) (by simp;lia) (by simp;lia);have e3:P-X=(P-b)-(X-b):=ext (by simp;lia) (by simp;lia) (by simp;lia);rw[e1,e2,e3];generalize b-a=u at*
     generalize X-b=x at*
     generalize P-b=p at*
     rw[aD,aL,aL,B9];have hx:=congrArg V.x hr;have hy:=congrArg V.y hr;have hz:=congrArg V.z hr;rw[j8 n p x]at hr hx hy hz;simp at hx hy hz;have s1:=j8 n p x;have s2:=j8 n p u;have s3:=j8 n u x;apply ext<;>simp<;>grind
    by_cases zz:0<=i8 n (P-a) (X-a)
    ·exact zz
    ·exfalso;have h1:Pos ((-i8 n (P-a) (X-a))*(P-b)):=F.cone.mul (by lia) hp;have h2:Pos (-i8 n (P-a) (X-a)*(P-b)+(i8 n (P-b) (X-b)*(P-a)+i8 n (P-b) (b-a)*(P-X))):=by
      by_cases y1:i8 n (P-b) (X-b)=0
      ·rw[y1,v9,fR];by_cases y2:i8 n (P-b) (b-a)=0
       ·rw[y2,v9,oT];exact h1
       ·exact F.cone.add h1 (F.cone.mul (by lia) hPX)
      ·exact F.cone.add h1 (F.cone.comb (by lia) hpu mo hPX)
     rw[<-key]at h2;have e0:-i8 n (P-a) (X-a)*(P-b)+i8 n (P-a) (X-a)*(P-b)=0:=by apply ext<;>simp<;>grind
     rw[e0]at h2;exact F.cone.irr h2
   ·
    rcases hXq with hXa|hXa
    ·subst hXa;rw[x8,eG];exact aCq _
    ·have hl:=(eb.2 X hX).1;have hpu':0<=i8 n (P-a) (b-a):=by have e1:P-a=(P-b)+(b-a):=ext (by simp;lia) (by simp;lia) (by simp;lia);rw[e1,aD,B9];lia
     exact F.weak mo hu hXa ppa pu (F.pl _ _ (hd _ hX)<|hd _ da) hpu' hl
  ·have e:X1 n P (b::a::r)=b::a::r:=by rw[X1,if_neg ht]
   refine⟨b,a::r,e,ok,λX hX h=>hh X b rfl hX h,λa' r' e'=>?_⟩;injection e' with e1 _;subst e1
   lia
theorem Row.push {done:V->Prop}(hd:∀X,done X->T X)(hP:T P)(ar:∀X,done X->Pos (P-X))(ok:ChOk n Pos done c)(hc:c≠[])(hh:∀X q,c.head?=some q->done X->X=q\/Pos (q-X)):
  ChOk n Pos (λX=>done X\/X=P) (P::X1 n P c):=by
 obtain⟨q,r,e,ma,hq,ht⟩:=F.ad3 hd hP ar c ok hc (λX q hq hX h=>by
  rcases h with h|h
  ·subst h;rw[x8,eG];exact aCq _
  ·exfalso;rcases hh X q hq hX with z|z
   ·subst z;rw[x8]at h;exact F.cone.irr h
   ·have:=F.cone.add h z;have e0:X-q+(q-X)=0:=ext (by simp;lia) (by simp;lia) (by simp;lia);rw[e0]at this;exact F.cone.irr this)
 rw[e];have dq:=ma.mem q (by simp);have hpq:Pos (P-q):=ar q dq;have ppq:c8 n (P-q)=0:=F.pl _ _ hP (hd _ dq);refine⟨λX hX=>?_,λg he=>?_,?_,λX hX z hz=>?_⟩
 ·rcases aAd.mp hX with h|h
  ·exact .inr h
  ·exact .inl (ma.mem X h)
 ·rcases aAd.mp he with h|h
  ·subst h;refine⟨hpq,λX hX=>?_⟩;rcases hX with hX|hX
   ·rcases F.tot X q (hd _ hX) (hd _ dq)with z|z|z
    ·subst z;exact⟨by rw[x8,eG];exact aCq _,λ_=>⟨.inl rfl,.inr hpq⟩⟩
    ·exact⟨hq X hX (.inr z),λ_=>⟨.inr z,.inr (ar X hX)⟩⟩
    ·
     have:0<i8 n (P-q) (X-q):=by
      match r,ht,ma with
      |[],_,ma=>
       rcases ma.last X hX q rfl with y|y
       ·subst y;rw[x8]at z;exact absurd z F.cone.irr
       ·exfalso;have:=F.cone.add y z;have e0:X-q+(q-X)=0:=ext (by simp;lia) (by simp;lia) (by simp;lia);rw[e0]at this;exact F.cone.irr this
      |a::r',ht,ma=>
       have h1:=ht a r' rfl;unfold turn at h1;have da:=ma.mem a (by simp);have ea:=ma.ed (a,q) (by simp[C9]);have hl:=(ea.2 X hX).1;have e1:X-a=(q-a)-(q-X):=ext (by simp;lia) (by simp;lia) (by simp;lia);dsimp only at hl;rw[e1,LZ,B9]at hl;have ie:0<=i8 n (q-X) (q-a):=by rw[j8];lia
       have:=F.cone.tr' (a:=n) z ea.1 hpq (y3 F.nz (F.pl _ _ (hd _ dq)<|hd _ hX) (F.pl _ _ (hd _ dq)<|hd _ da) ppq) ie h1;have e2:X-q=-(q-X):=ext (by simp;lia) (by simp;lia) (by simp;lia);rw[e2,J4,j8];lia
     exact⟨aAW this,λz=>by dsimp only at z;lia⟩
   ·subst hX;exact⟨by rw[B9];exact aCq _,λ_=>⟨.inr hpq,.inl rfl⟩⟩
  ·
   have hed:=ma.ed g h;refine⟨hed.1,λX hX=>?_⟩;rcases hX with hX|hX
   ·exact hed.2 X hX
   ·subst hX;have h1:=F.ac9 hd hpq ppq (q::r) ma.mem (λe he=>(ma.ed e he).1) ma.bend (λb a r' e'=>by injection e' with e1 e2;subst e1;exact ht a r' e2) g h
    have h2:=(hed.2 q dq).1;have:0<i8 n (g.2-g.1) (X-g.1):=by have e1:X-g.1=(q-g.1)+(X-q):=ext (by simp;lia) (by simp;lia) (by simp;lia);rw[e1,aL];lia
    exact⟨aAW this,λz=>by lia⟩
 ·match r,ht,ma with
  |[],_,_=>trivial
  |a::r',ht,ma=>exact⟨ht a r' rfl,ma.bend⟩
 ·rcases hX with hX|hX
  ·exact ma.last X hX z (by rw[aBh]at hz;exact hz)
  ·subst hX;have hz':(q::r).getLast?=some z:=by rw[aBh]at hz;exact hz
   exact .inr (ar z<|ma.mem z<|aCN hz')
end
end G
namespace G
section
variable{n:V} {Pos:V->Prop} {T:V->Prop} (F:Row n Pos T)
include F
theorem ChOk.congr {done done':V->Prop}(ok:ChOk n Pos done c)(h:∀X,done X↔done' X):ChOk n Pos done' c:=
 ⟨λX hX=>(h X).mp (ok.mem X hX),λe he=>⟨(ok.ed e he).1,λX hX=>(ok.ed e he).2 X ((h X).mpr hX)⟩,ok.bend,λX hX=>ok.last X ((h X).mpr hX)⟩
theorem Row.fold:∀(rest:List V) (done:V->Prop) (c:List V),ChOk n Pos done c->c≠[]->(∀X q,c.head?=some q->done X->X=q\/Pos (q-X))->(∀X,done X->T X)->(∀X∈rest,T X)->
  (∀X Y,done X->Y∈rest->Pos (Y-X))->rest.Pairwise (λa b=>Pos (b-a))->
  ChOk n Pos (λX=>done X\/X∈rest) (rest.foldl (λc P=>P::X1 n P c) c)/\rest.foldl (λc P=>P::X1 n P c) c≠[]/\(∀X q,(rest.foldl (λc P=>P::X1 n P c) c).head?=some q->(done X\/X∈rest)->X=q\/Pos (q-X))
 |[],done,c,ok,hc,hh,hd,ht,ar,hs=>⟨ChOk.congr F ok λX=>by simp,hc,λX q hq hX=>by
   rcases hX with hX|hX
   ·exact hh X q hq hX
   ·cases hX⟩
 |P::rest,done,c,ok,hc,hh,hd,ht,ar,hs=>by
  have hP:=ht P (by simp);have ma:=F.push hd hP (λX hX=>ar X P hX (by simp)) ok hc hh;have ji:=aAA.mp hs;obtain⟨h1,h2,h3⟩:=Row.fold rest (λX=>done X\/X=P) (P::X1 n P c) ma (by simp) (λX q hq hX=>by
    have hq':P=q:=aAj hq;subst hq';rcases hX with hX|hX
    ·exact .inr (ar X P hX (by simp))
    ·exact .inl hX) (λX hX=>by
    rcases hX with hX|hX
    ·exact hd X hX
    ·subst hX;exact hP) (λX hX=>ht X (aAe _ hX)) (λX Y hX hY=>by
    rcases hX with hX|hX
    ·exact ar X Y hX (aAe _ hY)
    ·subst hX;exact ji.1 Y hY) ji.2
  have e:∀X,((done X\/X=P)\/X∈rest)↔(done X\/X∈P::rest):=λX=>by simp[or_assoc]
  exact⟨ChOk.congr F h1 e,h2,λX q hq hX=>h3 X q hq ((e X).mpr hX)⟩
theorem Row.ac8 (af:ps≠[])(ht:∀X∈ps,T X)(hs:ps.Pairwise (λa b=>Pos (b-a))):
  ChOk n Pos (λX=>X∈ps) (w8 n ps)/\w8 n ps≠[]/\(∀X q,(w8 n ps).head?=some q->X∈ps->X=q\/Pos (q-X)):=by
 match ps,af with
 |p::rest,_=>
  have ji:=aAA.mp hs;have ok:ChOk n Pos (λX=>X=p) [p]:=⟨λX hX=>by simpa using hX,λe he=>by simp[C9]at he,trivial,λX hX z hz=>by simp at hz;subst hz;exact .inl hX⟩
  obtain⟨h1,h2,h3⟩:=F.fold rest (λX=>X=p) [p] ok (by simp) (λX q hq hX=>by have hq':p=q:=aAj hq;subst hq';exact .inl hX) (λX hX=>by subst hX;exact ht _ (by simp)) (λX hX=>ht X (aAe _ hX)) (λX Y hX hY=>by subst hX;exact ji.1 Y hY) ji.2
  have e:∀X,(X=p\/X∈rest)↔X∈p::rest:=λX=>by simp
  refine⟨ChOk.congr F h1 e,h2,λX q hq hX=>h3 X q hq ((e X).mpr hX)⟩
end
def k9 (n:V)(ts:List V):List V:=(w8 n ts).reverse.dropLast++(w8 n ts.reverse).reverse.dropLast
def t8:List V->List (V×V)
 |a::b::r=>(a,b)::t8 (b::r)
 |_=>[]
theorem lD:∀(l:List V) (a b:V),t8 (l++[a]++[b])=t8 (l++[a])++[(a,b)]
 |[],a,b=>rfl
 |[x],a,b=>rfl
 |x::y::l,a,b=>by have:=lD (y::l) a b;simp only[aBq,t8]at this⊢;rw[this]
theorem fP:∀c:List V,t8 c.reverse=(C9 c).reverse
 |[]=>rfl
 |[_]=>rfl
 |b::a::r=>by
  have ih:=fP (a::r);rw[aAH,aAH]at*
  rw[lD,ih,C9,aAH]
theorem lK:∀(l:List V) (a:V) (m:List V),t8 (l++a::m)=t8 (l++[a])++t8 (a::m)
 |[],a,m=>by cases m<;>rfl
 |[x],a,m=>rfl
 |x::y::l,a,m=>by have:=lK (y::l) a m;simp only[aBq,t8]at this⊢;rw[this]
def T7 (l:List V):List (V×V):=l.zip (l.tail++l.take 1)
theorem nJ:∀(l:List V) (z:V),l.zip (l.tail++[z])=t8 (l++[z])
 |[],z=>rfl
 |[a],z=>rfl
 |a::b::r,z=>by have:=nJ (b::r) z;simp only[List.tail_cons,aBq,t8,aBT]at this⊢;rw[this]
def V1:T7 (a::l)=t8 (a::l++[a]):=nJ (a::l) a
def LX (h1:w8 n ts=M::c)(h2:w8 n ts.reverse=m::d)(h3:(M::c).getLast?=some m)(h4:(m::d).getLast?=some M)(hc:c≠[]):
  T7 (k9 n ts)=(C9 (w8 n ts)).reverse++(C9 (w8 n ts.reverse)).reverse:=by
 rw[<-fP,<-fP];unfold k9;rw[h1,h2,aAH,aAH,aBl,aBl];have e1:∃c',c.reverse=m::c':=by
  have:c.getLast?=some m:=by
   match c,hc with
   |x::c,_=>rw[aBh]at h3;exact h3
  rw[<-aEN]at this;match hh:c.reverse,this with
  |x::r,this=>exact⟨r,by rw[show x=m from aAj this]⟩
 obtain⟨c',e1⟩:=e1;have e2:∃d',d.reverse++[m]=M::d':=by
  have:(m::d).reverse.head?=some M:=by rw[aEN];exact h4
  rw[aAH]at this;match hh:d.reverse++[m],this with
  |x::r,this=>exact⟨r,by rw[show x=M from aAj this]⟩
 obtain⟨d',e2⟩:=e2;have e3:c.reverse++d.reverse=m::(c'++d.reverse):=by rw[e1];rfl
 rw[e3,V1];have e4:m::(c'++d.reverse)++[m]=c.reverse++(d.reverse++[m]):=by rw[e1];simp
 rw[e4,e2,lK]
end G
namespace G
def t4 (a b:V):-(a-b)=b-a:=ext (by simp;lia) (by simp;lia) (by simp;lia)
def q8:M0 (a-b)↔i7 (b-a):=by unfold M0;rw[t4]
def G3 (h:i7 (a-a)):False:=by rw[x8]at h;exact y8.irr h
def x9 (h:i7 (a-b))(h':i7 (b-a)):False:=by have:=y8.add h h';have e0:a-b+(b-a)=0:=ext (by simp;lia) (by simp;lia) (by simp;lia);rw[e0]at this;exact y8.irr this
def P8 (a b:V):a=b\/i7 (a-b)\/i7 (b-a):=by
 rcases RD (a-b)with h|h|h
 ·exact .inr (.inl h)
 ·refine .inl (ext ?_ ?_ ?_)
  ·have:=congrArg V.x h;simp at this;lia
  ·have:=congrArg V.y h;simp at this;lia
  ·have:=congrArg V.z h;simp at this;lia
 ·exact .inr (.inr (q8.mp h))
def jx (P Q X:V):Prop:=(i7 (Q-P)->(X=P\/i7 (X-P))/\(X=Q\/i7 (Q-X)))/\(i7 (P-Q)->(X=P\/i7 (P-X))/\(X=Q\/i7 (X-Q)))
structure EdgeOf (n:V)(T:V->Prop)(P Q:V):Prop where
 p:T P
 q:T Q
 ne:P≠Q
 left:∀X,T X->0<=i8 n (Q-P) (X-P)
 btw:∀X,T X->i8 n (Q-P) (X-P)=0->jx P Q X
section
variable{n:V} {T:V->Prop}
def EdgeOf.next (h:EdgeOf n T P Q)(h':EdgeOf n T P R):Q=R:=by
 have h1:=h.left R h'.q;have h2:=h'.left Q h.q;rw[j8]at h2;have z1:i8 n (Q-P) (R-P)=0:=by lia
 have z2:i8 n (R-P) (Q-P)=0:=by rw[j8];lia
 have b1:=h.btw R h'.q z1;have b2:=h'.btw Q h.q z2;rcases P8 Q P with e|e|e
 ·exact absurd e.symm h.ne
 ·have c1:=b1.1 e;have c2:i7 (R-P):=c1.1.resolve_left (aCb h'.ne);rcases c1.2 with q|q
  ·exact q.symm
  ·rcases(b2.1 c2).2 with q'|q'
   ·exact q'
   ·exact(x9 q q').elim
 ·have c1:=b1.2 e;have c2:i7 (P-R):=c1.1.resolve_left (aCb h'.ne);rcases c1.2 with q|q
  ·exact q.symm
  ·rcases(b2.2 c2).2 with q'|q'
   ·exact q'
   ·exact(x9 q q').elim
def oN (n P Q X:V):i8 n (Q-P) (X-P)=i8 n (Q-P) (X-Q):=by have e:X-P=(X-Q)+(Q-P):=ext (by simp;lia) (by simp;lia) (by simp;lia);rw[e,aL,B9];lia
end
theorem oZ {Pos:V->Prop}(X:V):∀(c:List V),(∀Y∈c,X=Y\/Pos (X-Y)\/Pos (Y-X))->(∀q,c.head?=some q->X=q\/Pos (q-X))->(∀z,c.getLast?=some z->X=z\/Pos (X-z))->c≠[]->
  (∀u,Pos u->Pos (-u)->False)->X∈c\/∃a b,(a,b)∈C9 c/\Pos (X-a)/\Pos (b-X)
 |[],_,_,_,h,_=>absurd rfl h
 |[q],_,h1,h2,_,as=>by
  rcases h1 q rfl with e|e
  ·exact .inl (by simp[e])
  ·rcases h2 q rfl with e'|e'
   ·exact .inl (by simp[e'])
   ·exact(as _ e (by rw[t4];exact e')).elim
 |b::a::r,ht,h1,h2,_,as=>by
  rcases h1 b rfl with e|e
  ·exact .inl (by simp[e])
  ·rcases ht a (by simp)with y|y|y
   ·exact .inl (by simp[y])
   ·exact .inr ⟨a,b,by simp[C9],y,e⟩
   ·rcases oZ X (a::r) (λY hY=>ht Y (aAe _ hY)) (λq hq=>by have:a=q:=aAj hq;subst this;exact .inr y) (λz hz=>h2 z (by rw[aBh];exact hz)) (by simp) as with h|⟨a',b',h,h'⟩
    ·exact .inl (aAe _ h)
    ·exact .inr ⟨a',b',O7 h,h'⟩
def Row.ad2 {Pos:V->Prop}{T:V->Prop}(F:Row n Pos T)(ha:T a)(hb:T b)(hP:T P)(hQ:T Q)(h1:Pos (P-a))(h2:Pos (b-P))(h3:Pos (Q-P))(h4:0<=i8 n (b-a) (P-a))(h5:0<i8 n (Q-P) (a-P))(h6:0<=i8 n (Q-P) (b-P)):False:=by
 have e1:i8 n (Q-P) (a-P)=i8 n (P-a) (Q-P):=by have e:a-P=-(P-a):=(t4 _ _).symm;rw[e,J4,j8];lia
 rw[e1]at h5;have:=F.cone.tr h1 h3 h2 (y3 F.nz (F.pl _ _ hP ha) (F.pl _ _ hQ hP)<|F.pl _ _ hb hP) h5 h6;have e2:b-a=(b-P)+(P-a):=ext (by simp;lia) (by simp;lia) (by simp;lia);rw[e2,aD,B9,j8]at h4
 lia
structure Sheet (n:V)(ts:List V):Prop where
 nz:n≠0
 pl:∀X∈ts,∀Y∈ts,c8 n (X-Y)=0
 ord:ts.Pairwise (λa b=>i7 (b-a))
 two:∃X∈ts,∃Y∈ts,X≠Y
section
variable{n:V} {ts:List V} (S:Sheet n ts)
include S
theorem Sheet.row:Row n i7 (λX=>X∈ts):=⟨y8,S.nz,λX Y hX hY=>S.pl X hX Y hY,λX Y _ _=>P8 X Y⟩
theorem Sheet.ae8:Row n M0 (λX=>X∈ts):=⟨aK,S.nz,λX Y hX hY=>S.pl X hX Y hY,λX Y _ _=>by
 rcases P8 X Y with h|h|h
 ·exact .inl h
 ·exact .inr (.inr (q8.mpr h))
 ·exact .inr (.inl (q8.mpr h))⟩
theorem Sheet.ne:ts≠[]:=by obtain⟨X,hX,_⟩:=S.two;intro e;rw[e]at hX;cases hX
theorem Sheet.ab0:ChOk n i7 (λX=>X∈ts) (w8 n ts)/\w8 n ts≠[]/\(∀X q,(w8 n ts).head?=some q->X∈ts->X=q\/i7 (q-X)):=
 S.row.ac8 S.ne (λ_ h=>h) S.ord
theorem Sheet.ab1:ChOk n M0 (λX=>X∈ts) (w8 n ts.reverse)/\w8 n ts.reverse≠[]/\(∀X q,(w8 n ts.reverse).head?=some q->X∈ts->X=q\/M0 (q-X)):=by
 have h:=S.ae8.ac8 (ps:=ts.reverse) (by simpa using S.ne) (λX h=>by simpa using h) (by rw[aEc];exact S.ord.imp λh=>q8.mpr h)
 obtain⟨h1,h2,h3⟩:=h;exact⟨ChOk.congr S.ae8 h1 λX=>by simp,h2,λX q hq hX=>h3 X q hq (by simpa using hX)⟩
theorem Sheet.ae2 (h:(a,b)∈C9 (w8 n ts))(ha:a∈ts)(hb:b∈ts):EdgeOf n (λX=>X∈ts) a b/\i7 (b-a):=by obtain⟨e1,e2⟩:=S.ab0.1.ed _ h;dsimp only at e1 e2;refine⟨⟨ha,hb,λe=>by subst e;exact G3 e1,λX hX=>(e2 X hX).1,λX hX z=>⟨λ_=>(e2 X hX).2 z,λy=>(x9 e1 y).elim⟩⟩,e1⟩
theorem Sheet.ad6 (h:(a,b)∈C9 (w8 n ts.reverse))(ha:a∈ts)(hb:b∈ts):EdgeOf n (λX=>X∈ts) a b/\i7 (a-b):=by obtain⟨e1,e2⟩:=S.ab1.1.ed _ h;dsimp only at e1 e2;have zv:=q8.mp e1;refine⟨⟨ha,hb,λe=>by subst e;exact G3 zv,λX hX=>(e2 X hX).1,λX hX z=>⟨λy=>(x9 zv y).elim,λ_=>?_⟩⟩,zv⟩;obtain⟨q1,q2⟩:=(e2 X hX).2 z;exact⟨q1.imp id q8.mp,q2.imp id q8.mp⟩
theorem L0 (h:(a,b)∈C9 c):a∈c/\b∈c:=by
 induction c with
 |nil=>cases h
 |cons x c ih=>
  match c,h,ih with
  |[],h,_=>cases h
  |y::r,h,ih=>
   rcases aAd.mp h with e|e
   ·cases e;simp
   ·have:=ih e;exact⟨aAe _ this.1,aAe _ this.2⟩
theorem Sheet.ends:∃m M c d,m∈ts/\M∈ts/\i7 (M-m)/\(∀X∈ts,X=m\/i7 (X-m))/\(∀X∈ts,X=M\/i7 (M-X))/\w8 n ts=M::c/\w8 n ts.reverse=m::d/\(M::c).getLast?=some m/\(m::d).getLast?=some M/\c≠[]/\d≠[]:=by
 obtain⟨o1,n1,h1⟩:=S.ab0;obtain⟨o2,n2,h2⟩:=S.ab1;obtain⟨M,c,e1⟩:=aEF n1;obtain⟨m,d,e2⟩:=aEF n2;have hM:M∈ts:=o1.mem M (by rw[e1];simp);have hm:m∈ts:=o2.mem m (by rw[e2];simp);have lM:∀X∈ts,X=M\/i7 (M-X):=λX hX=>h1 X M (by rw[e1];rfl) hX;have lm:∀X∈ts,X=m\/i7 (X-m):=λX hX=>(h2 X m (by rw[e2];rfl) hX).imp id q8.mp;obtain⟨z,hz⟩:∃z,(M::c).getLast?=some z:=by simp[aEO]
 obtain⟨y,hy⟩:∃z,(m::d).getLast?=some z:=by simp[aEO]
 have zm:z=m:=by
  have zt:z∈ts:=o1.mem z (by rw[e1];exact aCN hz);rcases o1.last m hm z (by rw[e1];exact hz)with e|e
  ·exact e.symm
  ·rcases lm z zt with e'|e'
   ·exact e'
   ·exact(x9 e e').elim
 have yM:y=M:=by
  have yt:y∈ts:=o2.mem y (by rw[e2];exact aCN hy);rcases o2.last M hM y (by rw[e2];exact hy)with e|e
  ·exact e.symm
  ·rcases lM y yt with e'|e'
   ·exact e'
   ·exact(x9 (q8.mp e) e').elim
 subst zm yM;have mM:i7 (y-z):=by
  obtain⟨X,hX,Y,hY,ne⟩:=S.two;rcases lm y hM with e|e
  ·exfalso;subst e;have k:∀W∈ts,W=y:=λW hW=>by
    rcases lm W hW with e|e
    ·exact e
    ·rcases lM W hW with e'|e'
     ·exact e'
     ·exact(x9 e e').elim
   exact ne ((k X hX).trans (k Y hY).symm)
  ·exact e
 refine⟨z,y,c,d,hm,hM,mM,lm,lM,e1,e2,hz,hy,λe=>?_,λe=>?_⟩
 ·subst e;have:y=z:=by simpa using hz
  subst this;exact G3 mM
 ·subst e;have:z=y:=by simpa using hy
  subst this;exact G3 mM
theorem Sheet.pair (h:(P,Q)∈T7 (k9 n ts)):EdgeOf n (λX=>X∈ts) P Q:=by
 obtain⟨m,M,c,d,hm,hM,mM,lm,lM,e1,e2,h3,h4,hc,hd⟩:=S.ends;rw[LX e1 e2 h3 h4 hc,aAP,aCr,aCr]at h;rcases h with h|h
 ·have:=L0 S h;exact(S.ae2 h (S.ab0.1.mem _ this.1)<|S.ab0.1.mem _ this.2).1
 ·have:=L0 S h;exact(S.ad6 h (S.ab1.1.mem _ this.1)<|S.ab1.1.mem _ this.2).1
theorem bF (h:P∈l):∃Q,(P,Q)∈T7 l:=by
 obtain⟨i,hi,e⟩:=aBd h;have hl:l.length=(l.tail++l.take 1).length:=by
  match l,hi with
  |a::l,_=>simp
 refine⟨(l.tail++l.take 1)[i]'(by lia),?_⟩;unfold T7;refine List.mem_of_getElem (i:=i) (h:=by rw[List.length_zip];lia) ?_;rw[List.getElem_zip,e]
theorem Sheet.ac3 (h:EdgeOf n (λX=>X∈ts) P Q):P∈k9 n ts:=by
 obtain⟨m,M,c,d,hm,hM,mM,lm,lM,e1,e2,h3,h4,hc,hd⟩:=S.ends;obtain⟨o1,n1,t1⟩:=S.ab0;obtain⟨o2,n2,t2⟩:=S.ab1;unfold k9;rw[aAP,e1,e2,aAH,aAH,aBl,aBl,aCr,aCr];rcases P8 Q P with e|e|e
 ·exact absurd e.symm h.ne
 ·
  left;rcases oZ (Pos:=i7) P (w8 n ts) (λY _=>P8 P Y) (λq hq=>t1 P q hq h.p) (λz hz=>o1.last P h.p z hz) n1 (λu a b=>by have:=y8.add a b;have e0:u+-u=0:=ext (by simp;lia) (by simp;lia) (by simp;lia);rw[e0]at this;exact y8.irr this)with r|⟨a,b,r,r1,r2⟩
  ·rw[e1]at r;rcases aAd.mp r with q|q
   ·subst q;rcases lM Q h.q with y|y
    ·exact absurd y.symm h.ne
    ·exact(x9 e y).elim
   ·exact q
  ·exfalso;have mm:=L0 S r;have ta:=o1.mem _ mm.1;have tb:=o1.mem _ mm.2;have z5:=h.left a ta;have z5':i8 n (Q-P) (a-P)≠0:=λz=>by
    rcases((h.btw a ta z).1 e).1 with y|y
    ·subst y;exact G3 r1
    ·exact x9 r1 y
   exact S.row.ad2 ta tb h.p h.q r1 r2 e ((o1.ed _ r).2 P h.p).1 (by lia) (h.left b tb)
 ·right;rcases oZ (Pos:=M0) P (w8 n ts.reverse) (λY _=>S.ae8.tot P Y h.p (by rename_i hY;exact o2.mem Y hY)) (λq hq=>t2 P q hq h.p) (λz hz=>o2.last P h.p z hz) n2 (λu a b=>by have:=aK.add a b;have e0:u+-u=0:=ext (by simp;lia) (by simp;lia) (by simp;lia);rw[e0]at this;exact aK.irr this)with r|⟨a,b,r,r1,r2⟩
  ·rw[e2]at r;rcases aAd.mp r with q|q
   ·subst q;rcases lm Q h.q with y|y
    ·exact absurd y.symm h.ne
    ·exact(x9 e y).elim
   ·exact q
  ·exfalso;have mm:=L0 S r;have ta:=o2.mem _ mm.1;have tb:=o2.mem _ mm.2;have z5:=h.left a ta;have r1':=q8.mp r1;have z5':i8 n (Q-P) (a-P)≠0:=λz=>by
    rcases((h.btw a ta z).2 e).1 with y|y
    ·subst y;exact G3 r1'
    ·exact x9 r1' y
   exact S.ae8.ad2 ta tb h.p h.q r1 r2 (q8.mpr e) ((o2.ed _ r).2 P h.p).1 (by lia) (h.left b tb)
theorem Sheet.aa1:(P,Q)∈T7 (k9 n ts)↔EdgeOf n (λX=>X∈ts) P Q:=by
 refine⟨S.pair,λh=>?_⟩;obtain⟨R,hR⟩:=bF S (S.ac3 h);have:=(S.pair hR).next h
 subst this;exact hR
end
end G
namespace G
theorem M5 {Pos:V->Prop}(C:Cone Pos):∀(c:List V),(∀e∈C9 c,Pos (e.2-e.1))->c.Pairwise (λb a=>Pos (b-a))
 |[],_=>aGp
 |[x],_=>aDO _ _
 |b::a::r,h=>by
  have ih:=M5 C (a::r) (λe he=>h e (O7 he));have h0:=h (a,b) (by simp[C9]);refine aAA.mpr ⟨λy hy=>?_,ih⟩;rcases aAd.mp hy with e|e
  ·subst e;exact h0
  ·have:=(aAA.mp ih).1 y e;have s:=C.add h0 this;have e0:b-a+(a-y)=b-y:=ext (by simp;lia) (by simp;lia) (by simp;lia);dsimp only at s
   rwa [e0]at s
theorem jT:∀{h:V} {c:List V} {X:V},X∈c->∃b,(X,b)∈C9 (h::c)
 |h,[],X,hX=>by cases hX
 |h,a::r,X,hX=>by
  rcases aAd.mp hX with e|e
  ·subst e;exact⟨h,by simp[C9]⟩
  ·obtain⟨b,hb⟩:=jT (h:=a) e;exact⟨b,O7 hb⟩
section
variable{n:V} {ts:List V} (S:Sheet n ts)
include S
theorem Sheet.aa3 (h:X∈k9 n ts):X∈ts:=by obtain⟨Q,hQ⟩:=bF S h;exact(S.pair hQ).p
theorem Sheet.aa4:(k9 n ts).Nodup:=by
 obtain⟨m,M,c,d,hm,hM,mM,lm,lM,e1,e2,h3,h4,hc,hd⟩:=S.ends;obtain⟨o1,n1,t1⟩:=S.ab0;obtain⟨o2,n2,t2⟩:=S.ab1;unfold k9;rw[e1,e2,aAH,aAH,aBl,aBl];have p1:=M5 y8 (w8 n ts) λe he=>(o1.ed e he).1;have p2:=M5 aK (w8 n ts.reverse) λe he=>(o2.ed e he).1;rw[e1]at p1;rw[e2]at p2;have q1:=(aAA.mp p1).2;have q2:=(aAA.mp p2).2;rw[aCS];refine⟨?_,?_,?_⟩
 ·rw[aCc,aEc];exact q1.imp λ{a b} h e=>by subst e;exact G3 h
 ·rw[aCc,aEc];exact q2.imp λ{a b} h e=>by subst e;exact G3 (q8.mp h)
 ·intro x hx y hy e;subst e;rw[aCr]at hx hy;obtain⟨b,hb⟩:=jT (h:=M) hx;obtain⟨b',jb⟩:=jT (h:=m) hy;rw[<-e1]at hb;rw[<-e2]at jb;have m1:=L0 S hb;have m2:=L0 S jb;obtain⟨g1,l1⟩:=S.ae2 hb (o1.mem _ m1.1) (o1.mem _ m1.2);obtain⟨g2,l2⟩:=S.ad6 jb (o2.mem _ m2.1) (o2.mem _ m2.2);have:=g1.next g2;subst this;exact x9 l1 l2
theorem Sheet.ab4:∃m r,k9 n ts=m::r/\m∈ts/\∀X∈ts,X=m\/i7 (X-m):=by
 obtain⟨m,M,c,d,hm,hM,mM,lm,lM,e1,e2,h3,h4,hc,hd⟩:=S.ends;have e3:∃c',c.reverse=m::c':=by
  have:c.getLast?=some m:=by
   match c,hc with
   |x::c,_=>rw[aBh]at h3;exact h3
  rw[<-aEN]at this;match hh:c.reverse,this with
  |x::r,this=>exact⟨r,by rw[show x=m from aAj this]⟩
 obtain⟨c',e3⟩:=e3;refine⟨m,c'++d.reverse,?_,hm,lm⟩;unfold k9;rw[e1,e2,aAH,aAH,aBl,aBl,e3];rfl
theorem KZ (h:Q∈l):∃P,(P,Q)∈T7 l:=by
 match l,h with
 |a::r,h=>
  have h':Q∈r++[a]:=by simpa[or_comm]using h
  obtain⟨i,hi,e⟩:=aBd h';have fo:i<(a::r).length:=by simpa using hi
  refine⟨(a::r)[i],?_⟩;show _∈(a::r).zip (r++[a]);refine List.mem_of_getElem (i:=i) (h:=by rw[List.length_zip];simp;omega) ?_;rw[List.getElem_zip,e]
theorem uF (h:(P,Q)∈T7 l):P∈l/\Q∈l:=by
 have h':=aDM h;refine⟨h'.1,?_⟩;match l,h'.2 with
 |a::r,z=>simpa[or_comm]using z
theorem Sheet.strict (h:EdgeOf n (λX=>X∈ts) P Q)(hX:X∈k9 n ts)(h1:X≠P)(h2:X≠Q):0<i8 n (Q-P) (X-P):=by
 have tX:=S.aa3 hX;have h0:=h.left X tX;by_cases z:i8 n (Q-P) (X-P)=0
 ·exfalso;have b:=h.btw X tX z;obtain⟨Y,hY⟩:=bF S hX;have g:=S.pair hY;have l1:=g.left P h.p;have l2:=g.left Q h.q;rcases P8 Q P with e|e|e
  ·exact h.ne e.symm
  ·have b1:=b.1 e;have c1:=b1.1.resolve_left h1;have c2:=b1.2.resolve_left h2;have zz:i8 n (X-P) (Q-X)=0:=by have e1:Q-P=(Q-X)+(X-P):=ext (by simp;lia) (by simp;lia) (by simp;lia);rw[e1,aD,B9,j8]at z;lia
   have l1':0<=i8 n (X-P) (Y-X):=by have e1:P-X=-(X-P):=(t4 _ _).symm;rw[e1,J4]at l1;rw[j8];lia
   rcases P8 Y X with y|y|y
   ·exact g.ne y.symm
   ·have w1:=S.row.weak c1 y c2 (S.pl _ tX _ h.p) (S.pl _ g.q _ tX) (S.pl _ h.q _ tX) l1' l2;by_cases p1:0<i8 n (X-P) (Y-X)
    ·have:=y8.tr c1 y c2 (y3 S.nz (S.pl _ tX _ h.p) (S.pl _ g.q _ tX)<|S.pl _ h.q _ tX) p1 l2
     lia
    ·have z1:i8 n (Y-X) (P-X)=0:=by have e1:P-X=-(X-P):=(t4 _ _).symm;rw[e1,J4,j8];lia
     rcases((g.btw P h.p z1).1 y).1 with k|k
     ·exact h1 k.symm
     ·exact x9 k c1
   ·have y':i7 (X-Y):=y;have m1:0<=i8 n (X-Y) (X-P):=by have e1:Y-X=-(X-Y):=(t4 _ _).symm;rw[e1,J4,j8]at l1';lia
    have m2:0<=i8 n (Q-X) (X-Y):=by have e1:Y-X=-(X-Y):=(t4 _ _).symm;rw[e1,aO,j8]at l2;lia
    by_cases p1:0<i8 n (Q-X) (X-Y)
    ·have:=y8.tr c2 y' c1 (y3 S.nz (S.pl _ h.q _ tX) (S.pl _ tX _ g.q)<|S.pl _ tX _ h.p) p1 m1;rw[j8]at this;lia
    ·have z1:i8 n (Y-X) (Q-X)=0:=by have e1:Y-X=-(X-Y):=(t4 _ _).symm;rw[e1,aO,j8];lia
     rcases((g.btw Q h.q z1).2 y').1 with k|k
     ·exact h2 k.symm
     ·exact x9 k c2
  ·have b1:=b.2 e;have c1:=b1.1.resolve_left h1;have c2:=b1.2.resolve_left h2;have zz:i8 n (P-X) (X-Q)=0:=by have e1:Q-P=-((P-X)+(X-Q)):=ext (by simp;lia) (by simp;lia) (by simp;lia);have e2:X-P=-(P-X):=(t4 _ _).symm;rw[e1,e2,aO,J4,aD,B9,j8]at z;lia
   rcases P8 Y X with y|y|y
   ·exact g.ne y.symm
   ·
    have m2:0<=i8 n (X-Q) (Y-X):=by have e1:Q-X=-(X-Q):=(t4 _ _).symm;rw[e1,J4,j8]at l2;lia
    by_cases p1:0<i8 n (X-Q) (Y-X)
    ·have:=y8.tr c2 y c1 (y3 S.nz (S.pl _ tX _ h.q) (S.pl _ g.q _ tX)<|S.pl _ h.p _ tX) p1 l1;rw[j8]at this;lia
    ·have z1:i8 n (Y-X) (Q-X)=0:=by have e1:Q-X=-(X-Q):=(t4 _ _).symm;rw[e1,J4,j8];lia
     rcases((g.btw Q h.q z1).1 y).1 with k|k
     ·exact h2 k.symm
     ·exact x9 k c2
   ·have y':i7 (X-Y):=y;have m1:0<=i8 n (P-X) (X-Y):=by have e1:Y-X=-(X-Y):=(t4 _ _).symm;rw[e1,aO,j8]at l1;lia
    have m2:0<=i8 n (X-Y) (X-Q):=by have e1:Y-X=-(X-Y):=(t4 _ _).symm;have e2:Q-X=-(X-Q):=(t4 _ _).symm;rw[e1,e2,aO,J4]at l2;lia
    by_cases p1:0<i8 n (P-X) (X-Y)
    ·have:=y8.tr c1 y' c2 (y3 S.nz (S.pl _ h.p _ tX) (S.pl _ tX _ g.q)<|S.pl _ tX _ h.q) p1 m2
     lia
    ·have z1:i8 n (Y-X) (P-X)=0:=by have e1:Y-X=-(X-Y):=(t4 _ _).symm;rw[e1,aO,j8];lia
     rcases((g.btw P h.p z1).2 y').1 with k|k
     ·exact h1 k.symm
     ·exact x9 k c1
 ·lia
end
end G
namespace G
def iM {a:V}(h:a≠0):a.x≠0\/a.y≠0\/a.z≠0:=by
 by_cases p:a.x=0
 ·by_cases q:a.y=0
  ·by_cases r:a.z=0
   ·exact absurd (ext p q r) h
   ·exact .inr (.inr r)
  ·exact .inr (.inl q)
 ·exact .inl p
def A3 {a w:V}(ha:a≠0)(h:cr a w=0):∃k m:Int,0<k/\k*w=m*a:=by
 have h1:=congrArg V.x h;have h2:=congrArg V.y h;have h3:=congrArg V.z h;simp at h1 h2 h3;have key:∀k m:Int,k≠0->k*w=m*a->∃k m:Int,0<k/\k*w=m*a:=λk m hk e=>by
  by_cases p:0<k
  ·exact⟨k,m,p,e⟩
  ·refine⟨-k,-m,by lia,?_⟩;have q1:=congrArg V.x e;have q2:=congrArg V.y e;have q3:=congrArg V.z e;simp at q1 q2 q3;apply ext<;>simp<;>grind
 rcases iM ha with p|p|p
 ·exact key a.x w.x p (by apply ext<;>simp<;>grind)
 ·exact key a.y w.y p (by apply ext<;>simp<;>grind)
 ·exact key a.z w.z p (by apply ext<;>simp<;>grind)
def ConeM.ad1 {Pos:V->Prop}(C:ConeM a Pos)(ha:a≠0)(hw:Pos w):cr a w≠0:=λh=>by
 obtain⟨k,m,hk,e⟩:=A3 ha h;have h1:=C.inv (-m) (C.mul hk hw);rw[e]at h1;have e0:m*a+-m*a=0:=by apply ext<;>simp<;>grind
 rw[e0]at h1;exact C.irr h1
def D8 (a A:V):List V->V->V->V×V
 |[],up,out=>(up,out)
 |P::Ps,up,out=>if up=0\/0<c8 up (P-A)then D8 a A Ps (cr a (P-A)) P else D8 a A Ps up out
def RA (a A:V)(Pos:V->Prop)(seen:V->Prop)(up out:V):Prop:=
 (up=0/\∀P,seen P->cr a (P-A)=0)\/(seen out/\Pos (out-A)/\up=cr a (out-A)/\∀P,seen P->i8 a (out-A) (P-A)<=0)
def iW (h:cr a w=0)(u:V):i8 a u w=0:=by
 have e:i8 a u w=-c8 (cr a w) u:=by simp[i8,c8];grind
 rw[e,h];simp[c8]
theorem rW {Pos:V->Prop}(C:ConeM a Pos)(ha:a≠0):∀(pts:List V) (seen:V->Prop) (up out:V),RA a A Pos seen up out->(∀P,seen P->Pos (P-A)\/cr a (P-A)=0)->(∀P∈pts,Pos (P-A)\/cr a (P-A)=0)->
  RA a A Pos (λP=>seen P\/P∈pts) (D8 a A pts up out).1 (D8 a A pts up out).2
 |[],seen,up,out,h,_,_=>by
  show RA a A Pos _ up out;rcases h with⟨h1,h2⟩|⟨h1,h2,h3,h4⟩
  ·exact .inl ⟨h1,λP hP=>h2 P (by simpa using hP)⟩
  ·exact .inr ⟨.inl h1,h2,h3,λP hP=>h4 P (by simpa using hP)⟩
 |Q::pts,seen,up,out,h,hs,hp=>by
  have hQ:=hp Q (by simp);have stp:RA a A Pos (λP=>seen P\/P=Q) (if up=0\/0<c8 up (Q-A)then(cr a<|Q-A)else up) (if up=0\/0<c8 up (Q-A)then Q else out):=by
   rcases h with⟨h1,h2⟩|⟨h1,h2,h3,h4⟩
   ·rw[if_pos (.inl h1),if_pos (.inl h1)];by_cases z:cr a (Q-A)=0
    ·exact .inl ⟨z,λP hP=>by
      rcases hP with hP|hP
      ·exact h2 P hP
      ·subst hP;exact z⟩
    ·refine .inr ⟨.inr rfl,hQ.resolve_right z,rfl,λP hP=>?_⟩;rcases hP with hP|hP
     ·rw[iW (h2 P hP)];exact aCq _
     ·subst hP;rw[B9];exact aCq _
   ·have af:up≠0:=by rw[h3];exact C.ad1 ha h2
    have ed:c8 up (Q-A)=i8 a (out-A) (Q-A):=by rw[h3,S9]
    by_cases z:0<c8 up (Q-A)
    ·rw[if_pos (.inr z),if_pos (.inr z)];have hq:Pos (Q-A):=by
      rcases hQ with q|q
      ·exact q
      ·rw[ed,iW q]at z;lia
     refine .inr ⟨.inr rfl,hq,rfl,λP hP=>?_⟩;rcases hP with hP|hP
     ·by_cases zz:i8 a (Q-A) (P-A)<=0
      ·exact zz
      ·exfalso;have hP':Pos (P-A):=by
        rcases hs P hP with q|q
        ·exact q
        ·rw[iW q]at zz;lia
       have:=C.tr h2 hq hP' (by rw[<-ed];exact z) (by lia);have:=h4 P hP
       lia
     ·subst hP;rw[B9];exact aCq _
    ·rw[if_neg (by rintro(q|q);exact af q;exact z q),if_neg (by rintro(q|q);exact af q;exact z q)];refine .inr ⟨.inl h1,h2,h3,λP hP=>?_⟩;rcases hP with hP|hP
     ·exact h4 P hP
     ·subst hP;rw[<-ed];lia
  have r:=rW C ha pts (λP=>seen P\/P=Q) _ _ stp (λP hP=>by
   rcases hP with hP|hP
   ·exact hs P hP
   ·subst hP;exact hQ) (λP hP=>hp P (aAe _ hP))
  have e:D8 a A (Q::pts) up out=D8 a A pts (if up=0\/0<c8 up (Q-A)then(cr a<|Q-A)else up) (if up=0\/0<c8 up (Q-A)then Q else out):=by rw[D8];split<;>rfl
  rw[e];have ee:(λP=>(seen P\/P=Q)\/P∈pts)=(λP=>seen P\/P∈Q::pts):=by funext P;simp[or_assoc]
  rw[<-ee];exact r
def LR {Pos:V->Prop}(C:ConeM a Pos)(ha:a≠0)(hp:∀P∈pts,Pos (P-A)\/cr a (P-A)=0)(hx:∃P∈pts,Pos (P-A)):
  (D8 a A pts 0 A).2∈pts/\Pos ((D8 a A pts 0 A).2-A)/\∀P∈pts,i8 a ((D8 a A pts 0 A).2-A) (P-A)<=0:=by
 have h:=rW C ha pts (λ_=>False) 0 A (.inl ⟨rfl,λ_ h=>h.elim⟩) (λ_ h=>h.elim) hp;rcases h with⟨h1,h2⟩|⟨h1,h2,h3,h4⟩
 ·obtain⟨P,hP,hq⟩:=hx;exact absurd (h2 P<|.inr hP) (C.ad1 ha hq)
 ·exact⟨by simpa using h1,h2,λP hP=>h4 P (.inr hP)⟩
def q9 (v:V):Nat:=aFY (aFY v.x.natAbs v.y.natAbs) v.z.natAbs
def cE (v:V)(g:Int):V:=⟨v.x/g,v.y/g,v.z/g⟩
def cZ (n:V):Prop:=q9 n=1
def pJ (k:Int)(v:V):q9 (k*v)=k.natAbs*q9 v:=by unfold q9;simp[Int.natAbs_mul,Nat.gcd_mul_left]
def IA (h:q9 v=0):v=0:=by unfold q9 at h;have h1:=Nat.gcd_eq_zero_iff.mp h;have h2:=Nat.gcd_eq_zero_iff.mp h1.1;exact ext (aEP.mp h2.1) (aEP.mp h2.2) (aEP.mp h1.2)
def KY (v:V):(q9 v:Int)∣v.x/\(q9 v:Int)∣v.y/\(q9 v:Int)∣v.z:=by
 unfold q9;refine⟨?_,?_,?_⟩
 ·exact aEQ.mpr (Nat.dvd_trans (aFo _ _)<|aFo _ _)
 ·exact aEQ.mpr (Nat.dvd_trans (aFo _ _)<|Nat.gcd_dvd_right _ _)
 ·exact aEQ.mpr (Nat.gcd_dvd_right _ _)
def fA (h:c≠0):0<(q9 c:Int)/\c=(q9 c:Int)*cE c (q9 c)/\cZ (cE c (q9 c)):=by
 have hg:q9 c≠0:=λz=>h (IA z);have hp:0<(q9 c:Int):=by lia
 obtain⟨d1,d2,d3⟩:=KY c;have e:c=(q9 c:Int)*cE c (q9 c):=by
  apply ext
  ·show _=_*(c.x/_);rw[aEp d1]
  ·show _=_*(c.y/_);rw[aEp d2]
  ·show _=_*(c.z/_);rw[aEp d3]
 refine⟨hp,e,?_⟩;have:=congrArg q9 e;rw[pJ]at this;simp only[Int.natAbs_natCast]at this;unfold cZ;have h2:q9 c*1=q9 c*q9 (cE c<|q9 c):=by lia
 exact(Nat.eq_of_mul_eq_mul_left (by lia) h2).symm
def cZ.ne (h:cZ n):n≠0:=λe=>by subst e;unfold cZ at h;exact absurd h (by decide)
def mJ {n m:V}{k l:Int}(hn:cZ n)(hm:cZ m)(hk:0<k)(hl:0<l)(e:k*n=l*m):n=m:=by
 have:=congrArg q9 e;rw[pJ,pJ,hn,hm]at this;have ekl:k=l:=by lia
 subst ekl;have h1:=congrArg V.x e;have h2:=congrArg V.y e;have h3:=congrArg V.z e;simp at h1 h2 h3;exact ext (aDz (by lia) h1) (aDz (by lia) h2) (aDz (by lia) h3)
def d4 (P Q R:V):V×Int:=let n:=cE (cr (Q-P)<|R-P) (q9<|cr (Q-P)<|R-P);(n,c8 n P)
structure IsFace (pts:List V)(n:V)(d:Int):Prop where
 prim:cZ n
 sup:∀X∈pts,c8 n X<=d
 three:∃A∈pts,∃B∈pts,∃C∈pts,c8 n A=d/\c8 n B=d/\c8 n C=d/\cr (B-A) (C-A)≠0
def J8 (hu:c8 n u=0)(hv:c8 n v=0):cr n (cr u v)=0:=by simp[c8]at hu hv;apply ext<;>simp<;>grind
def nB (hc:c≠0)(h1:cr n c=0)(h2:cr m c=0):cr n m=0:=by
 have s1:cr c n=0:=by have:=congrArg V.x h1;have:=congrArg V.y h1;have:=congrArg V.z h1;simp at*;apply ext<;>simp<;>grind
 have s2:cr c m=0:=by have:=congrArg V.x h2;have:=congrArg V.y h2;have:=congrArg V.z h2;simp at*;apply ext<;>simp<;>grind
 obtain⟨k,p,hk,e1⟩:=A3 hc s1;obtain⟨l,q,hl,e2⟩:=A3 hc s2;have e:(k*l)*cr n m=0:=by
  have:(k*l)*cr n m=cr (k*n) (l*m):=by apply ext<;>simp<;>grind
  rw[this,e1,e2];apply ext<;>simp<;>grind
 have hkl:k*l≠0:=λz=>by rcases aAu.mp z with q|q<;>lia
 have h1:=congrArg V.x e;have h2:=congrArg V.y e;have h3:=congrArg V.z e;simp only[MP,IZ,NZ,Y6,Z6,Z4]at h1 h2 h3;exact ext ((aAu.mp h1).resolve_left hkl) ((aAu.mp h2).resolve_left hkl) ((aAu.mp h3).resolve_left hkl)
def iN {pts:List V}{n m:V}{d e:Int}(hn:cZ n)(hm:cZ m)(sn:∀X∈pts,c8 n X<=d)(sm:∀X∈pts,c8 m X<=e){A B C Z:V}(hA:c8 n A=d)(hB:c8 n B=d)(hC:c8 n C=d)(hA':c8 m A=e)(hB':c8 m B=e)(hC':c8 m C=e)
  (hc:cr (B-A) (C-A)≠0) (hZ:Z∈pts) (hz:c8 n Z<d):n=m/\d=e:=by
 have n1:cr n (cr (B-A)<|C-A)=0:=J8 (by rw[d7];lia) (by rw[d7];lia);have m1:cr m (cr (B-A)<|C-A)=0:=J8 (by rw[d7];lia) (by rw[d7];lia);have p:=nB hc m1 n1;obtain⟨k,l,hk,e1⟩:=A3 hm.ne p;have hl:0<l:=by
  have q:=congrArg (λv=>c8 v (Z-A)) e1;rw[G6,G6]at q;have q1:c8 n (Z-A)<0:=by rw[d7];lia
  have q2:c8 m (Z-A)<=0:=by rw[d7];have:=sm Z hZ;lia
  have q3:k*c8 n (Z-A)<0:=aBj hk q1;by_cases z:0<l
  ·exact z
  ·exfalso;have:0<=l*c8 m (Z-A):=by
    have:=aBK (show 0<=-l by lia) (show 0<=-c8 m (Z-A)by lia)
    rwa [aDl]at this
   lia
 have e2:=mJ hn hm hk hl e1;subst e2;exact⟨rfl,by lia⟩
end G
namespace G
def b7 (A B:V)(pts:List V):V×Int:=d4 A B (D8 (B-A) A pts 0 A).2
def y6 (n:V)(d:Int)(pts:List V):List V:=pts.filter λX=>decide (c8 n X=d)
def d6:X∈y6 n d pts↔X∈pts/\c8 n X=d:=by simp[y6]
def bM (h:cr (Q-P) (R-P)≠0):∃g:Int,0<g/\cr (Q-P) (R-P)=g*(d4 P Q R).1/\cZ (d4 P Q R).1/\(d4 P Q R).2=c8 (d4 P Q R).1 P:=by obtain⟨h1,h2,h3⟩:=fA h;exact⟨_,h1,h2,h3,rfl⟩
def W6 {Pos:V->Prop}(C:ConeM (B-A) Pos)(hAB:B-A≠0)(hp:∀P∈pts,Pos (P-A)\/cr (B-A) (P-A)=0)(hx:∃P∈pts,Pos (P-A)):
  ∃(out:V) (g:Int),out∈pts/\Pos (out-A)/\0<g/\cr (B-A) (out-A)=g*(b7 A B pts).1/\cZ (b7 A B pts).1/\(b7 A B pts).2=c8 (b7 A B pts).1 A/\
   (∀P∈pts,c8 (b7 A B pts).1 P<=(b7 A B pts).2)/\c8 (b7 A B pts).1 B=(b7 A B pts).2/\c8 (b7 A B pts).1 out=(b7 A B pts).2/\
   (∀P∈pts,c8 (b7 A B pts).1 P=(b7 A B pts).2->i8 (B-A) (out-A) (P-A)=0):=by
 obtain⟨h1,h2,h3⟩:=LR C hAB hp hx;have hc:=C.ad1 hAB h2;obtain⟨g,g0,ge,gp,gd⟩:=bM hc;have key:∀w:V,g*c8 (b7 A B pts).1 w=i8 (B-A) ((D8 (B-A) A pts 0 A).2-A) w:=λw=>by have:c8 (cr (B-A)<|(D8 (B-A) A pts 0 A).2-A) w=i8 (B-A) ((D8 (B-A) A pts 0 A).2-A) w:=S9 _ _ _;rw[<-this,ge,G6];rfl
 have eA:(b7 A B pts).2=c8 (b7 A B pts).1 A:=gd;have z0:∀w:V,i8 (B-A) ((D8 (B-A) A pts 0 A).2-A) w=0->c8 (b7 A B pts).1 w=0:=λw hw=>by have:=key w;rw[hw]at this;exact(aAu.mp this).resolve_left (by lia)
 refine⟨_,g,h1,h2,g0,ge,gp,gd,λP hP=>?_,?_,?_,λP hP e=>?_⟩
 ·have h:=h3 P hP;rw[<-key]at h;have:c8 (b7 A B pts).1 (P-A)<=0:=by
   by_cases z:c8 (b7 A B pts).1 (P-A)<=0
   ·exact z
   ·have:=aAU g0 (show 0<c8 (b7 A B pts).1 (P-A)by lia)
    lia
  rw[d7]at this
  lia
 ·have:=z0 (B-A) (by simp[i8,c8];grind);rw[d7]at this;lia
 ·have:=z0 ((D8 (B-A) A pts 0 A).2-A) (B9 _ _);rw[d7]at this;lia
 ·rw[<-key,d7];have:c8 (b7 A B pts).1 P-c8 (b7 A B pts).1 A=0:=by lia
  rw[this];simp
def yT {Pos:V->Prop}(C:ConeM a Pos)(ha:a≠0)(ho:Pos o)(hw:Pos w)(h:i8 a o w=0):0<c8 (cr a o) (cr a w):=by
 by_cases z:0<c8 (cr a o) (cr a w)
 ·exact z
 ·exfalso;have af:=C.ad1 ha ho;have rf:=y9 af;have h1:Pos (c8 (cr a o) (cr a o)*w+(-c8 (cr a o) (cr a w))*o):=C.comb rf (by lia) hw ho;refine C.ad1 ha h1 ?_;have hx:cr (cr a o) (cr a w)=i8 a o w*a:=by simp[i8,c8];apply ext<;>simp<;>grind
  rw[h,v9]at hx;have e1:cr a (c8 (cr a o) (cr a o)*w+(-c8 (cr a o) (cr a w))*o)=c8 (cr a o) (cr a o)*cr a w+(-c8 (cr a o) (cr a w))*cr a o:=by apply ext<;>simp<;>grind
  rw[e1];have e2:∀p q:V,c8 p p*q+(-c8 p q)*p=cr p (cr q p):=λp q=>by simp[c8];apply ext<;>simp<;>grind
  rw[e2];have e3:cr (cr a w) (cr a o)=0:=by have q1:=congrArg V.x hx;have q2:=congrArg V.y hx;have q3:=congrArg V.z hx;simp only[PM,PU,SF,Y6,Z6,Z4]at q1 q2 q3;apply ext<;>simp only[PM,PU,SF,Y6,Z6,Z4]<;>grind
  rw[e3];apply ext<;>simp
def jx.symm (h:jx P Q X):jx Q P X:=⟨λa=>⟨(h.2 a).2,(h.2 a).1⟩,λa=>⟨(h.1 a).2,(h.1 a).1⟩⟩
def qO (hn:n≠0)(hab:c8 n (a-b)=0):ConeM (a-b) (λw=>c8 n w<0\/(c8 n w=0/\0<i8 n (b-a) w))where
 add:=λ{u v} h1 h2=>by
  rw[aZ,aL]
  lia
 mul:=λ{k u} hk h=>by
  rw[u7,xZ];rcases h with h|⟨h,h'⟩
  ·exact .inl (aBj hk h)
  ·exact .inr ⟨by rw[h];simp,aAU hk h'⟩
 irr:=by rw[L9,eG];lia
 inv:=λ{u} k h=>by
  have e:i8 n (b-a) (a-b)=0:=by have:a-b=-(b-a):=(t4 _ _).symm;rw[this,J4,B9];rfl
  rw[aZ,aL,u7,xZ,hab,e];simpa using h
def U8 (hn:n≠0)(hu:c8 n u=0)(hw:c8 n w=0)(h:i8 n u w=0):cr u w=0:=by
 have h1:cr n (cr u w)=0:=J8 hu hw;obtain⟨k,m,hk,e⟩:=A3 hn h1;have q:=congrArg (c8 n) e;rw[u7,u7]at q;have:c8 n (cr u w)=0:=h;rw[this]at q;have hm:m=0:=by
  have:=y9 hn;have q':m*c8 n n=0:=by lia
  rcases aAu.mp q' with z|z
  ·exact z
  ·lia
 rw[hm,v9]at e;have q1:=congrArg V.x e;have q2:=congrArg V.y e;have q3:=congrArg V.z e;simp only[MP,IZ,NZ,Y6,Z6,Z4]at q1 q2 q3;exact ext ((aAu.mp q1).resolve_left (by lia)) ((aAu.mp q2).resolve_left (by lia)) ((aAu.mp q3).resolve_left (by lia))
def xV (h:cr u w=0):cr (-u) w=0:=by have q1:=congrArg V.x h;have q2:=congrArg V.y h;have q3:=congrArg V.z h;simp only[PM,PU,SF,Y6,Z6,Z4]at q1 q2 q3;apply ext<;>simp<;>grind
def rO (hn:n≠0)(hs:∀X∈pts,c8 n X<=d)(hz:∃Z∈pts,c8 n Z<d)(h:EdgeOf n (λX=>X∈y6 n d pts) a b):
  IsFace pts (b7 b a pts).1 (b7 b a pts).2/\EdgeOf (b7 b a pts).1 (λX=>X∈y6 (b7 b a pts).1 (b7 b a pts).2 pts) b a:=by
 obtain⟨pa,da⟩:=d6.mp h.p;obtain⟨pb,db⟩:=d6.mp h.q;have hab:c8 n (a-b)=0:=by rw[d7];lia
 have hba:c8 n (b-a)=0:=by rw[d7];lia
 have C:=qO (n:=n) hn hab;have af:a-b≠0:=λe=>h.ne (by have q1:=congrArg V.x e;have q2:=congrArg V.y e;have q3:=congrArg V.z e;simp at q1 q2 q3;exact ext (by lia) (by lia) (by lia))
 have hp:∀P∈pts,(c8 n (P-b)<0\/(c8 n (P-b)=0/\0<i8 n (b-a) (P-b)))\/cr (a-b) (P-b)=0:=λP hP=>by
  have h1:=hs P hP;by_cases z:c8 n P<d
  ·exact .inl (.inl (by rw[d7];lia))
  ·have e:c8 n P=d:=by lia
   have tP:P∈y6 n d pts:=d6.mpr ⟨hP,e⟩;have l:=h.left P tP;rw[oN]at l;have e0:c8 n (P-b)=0:=by rw[d7];lia
   by_cases y:0<i8 n (b-a) (P-b)
   ·exact .inl (.inr ⟨e0,y⟩)
   ·have y0:i8 n (b-a) (P-b)=0:=by lia
    have:=xV (U8 hn hba e0 y0);rw[t4]at this;exact .inr this
 obtain⟨Z,hZ,hz⟩:=hz;obtain⟨out,g,o1,o2,g0,ge,gp,gd,sup,sB,sO,sP⟩:=W6 C af hp ⟨Z,hZ,.inl (by rw[d7];lia)⟩;refine⟨⟨gp,sup,b,pb,a,pa,out,o1,gd.symm,sB,sO,C.ad1 af o2⟩,⟨d6.mpr ⟨pb,gd.symm⟩,d6.mpr ⟨pa,sB⟩,λe=>h.ne e.symm,λX hX=>?_,λX hX e=>?_⟩⟩
 ·obtain⟨pX,eX⟩:=d6.mp hX;have z:=sP X pX eX;have e1:g*i8 (b7 b a pts).1 (a-b) (X-b)=c8 (cr (a-b)<|out-b) (cr (a-b)<|X-b):=by rw[ge];unfold i8;rw[G6]
  have:0<=c8 (cr (a-b)<|out-b) (cr (a-b)<|X-b):=by
   rcases hp X pX with q|q
   ·exact aAW (yT C af o2 q z)
   ·rw[q,L9];exact aCq _
  rw[<-e1]at this;by_cases zz:0<=i8 (b7 b a pts).1 (a-b) (X-b)
  ·exact zz
  ·have:=aBj g0 (show i8 (b7 b a pts).1 (a-b) (X-b)<0 by lia)
   lia
 ·obtain⟨pX,eX⟩:=d6.mp hX;have z:=sP X pX eX;have e1:g*i8 (b7 b a pts).1 (a-b) (X-b)=c8 (cr (a-b)<|out-b) (cr (a-b)<|X-b):=by rw[ge];unfold i8;rw[G6]
  rw[e]at e1;rcases hp X pX with q|q
  ·have:=yT C af o2 q z;rw[<-e1]at this;simp at this
  ·
   have dX:c8 n X=d:=by obtain⟨k,m,hk,e⟩:=A3 af q;have q:=congrArg (c8 n) e;rw[u7,u7,hab]at q;have:c8 n (X-b)=0:=(aAu.mp (show k*c8 n (X-b)=0 by lia)).resolve_left (by lia);rw[d7]at this;lia
   refine(h.btw X (d6.mpr ⟨pX,dX⟩) ?_).symm;rw[oN];have:cr (b-a) (X-b)=0:=by
    have:=xV q
    rwa [t4]at this
   unfold i8;rw[this,L9]
end G
namespace G
def A5:List V->Option V
 |[]=>none
 |w::ws=>if w≠0 then some w else A5 ws
def u6 (h:A5 ws=some w):w∈ws/\w≠0:=by
 induction ws with
 |nil=>cases h
 |cons v ws ih=>
  unfold A5 at h;split at h
  ·rename_i hv;cases h;exact⟨by simp,hv⟩
  ·have:=ih h;exact⟨aAe _ this.1,this.2⟩
def M7 (h:A5 ws=none):∀w∈ws,w=0:=by
 induction ws with
 |nil=>intro w hw;cases hw
 |cons v ws ih=>
  unfold A5 at h;split at h
  ·cases h
  ·rename_i hv;intro w hw;rcases aAd.mp hw with e|e
   ·subst e;exact Decidable.not_not.mp hv
   ·exact ih h w e
def T5:List V->Nat
 |[]=>0
 |p::ps=>
  let ways:=(p::ps).map (· -p)
  match A5 ways with
  |none=>0
  |some along=>match A5 (ways.map<|cr along)with
   |none=>1
   |some up=>if ways.any (λw=>decide (c8 up w≠0))then 3 else 2
def l4 (pts:List V):Prop:=∃A∈pts,∃B∈pts,∃C∈pts,∃D∈pts,i8 (B-A) (C-A) (D-A)≠0
def GO (h:T5 pts=3):l4 pts:=by
 match pts,h with
 |p::ps,h=>
  unfold T5 at h;dsimp only at h;split at h
  ·cases h
  ·rename_i along h1;split at h
   ·cases h
   ·rename_i up h2;split at h
    ·rename_i h3;obtain⟨m1,n1⟩:=u6 h1;obtain⟨m2,n2⟩:=u6 h2;obtain⟨w2,m2,e2⟩:=aAo.mp m2;rw[aEk]at h3;obtain⟨w3,m3,e3⟩:=h3;obtain⟨B,hB,eB⟩:=aAo.mp m1;obtain⟨C,hC,eC⟩:=aAo.mp m2;obtain⟨D,hD,eD⟩:=aAo.mp m3;refine⟨p,by simp,B,hB,C,hC,D,hD,?_⟩;rw[eB,eC,eD];have e3':c8 up w3≠0:=by simpa using e3
     rw[<-e2,S9]at e3';exact e3'
    ·cases h
def MI (h:T5 pts≠3):¬l4 pts:=by
 rintro⟨A,hA,B,hB,C,hC,D,hD,hd⟩;match pts,h,hA,hB,hC,hD with
 |p::ps,h,hA,hB,hC,hD=>
  unfold T5 at h;dsimp only at h;have mm:∀X∈p::ps,X-p∈(p::ps).map (· -p):=λX hX=>aAo.mpr ⟨X,hX,rfl⟩;have fin:∀n:V,n≠0->(∀X∈p::ps,c8 n (X-p)=0)->False:=λn hn hz=>by
   have q:∀X∈p::ps,c8 n (X-A)=0:=λX hX=>by have h1:=hz X hX;have h2:=hz A hA;rw[d7]at*;lia
   exact hd (y3 hn (q B hB) (q C hC)<|q D hD)
  split at h
  ·rename_i h1;have z:=M7 h1;refine fin ⟨1,0,0⟩ (λe=>by have:=congrArg V.x e;simp at this) λX hX=>?_;rw[z _ (mm X hX)];exact L9 _
  ·rename_i along h1;obtain⟨m1,n1⟩:=u6 h1;split at h
   ·rename_i h2;have z:=M7 h2;have z':∀X∈p::ps,cr along (X-p)=0:=λX hX=>z _ (aAo.mpr ⟨_,mm X hX,rfl⟩);obtain⟨u,hu,ba⟩:∃u:V,cr along u≠0/\True:=by
     rcases iM n1 with q|q|q
     ·exact⟨⟨0,1,0⟩,λe=>q (by have:=congrArg V.z e;simpa using this),trivial⟩
     ·exact⟨⟨1,0,0⟩,λe=>q (by have:=congrArg V.z e;simpa using this),trivial⟩
     ·exact⟨⟨0,1,0⟩,λe=>q (by have:=congrArg V.x e;simpa using this),trivial⟩
    refine fin (cr along u) hu λX hX=>?_;rw[S9,iW (z' X hX)]
   ·rename_i up h2;obtain⟨m2,n2⟩:=u6 h2;split at h
    ·exact h rfl
    ·rename_i h3;refine fin up n2 λX hX=>?_;by_cases z:c8 up (X-p)=0
     ·exact z
     ·exact absurd (aEk.mpr ⟨X-p,mm X hX,by simpa using z⟩) h3
def NW (h:T5 pts<2):∀X∈pts,∀Y∈pts,∀Z∈pts,cr (Y-X) (Z-X)=0:=by
 match pts,h with
 |[],_=>intro X hX;cases hX
 |p::ps,h=>
  unfold T5 at h;dsimp only at h;have mm:∀X∈p::ps,X-p∈(p::ps).map (· -p):=λX hX=>aAo.mpr ⟨X,hX,rfl⟩;intro X hX Y hY Z hZ;split at h
  ·rename_i h1;have z:=M7 h1;have e:∀W∈p::ps,W=p:=λW hW=>by have:=z _ (mm W hW);have q1:=congrArg V.x this;have q2:=congrArg V.y this;have q3:=congrArg V.z this;simp at q1 q2 q3;exact ext (by lia) (by lia) (by lia)
   rw[e X hX,e Y hY,x8];apply ext<;>simp
  ·rename_i along h1;obtain⟨m1,n1⟩:=u6 h1;split at h
   ·rename_i h2;have z:=M7 h2;have z':∀X∈p::ps,cr along (X-p)=0:=λX hX=>z _ (aAo.mpr ⟨_,mm X hX,rfl⟩);have k:∀U∈p::ps,∀W∈p::ps,cr (U-W) along=0:=λU hU W hW=>by have q1:=z' U hU;have q2:=z' W hW;have a1:=congrArg V.x q1;have a2:=congrArg V.y q1;have a3:=congrArg V.z q1;have b1:=congrArg V.x q2;have b2:=congrArg V.y q2;have b3:=congrArg V.z q2;simp at a1 a2 a3 b1 b2 b3;apply ext<;>simp<;>grind
    exact nB n1 (k Y hY X hX) (k Z hZ X hX)
   ·split at h<;>lia
def FS (h:2<=T5 pts):∃X∈pts,∃Y∈pts,∃Z∈pts,cr (Y-X) (Z-X)≠0:=by
 match pts,h with
 |[],h=>exact absurd h (by simp[T5])
 |p::ps,h=>
  unfold T5 at h;dsimp only at h;split at h
  ·lia
  ·rename_i along h1;obtain⟨m1,n1⟩:=u6 h1;split at h
   ·lia
   ·rename_i up h2;obtain⟨m2,n2⟩:=u6 h2;obtain⟨w2,m2,e2⟩:=aAo.mp m2;obtain⟨B,hB,eB⟩:=aAo.mp m1;obtain⟨C,hC,eC⟩:=aAo.mp m2;exact⟨p,by simp,B,hB,C,hC,by rw[eB,eC,e2];exact n2⟩
def l4.off (h:l4 pts)(hn:n≠0):∃Z∈pts,c8 n Z≠d:=by
 obtain⟨A,hA,B,hB,C,hC,D,hD,hd⟩:=h;by_cases a:c8 n A=d
 ·by_cases b:c8 n B=d
  ·by_cases c:c8 n C=d
   ·by_cases e:c8 n D=d
    ·exact absurd (y3 hn (by rw[d7];lia) (by rw[d7];lia) (by rw[d7];lia)) hd
    ·exact⟨D,hD,e⟩
   ·exact⟨C,hC,c⟩
  ·exact⟨B,hB,b⟩
 ·exact⟨A,hA,a⟩
def l4.below (h:l4 pts)(hn:n≠0)(hs:∀X∈pts,c8 n X<=d):∃Z∈pts,c8 n Z<d:=by obtain⟨Z,hZ,e⟩:=h.off (d:=d) hn;exact⟨Z,hZ,by have:=hs Z hZ;lia⟩
def kk:V:=⟨0,0,1⟩
def e9 (m:V)(pts:List V):V×V:=
 let u:=b7 m (m+kk) pts
 let touched:=y6 u.1 u.2 pts
 if T5 touched=2 then(m,m+kk)else(touched.getD 0 0,touched.getD 1 0)
def CJ:ConeM kk (λw=>0<w.x\/(w.x=0/\0<w.y))where
 add:=λ{u v} h1 h2=>by simp;lia
 mul:=λ{k u} hk h=>by
  simp;rcases h with h|⟨h,h'⟩
  ·exact .inl (aAU hk h)
  ·exact .inr ⟨by rw[h];simp,aAU hk h'⟩
 irr:=by simp
 inv:=λ{u} k h=>by simpa[kk]using h
def AH (h:c8 n a=0):ConeM a (λw=>c8 n w<0)where
 add:=λ{u v} h1 h2=>by rw[aZ];lia
 mul:=λ{k u} hk h=>by rw[u7];exact aBj hk h
 irr:=by rw[L9];lia
 inv:=λ{u} k h'=>by rw[aZ,u7,h];simpa using h'
def K7 (m k:V):m+k-m=k:=ext (by simp;lia) (by simp;lia) (by simp;lia)
def gA (hs:l4 pts)(ho:pts.Pairwise (λa b=>i7 (b-a)))(hm:m∈pts)(hl:∀X∈pts,X=m\/i7 (X-m)):
  IsFace pts (b7 (e9 m pts).1 (e9 m pts).2 pts).1 (b7 (e9 m pts).1 (e9 m pts).2 pts).2:=by
 have C:ConeM (m+kk-m) (λw=>0<w.x\/(w.x=0/\0<w.y)):=by rw[K7];exact CJ
 have af:m+kk-m≠0:=by rw[K7];intro e;have:=congrArg V.z e;simp[kk]at this
 have hp:∀P∈pts,(0<(P-m).x\/((P-m).x=0/\0<(P-m).y))\/cr (m+kk-m) (P-m)=0:=λP hP=>by
  rw[K7];rcases hl P hP with e|e
  ·right;subst e;rw[x8];apply ext<;>simp
  ·unfold i7 at e;rcases e with e|⟨e1,e|⟨e2,e3⟩⟩
   ·exact .inl (.inl e)
   ·exact .inl (.inr ⟨e1,e⟩)
   ·right;apply ext
    ·simp[kk];simp at e2;lia
    ·simp[kk];simp at e1;lia
    ·simp[kk]
 have hx:∃P∈pts,0<(P-m).x\/((P-m).x=0/\0<(P-m).y):=by
  by_cases z:∃P∈pts,0<(P-m).x\/((P-m).x=0/\0<(P-m).y)
  ·exact z
  ·exfalso;obtain⟨Z,hZ,e⟩:=hs.off (n:=⟨1,0,0⟩) (d:=m.x) (λe=>by have:=congrArg V.x e;simp at this);have w:=(hp Z hZ).resolve_left λq=>z ⟨Z,hZ,q⟩;rw[K7]at w;have:=congrArg V.y w;simp[kk]at this;simp[c8]at e
   lia
 obtain⟨out,g,o1,o2,g0,ge,gp,gd,sup,sB,sO,sP⟩:=W6 C af hp hx;have tm:m∈y6 (b7 m (m+kk) pts).1 (b7 m (m+kk) pts).2 pts:=d6.mpr ⟨hm,gd.symm⟩;have to:out∈y6 (b7 m (m+kk) pts).1 (b7 m (m+kk) pts).2 pts:=d6.mpr ⟨o1,sO⟩;have hmo:m≠out:=λe=>by subst e;rw[x8]at o2;simp at o2
 by_cases h2:T5 (y6 (b7 m (m+kk) pts).1 (b7 m (m+kk) pts).2 pts)=2
 ·have e:e9 m pts=(m,m+kk):=by unfold e9;simp only[h2,if_true]
  rw[e];obtain⟨X,hX,Y,hY,Z,hZ,hc⟩:=FS (pts:=y6 (b7 m (m+kk) pts).1 (b7 m (m+kk) pts).2 pts) (by lia);have hX:=d6.mp hX;have hY:=d6.mp hY;have hZ:=d6.mp hZ;exact⟨gp,sup,X,hX.1,Y,hY.1,Z,hZ.1,hX.2,hY.2,hZ.2,hc⟩
 ·
  have h1:T5 (y6 (b7 m (m+kk) pts).1 (b7 m (m+kk) pts).2 pts)≠3:=λz=>by obtain⟨A,hA,B,hB,C,hC,D,hD,hd⟩:=GO z;have hA:=d6.mp hA;have hB:=d6.mp hB;have hC:=d6.mp hC;have hD:=d6.mp hD;exact hd (y3 gp.ne (by rw[d7];lia) (by rw[d7];lia) (by rw[d7];lia))
  have ar:T5 (y6 (b7 m (m+kk) pts).1 (b7 m (m+kk) pts).2 pts)<2:=by
   have:T5 (y6 (b7 m (m+kk) pts).1 (b7 m (m+kk) pts).2 pts)<=3:=by
    generalize y6 (b7 m (m+kk) pts).1 (b7 m (m+kk) pts).2 pts=t;unfold T5;split
    ·lia
    ·dsimp only;split
     ·lia
     ·split
      ·lia
      ·split<;>lia
   lia
  have line:=NW ar;have e:e9 m pts=((y6 (b7 m (m+kk) pts).1 (b7 m (m+kk) pts).2 pts).getD 0 0,(y6 (b7 m (m+kk) pts).1 (b7 m (m+kk) pts).2 pts).getD 1 0):=by unfold e9;simp only[h2,if_false]
  rw[e];have ord:(y6 (b7 m (m+kk) pts).1 (b7 m (m+kk) pts).2 pts).Pairwise (λa b=>i7 (b-a)):=aFN _ ho;have onm:∀X,X∈y6 (b7 m (m+kk) pts).1 (b7 m (m+kk) pts).2 pts↔X∈pts/\c8 (b7 m (m+kk) pts).1 X=(b7 m (m+kk) pts).2:=λX=>d6;generalize y6 (b7 m (m+kk) pts).1 (b7 m (m+kk) pts).2 pts=t at*
  match t,tm,to with
  |[],tm,_=>cases tm
  |[x],tm,to=>simp at tm to;exact absurd (tm.trans to.symm) hmo
  |x::y::r,tm,to=>
   dsimp only[List.getD_cons_zero,List.getD_cons_succ];have hxy:i7 (y-x):=(aAA.mp ord).1 y (by simp);have ox:=(onm x).mp (by simp);have oy:=(onm y).mp (by simp);have zu:y-x≠0:=λz=>by rw[z]at hxy;exact y8.irr hxy
   have na:c8 (b7 m (m+kk) pts).1 (y-x)=0:=by rw[d7];lia
   have C2:=AH na;obtain⟨Z,hZ,hz⟩:=hs.below gp.ne sup;obtain⟨out2,g2,p1,p2,p0,pe,pp,pd,sup2,sB2,sO2,sP2⟩:=W6 C2 zu (pts:=pts) (λP hP=>by
    have:=sup P hP;by_cases q:c8 (b7 m (m+kk) pts).1 P<(b7 m (m+kk) pts).2
    ·exact .inl (by rw[d7];lia)
    ·exact .inr (line x (by simp) y (by simp) P ((onm P).mpr ⟨hP,by lia⟩))) ⟨Z,hZ,by rw[d7];lia⟩
   exact⟨pp,sup2,x,ox.1,y,oy.1,out2,p1,pd.symm,sB2,sO2,C2.ad1 zu p2⟩
end G
namespace DL
open PySem PySem.Spec L2
open PyProof.Rows hiding St
theorem T9:∀{ns:List Int} {us:List Value},n8 (ns.map V.int) us->IntsAre us ns
 |[],_,.nil=>.nil
 |n::ns,_,.cons r t=>by obtain⟨tk,rfl⟩:=r;exact .cons n tk (T9 t)
section
def iS:List D->Option (List Int)
 |[]=>some []
 |.int i::r=>(iS r).map (i::·)
 |_=>none
theorem jN:∀{ds:List D} {ns:List Int},iS ds=some ns->ds=ns.map D.int
 |[],ns,h=>by cases h;rfl
 |.int i::r,ns,h=>by simp only[iS,aDc]at h;obtain⟨m,h1,rfl⟩:=h;rw[jN h1];rfl
 |.non::_,_,h=>by cases h
 |.bl _::_,_,h=>by cases h
 |.str _::_,_,h=>by cases h
 |.tup _::_,_,h=>by cases h
 |.lst _::_,_,h=>by cases h
 |.dct::_,_,h=>by cases h
theorem cM:∀ns:List Int,iS (ns.map D.int)=some ns
 |[]=>rfl
 |n::ns=>by simp[iS,cM ns]
theorem kD {K:PySem.W.Frag}{H:Hp}{O:Addr->Prop}:∀{vs:List V} {ns:List Int},Reps K H O vs (ns.map D.int)->vs=ns.map V.int
 |[],[],_=>rfl
 |v::vs,n::ns,.cons h t=>by cases h;rw[kD t];rfl
variable [Tabs]in
end
theorem sH (Iv:List D->Ev->Prop)(ht:∀d ds ρ,Iv (d::ds) ρ->∃ρ2,N7 G F d ρ=.ok (.nx ρ2)/\Iv ds ρ2):∀{ds:List D} {ρ:Ev},Iv ds ρ->∃ao,M3 G F ds ρ=.ok (.nx ao)/\Iv [] ao
 |[],ρ,h=>⟨ρ,rfl,h⟩
 |d::ds,ρ,h=>by
  obtain⟨ρ2,e,h2⟩:=ht d ds ρ h;obtain⟨ao,e',h'⟩:=sH Iv ht h2;unfold N7 at e;cases e1:G d ρ with
  |ok ρ1=>rw[e1]at e;exact⟨ao,by rw[M3,e1];dsimp only at e⊢;rw[e];exact e',h'⟩
  |ex x=>rw[e1]at e;cases e
  |bad=>rw[e1]at e;cases e
def cK (Iv:List D->Ev->Prop)(ht:∀d ds ρ,Iv (d::ds) ρ->∃ρ2,N7 G F d ρ=.ok (.nx ρ2)/\Iv ds ρ2)(h0:Iv ds ρ)(h2:∀ao,Iv [] ao->L4 (F2 ao)=.ok d):
  L4 (C3 (M3 G F ds ρ) F2)=.ok d:=by
 obtain⟨ao,e,h⟩:=sH Iv ht h0;rw[e];exact h2 ao h
def nN {Post:Ev->Prop}(Iv:Nat->Ev->Prop)(ht:∀n ρ,Iv (n+1) ρ->c ρ=.ok false\/(c ρ=.ok true/\∃ρ2,F ρ=.ok (.nx ρ2)/\Iv n ρ2))(h00:∀ρ,¬Iv 0 ρ)(h0:Iv n ρ)(hp:∀m ao,Iv m ao->c ao=.ok false->Post ao):∃ρ2,R1 c F n ρ=.ok (.nx ρ2)/\Post ρ2:=by obtain⟨m,ao,e,h,hc⟩:=gH Iv ht h00 n ρ h0;exact⟨ao,e,hp m ao h hc⟩
end DL
namespace M
open PySem L2 DL
abbrev qP (n:G.V)(d:Int):D:=.tup [.int n.x,.int n.y,.int n.z,.int d]
def B8:List D->R D
 |[.tup [.int a,.int b,.int c]]=>.ok (.int (G.q9 ⟨a,b,c⟩))
 |_=>.bad
def zU (v:G.V):B8 [vd v]=.ok (.int (G.q9 v)):=rfl
def Sz3 (P Q R:G.V):Prop:=Sz 1000 P/\Sz 1000 Q/\Sz 1000 R
open Classical in
def R7:List D->R D:=v1 λa b c=>v1 λd e f=>v1 λg h i=>sK (
 if Sz3 ⟨a,b,c⟩ ⟨d,e,f⟩ ⟨g,h,i⟩/\G.cr ((⟨d,e,f⟩:G.V)-⟨a,b,c⟩) ((⟨g,h,i⟩:G.V)-⟨a,b,c⟩)≠0 then .ok (qP (G.d4 ⟨a,b,c⟩ ⟨d,e,f⟩ ⟨g,h,i⟩).1 (G.d4 ⟨a,b,c⟩ ⟨d,e,f⟩ ⟨g,h,i⟩).2)else .bad)
def NO {P Q R:G.V}(h:Sz3 P Q R)(hc:G.cr (Q-P) (R-P)≠0):R7 [vd P,vd Q,vd R]=.ok (qP (G.d4 P Q R).1 (G.d4 P Q R).2):=if_pos ⟨h,hc⟩
def rB (h:Sz n v):bits (G.q9 v:Nat)<=n:=by
 have e:((G.q9 v:Nat):Int)=aGq (aGq v.x v.y:Nat) v.z:=by simp[G.q9,aGq]
 rw[e];exact yQ (yQ h.1 h.2.1) h.2.2
def dI {a g:Int}(h:0<g):a.fdiv g=a/g:=Int.fdiv_eq_ediv_of_nonneg a (aAW h)
end M
namespace ST
open PySem PySem.SetTable
def GF (xs:Array Nat):Prop:=∀(i k:Nat) (hi:i<xs.size) (hk:k<xs.size),i<k->xs[i]<xs[k]
theorem uW (xs:Array Nat)(j:Nat)(ha:GF xs):∀(fuel lo hi:Nat),lo<=hi->hi<=xs.size->hi-lo<=fuel->(∀i (h:i<xs.size),i<lo->xs[i]<j)->(∀i (h:i<xs.size),hi<=i->j<=xs[i])->
  below.go xs j fuel lo hi<=xs.size/\(∀i (h:i<xs.size),i<below.go xs j fuel lo hi->xs[i]<j)/\(∀i (h:i<xs.size),below.go xs j fuel lo hi<=i->j<=xs[i])
 |0,lo,hi,h1,h2,h3,h4,h5=>by
  have:lo=hi:=by lia
  subst this;unfold below.go;exact⟨h2,h4,h5⟩
 |fuel+1,lo,hi,h1,h2,h3,h4,h5=>by
  unfold below.go;by_cases ar:lo<hi
  ·rw[if_pos ar];have hm:(lo+hi)/2<xs.size:=by lia
   have e:xs.getD ((lo+hi)/2) j=xs[(lo+hi)/2]:=by simp[aFd,hm]
   dsimp only;rw[e];by_cases hc:xs[(lo+hi)/2]<j
   ·rw[if_pos hc];refine uW xs j ha fuel _ _ (by lia) h2 (by lia) (λi h fo=>?_) h5;by_cases q:i=(lo+hi)/2
    ·subst q;exact hc
    ·exact aGt (ha i _ h hm (by lia)) hc
   ·rw[if_neg hc];refine uW xs j ha fuel _ _ (by lia) (by lia) (by lia) h4 (λi h fo=>?_);by_cases q:i=(lo+hi)/2
    ·subst q;lia
    ·have:=ha _ i hm h (by lia);lia
  ·rw[if_neg ar];have:lo=hi:=by lia
   subst this;exact⟨h2,h4,h5⟩
def bJ (ha:GF xs)(j:Nat):below xs j<=xs.size/\(∀i (h:i<xs.size),i<below xs j->xs[i]<j)/\(∀i (h:i<xs.size),below xs j<=i->j<=xs[i]):=
 uW xs j ha xs.size 0 xs.size (aBc _) (aAh _) (by lia) (λi h hi=>by lia) (λi h hi=>by lia)
def MJ (ha:GF xs)(h:xs[i]?=some j):below xs j=i:=by
 obtain⟨hi,e⟩:=aCd.mp h;obtain⟨b1,b2,b3⟩:=bJ ha j;rcases Nat.lt_trichotomy (below xs j) i with q|q|q
 ·have hb:below xs j<xs.size:=by lia
  have h1:=b3 _ hb (aAh _);have h2:=ha _ _ hb hi q
  lia
 ·exact q
 ·have:=b2 i hi q;lia
structure Tab (t:SetTable):Prop where
 asc:GF t.place
 le:∀j∈t.place.toList,j<=t.mask
 nod:t.dummies=#[]
def K8 (T:Tab t)(h:t.place[i]?=some j):t.slot j=.live i:=by unfold slot;rw[MJ T.asc h];dsimp only;rw[h];simp
def AE (T:Tab t)(h:j∉t.place.toList):t.slot j=.empty:=by
 unfold slot;have h1:¬(t.place[below t.place j]?==some j)=true:=λz=>h (by have:=beq_iff_eq.mp z;obtain⟨hi,e⟩:=aCd.mp this;rw[<-e];simp)
 dsimp only;rw[if_neg h1,T.nod];rw[if_neg (by unfold has;simp)]
def BH (T:Tab t)(j:Nat):(t.slot j=.empty/\j∉t.place.toList)\/∃i,t.slot j=.live i/\t.place[i]?=some j:=by
 by_cases h:j∈t.place.toList
 ·obtain⟨i,hi,e⟩:=aBd h;have:t.place[i]?=some j:=by rw[<-aAB,aAg hi,e]
  exact .inr ⟨i,K8 T this,this⟩
 ·exact .inl ⟨AE T h,h⟩
def OR (mask:Nat)(p:Probe):Probe:=if p.more>0 then{p with j:=p.j+1,more:=p.more-1}else{p with j:=(leap mask p.i p.perturb).1,more:=runEnd mask (leap mask p.i p.perturb).1-(leap mask p.i p.perturb).1,i:=(leap mask p.i p.perturb).1,perturb:=(leap mask p.i p.perturb).2}
def nW (t:SetTable)(p:Probe):t.advance p=OR t.mask p:=rfl
def start (mask:Nat)(h:Int):Probe:={j:=bits h%(mask+1),more:=runEnd mask (bits h%(mask+1))-bits h%(mask+1),i:=bits h%(mask+1),perturb:=bits h,dummy:=none}
def o5 (mask:Nat)(h:Int):Nat->Probe
 |0=>start mask h
 |n+1=>OR mask (o5 mask h n)
theorem pD (mask:Nat)(h:Int):∀n,(o5 mask h n).dummy=none
 |0=>rfl
 |n+1=>by have:=pD mask h n;show(OR mask _).dummy=none;unfold OR;split<;>exact this
def C6 (mask:Nat)(h:Int):Nat->Nat×Nat
 |0=>(bits h%(mask+1),bits h)
 |k+1=>leap mask (C6 mask h k).1 (C6 mask h k).2
def len (mask i:Nat):Nat:=runEnd mask i-i
def WH (mask i:Nat):len mask i<=9:=by unfold len runEnd;split<;>lia
def off (mask:Nat)(h:Int):Nat->Nat
 |0=>0
 |k+1=>off mask h k+len mask (C6 mask h k).1+1
theorem NQ (mask:Nat)(h:Int):∀k,off mask h k<=10*k
 |0=>aAh _
 |k+1=>by have:=NQ mask h k;have:=WH mask (C6 mask h k).1;show off mask h k+_+1<=_;lia
theorem U9 (mask:Nat)(h:Int):∀k r,r<=len mask (C6 mask h k).1->
  o5 mask h (off mask h k+r)={j:=(C6 mask h k).1+r,more:=len mask (C6 mask h k).1-r,i:=(C6 mask h k).1,perturb:=(C6 mask h k).2,dummy:=none}
 |0,0,_=>rfl
 |0,r+1,hr=>by
  have ih:=U9 mask h 0 r (by lia);have e:off mask h 0+(r+1)=(off mask h 0+r)+1:=by lia
  rw[e,o5,ih];unfold OR;rw[if_pos (show len mask (C6 mask h 0).1-r>0 by lia)];simp
  lia
 |k+1,0,_=>by have ih:=U9 mask h k (len mask (C6 mask h k).1) (aAh _);have e:off mask h (k+1)+0=(off mask h k+len mask (C6 mask h k).1)+1:=rfl;rw[e,o5,ih];unfold OR;rw[if_neg (by simp)];simp[C6,len]
 |k+1,r+1,hr=>by
  have ih:=U9 mask h (k+1) r (by lia);have e:off mask h (k+1)+(r+1)=(off mask h (k+1)+r)+1:=by lia
  rw[e,o5,ih];unfold OR;rw[if_pos (show len mask (C6 mask h<|k+1).1-r>0 by lia)];simp
  lia
def NA (mask:Nat)(h:Int)(k:Nat):(o5 mask h (off mask h k)).j=(C6 mask h k).1:=by have:=U9 mask h k 0 (aBc _);rw[Nat.add_zero]at this;rw[this];rfl
theorem iY (mask:Nat)(h:Int):∀k,(C6 mask h k).2<2^64/32^k+1
 |0=>by
  show bits h<_;unfold bits;have:=Int.emod_lt_of_pos h (show(0:Int)<2^64 by decide)
  lia
 |k+1=>by
  have ih:=iY mask h k;show(C6 mask h k).2/32<_;have e:∀N,N/32^(k+1)=N/32^k/32:=λN=>by rw[Nat.div_div_eq_div_mul];rfl
  rw[e]
  lia
theorem rV (mask:Nat)(h:Int):∀k,(C6 mask h (13+k)).2=0
 |0=>by have:=iY mask h 13;simp at this;exact this
 |k+1=>by have:=rV mask h k;show(C6 mask h<|13+k).2/32=0;rw[this]
def uz (m:Nat)(i:Nat):Nat:=(i*5+1)%m
def iter (m:Nat):Nat->Nat->Nat
 |0,i=>i
 |n+1,i=>uz m (iter m n i)
theorem nF (mask:Nat)(h:Int):∀k,(C6 mask h (13+k)).1=iter (mask+1) k (C6 mask h 13).1
 |0=>rfl
 |k+1=>by have ih:=nF mask h k;show((C6 mask h<|13+k).1*5+1+(C6 mask h<|13+k).2/32)%(mask+1)=_;rw[rV,ih];rfl
theorem iE (m:Nat):∀a b i,iter m (a+b) i=iter m a (iter m b i)
 |0,b,i=>by rw[aEd];rfl
 |a+1,b,i=>by rw[show a+1+b=(a+b)+1 by lia];show uz m _=uz m _;rw[iE m a b i]
def lX (m:Nat):Prop:=iter m m 0=0/\∀j<m,∃n<m,iter m n 0=j
def rZ (F:lX m)(hi:i<m)(hj:j<m):∃n<m,iter m n i=j:=by
 obtain⟨a,ha,ea⟩:=F.2 i hi;obtain⟨b,hb,eb⟩:=F.2 j hj;by_cases h:a<=b
 ·exact⟨b-a,by lia,by rw[<-ea,<-iE,show b-a+a=b by lia,eb]⟩
 ·refine⟨b+(m-a),by lia,?_⟩;rw[<-ea,<-iE,show b+(m-a)+a=b+m by lia,iE,F.1,eb]
instance(m:Nat):Decidable (lX m):=inferInstanceAs (Decidable<|_/\_)
def fw:lX 8:=by decide+kernel
def XR:lX 32:=by decide+kernel
def PR:lX 128:=by decide+kernel
theorem EJ (mask:Nat)(h:Int):∀k,(C6 mask h k).1<mask+1
 |0=>aDJ _ (by lia)
 |k+1=>aDJ _ (by lia)
def BW {mask:Nat}(F:lX (mask+1))(h:Int){j:Nat}(hj:j<=mask):∃n,n<=10*(mask+14)/\(o5 mask h n).j=j:=by
 obtain⟨k,hk,e⟩:=rZ F (EJ mask h 13) (show j<mask+1 by lia);refine⟨off mask h (13+k),?_,?_⟩
 ·have:=NQ mask h (13+k);lia
 ·rw[NA,nF,e]
end ST
namespace ST
open PySem PySem.SetTable
def uU {α β:Type}{l:List α}{m:List β}{p:Nat}{a:α×β}(h:a∈(l.take p).zip (m.take p)):a∈l.zip m:=by
 obtain⟨i,hi⟩:=aBR.mp h;rw[aBx]at hi;refine aAl (i:=i) ?_;rw[aBx];have q:∀{γ:Type} {l:List γ} {c:γ},(l.take p)[i]?=some c->l[i]?=some c:=λ{γ l c} h=>by
  rw[List.getElem?_take]at h;split at h
  ·exact h
  ·cases h
 exact⟨q hi.1,q hi.2⟩
def uI {α β:Type}{l:List α}{m:List β}{p:Nat}{a:α×β}(h:a∈(l.drop p).zip (m.drop p)):a∈l.zip m:=by obtain⟨i,hi⟩:=aBR.mp h;rw[aBx,List.getElem?_drop,List.getElem?_drop]at hi;refine aAl (i:=p+i) ?_;rw[aBx];exact hi
theorem ET (mask:Nat)(h:Int):∀n,(o5 mask h n).j+(o5 mask h n).more<=mask
 |0=>by have:=aDJ (bits h) (show 0<mask+1 by lia);show bits h%(mask+1)+(runEnd mask (bits h%(mask+1))-bits h%(mask+1))<=mask;unfold runEnd;split<;>lia
 |n+1=>by
  have ih:=ET mask h n;show(OR mask<|o5 mask h n).j+(OR mask<|o5 mask h n).more<=mask;unfold OR;split
  ·dsimp only;lia
  ·dsimp only;have:(leap mask (o5 mask h n).i (o5 mask h n).perturb).1<mask+1:=aDJ _ (by lia);unfold runEnd;split<;>lia
def tJ (mask:Nat)(h:Int)(n:Nat):(o5 mask h n).j<=mask:=by have:=ET mask h n;lia
theorem P7 {α:Type}[DecidableEq α]:∀{l m:List α},l.Nodup->(∀x∈l,x∈m)->l.length<=m.length
 |[],_,_,_=>aBc _
 |x::l,m,h,hs=>by
  have hx:=hs x (by simp);have h':=aAG.mp h;have:=P7 (l:=l) (m:=m.erase x) h'.2 (λy hy=>by
   have ne:y≠x:=λe=>by subst e;exact h'.1 hy
   exact(aFO ne).mpr (hs y<|aAe _ hy))
  rw[aFe hx]at this;have:0<m.length:=aDV hx;simp only[aAx]
  lia
def FZ {t:SetTable}(h:t.place.size<=t.mask):∃j≤t.mask,j∉t.place.toList:=by
 by_cases z:∃j≤t.mask,j∉t.place.toList
 ·exact z
 ·exfalso;have:=P7 (l:=aBu (t.mask+1)) (m:=t.place.toList) List.nodup_range (λj hj=>by
   by_cases q:j∈t.place.toList
   ·exact q
   ·exact absurd ⟨j,by have:=aCv.mp hj;lia,q⟩ z)
  simp at this
  lia
theorem least {P:Nat->Prop}[DecidablePred P]:∀n,P n->∃m≤n,P m/\∀k<m,¬P k
 |0,h=>⟨0,aAh _,h,λk hk=>by lia⟩
 |n+1,h=>by
  by_cases z:∃k≤n,P k
  ·obtain⟨k,hk,hp⟩:=z;obtain⟨m,h1,h2,h3⟩:=least k hp;exact⟨m,by lia,h2,h3⟩
  ·exact⟨n+1,aAh _,h,λk hk hp=>z ⟨k,by lia,hp⟩⟩
termination_by n=>n
def U0 (t:SetTable)(h:Int)(n0:Nat):Prop:=n0<=10*(t.mask+14)/\(o5 t.mask h n0).j∉t.place.toList/\∀m<n0,(o5 t.mask h m).j∈t.place.toList
def BY {t:SetTable}(F:lX (t.mask+1))(hs:t.place.size<=t.mask)(h:Int):∃n0,U0 t h n0:=by obtain⟨j,hj,hn⟩:=FZ hs;obtain⟨n,h1,h2⟩:=BW F h hj;obtain⟨m,h3,h4,h5⟩:=least (P:=λn=>(o5 t.mask h n).j∉t.place.toList) n (by rw[h2];exact hn);exact⟨m,by lia,h4,λk hk=>by have:=h5 k hk;simpa using this⟩
theorem xA (T:Tab t)(hashAt:Nat->Int)(h:Int)(hf:U0 t h n0):∀(fuel n:Nat),n<=n0->n0-n<fuel->
  ∃n',n<=n'/\n'<=n0/\(∀m,n<=m->m<n'->∃i,t.place[i]?=some (o5 t.mask h m).j/\hashAt i≠h)/\
   ((n'=n0/\probe.go t hashAt h fuel (o5 t.mask h n)=some (.empty (o5 t.mask h n0).j none))\/
    (n'<n0/\∃i,t.place[i]?=some (o5 t.mask h n').j/\hashAt i=h/\probe.go t hashAt h fuel (o5 t.mask h n)=some (.candidate (o5 t.mask h n').j i (o5 t.mask h (n'+1)))))
 |0,n,_,h2=>by lia
 |fuel+1,n,h1,h2=>by
  unfold probe.go;rcases BH T (o5 t.mask h n).j with⟨e,hn⟩|⟨i,e,hi⟩
  ·have:n=n0:=by
     by_cases q:n<n0
     ·exact absurd (hf.2.2 n q) hn
     ·lia
   subst this;refine⟨n,aAh _,aAh _,λm a b=>by lia,.inl ⟨rfl,?_⟩⟩;rw[e];dsimp only;rw[pD]
  ·have af:n≠n0:=λq=>by subst q;refine hf.2.1 ?_;rw[<-aAB]at hi;exact aAl hi
   rw[e];dsimp only;by_cases hh:hashAt i=h
   · refine⟨n,aAh _,by lia,λm a b=>by lia,.inr ⟨by lia,i,hi,hh,?_⟩⟩
     rw[if_pos (by simpa using hh),nW];rfl
   · rw[if_neg (by simpa using hh),nW]
     obtain⟨n',a1,a2,a3,a4⟩:=xA T hashAt h hf fuel (n+1) (by lia) (by lia);refine⟨n',by lia,a2,λm b1 b2=>?_,a4⟩;by_cases q:m=n
     ·subst q;exact⟨i,hi,hh⟩
     ·exact a3 m (by lia) b2
def KJ (T:Tab t)(hashAt:Nat->Int)(h:Int)(hf:U0 t h n0)(n:Nat)(h1:n<=n0):
  ∃n',n<=n'/\n'<=n0/\(∀m,n<=m->m<n'->∃i,t.place[i]?=some (o5 t.mask h m).j/\hashAt i≠h)/\
   ((n'=n0/\t.probe hashAt h (o5 t.mask h n)=some (.empty (o5 t.mask h n0).j none))\/
    (n'<n0/\∃i,t.place[i]?=some (o5 t.mask h n').j/\hashAt i=h/\t.probe hashAt h (o5 t.mask h n)=some (.candidate (o5 t.mask h n').j i (o5 t.mask h (n'+1))))):=
 xA T hashAt h hf _ n h1 (by have:=hf.1;unfold turns;lia)
def Reach (mask:Nat)(occ:Nat->Prop)(h:Int)(j:Nat):Prop:=∃n,(o5 mask h n).j=j/\∀m<n,occ (o5 mask h m).j
def Reach.mono {mask:Nat}{o o':Nat->Prop}{h:Int}{j:Nat}(r:Reach mask o h j)(i:∀k,o k->o' k):Reach mask o' h j:=by obtain⟨n,e,q⟩:=r;exact⟨n,e,λm hm=>i _ (q m hm)⟩
def Reach.before (hf:U0 t h n0)(hj:j∈t.place.toList)(r:Reach t.mask (λk=>k∈t.place.toList) h j):∃n<n0,(o5 t.mask h n).j=j:=by
 obtain⟨n,e,q⟩:=r;refine⟨n,?_,e⟩;by_cases z:n<n0
 ·exact z
 ·exfalso;by_cases y:n=n0
  ·subst y;exact hf.2.1 (by rw[e];exact hj)
  ·exact hf.2.1 (q n0 (by lia))
def fM {α:Type}(xs:Array α)(p:Nat)(x:α):(insertAt xs p x).toList=xs.toList.take p++x::xs.toList.drop p:=by
 unfold insertAt;simp[Array.toList_extract,List.extract_eq_drop_take];have:xs.size-p=(xs.toList.drop p).length:=by simp
 rw[this,List.take_length]
def yB (t:SetTable)(es:List (Int×Value)):List (Nat×Int×Value):=t.place.toList.zip es
structure SOk (t:SetTable)(es:List (Int×Value)):Prop where
 tab:Tab t
 full:lX (t.mask+1)
 len:t.place.size=es.length
 room:t.place.size<=t.mask
 reach:∀e∈yB t es,Reach t.mask (λk=>k∈t.place.toList) e.2.1 e.1
def PP {t:SetTable}{es:List (Int×Value)}(hl:t.place.size=es.length){i:Nat}{e:Int×Value}(h:es[i]?=some e):∃j,t.place[i]?=some j/\(j,e)∈yB t es:=by
 have hi:i<es.length:=(aAv.mp h).1;have fo:i<t.place.toList.length:=by simpa[hl]using hi
 refine⟨t.place.toList[i],by rw[<-aAB,aAg fo],?_⟩;unfold yB;refine aAl (i:=i) ?_;rw[aBx];exact⟨aAg fo,h⟩
def WQ {t:SetTable}{es:List (Int×Value)}(S:SOk t es){h:Int}{x:Value}{n0:Nat}(hf:U0 t h n0)(hr:t.place.size+1<=t.mask):
  SOk (t.put (o5 t.mask h n0).j).1 (es.take (t.put (o5 t.mask h n0).j).2++(h,x)::es.drop (t.put (o5 t.mask h n0).j).2):=by
 have hj:=tJ t.mask h n0;obtain⟨b1,b2,b3⟩:=bJ S.tab.asc (o5 t.mask h n0).j;generalize hJ:(o5 t.mask h n0).j=J at*
 have hf2:J∉t.place.toList:=by rw[<-hJ];exact hf.2.1
 have ep:(t.put J).2=below t.place J:=rfl;have em:(t.put J).1.mask=t.mask:=rfl;have epl:(t.put J).1.place=insertAt t.place (below t.place J) J:=rfl;have lpl:=fM t.place (below t.place J) J;have mem:∀k,k∈(t.put J).1.place.toList↔k∈t.place.toList\/k=J:=λk=>by
  rw[epl,lpl,aAP,aAd];constructor
  ·rintro(q|q|q)
   ·exact .inl (aEq q)
   ·exact .inr q
   ·exact .inl (aDw q)
  ·rintro(q|q)
   ·rw[<-aFC (below t.place J) t.place.toList,aAP]at q;rcases q with q|q
    ·exact .inl q
    ·exact .inr (.inr q)
   ·exact .inr (.inl q)
 have hsz:(t.put J).1.place.size=t.place.size+1:=by
  rw[<-aBa,epl,lpl,aAN,aBN,aAx,aDC,aBa]
  lia
 refine⟨⟨?_,λj ud=>?_,?_⟩,S.full,?_,by rw[hsz];exact hr,λe he=>?_⟩
 ·
  have asc:t.place.toList.Pairwise (· <·):=by rw[aCf];intro i j hi hj jh;simpa using S.tab.asc i j (by simpa using hi) (by simpa using hj) jh
  have lt1:∀a∈t.place.toList.take (below t.place J),a<J:=λa ha=>by
   obtain⟨i,hi,e⟩:=aBd ha;rw[aBN]at hi;rw[List.getElem_take]at e;have:=b2 i (by simp at hi;lia) (by lia);simp at e
   lia
  have gt1:∀a∈t.place.toList.drop (below t.place J),J<a:=λa ha=>by
   obtain⟨i,hi,e⟩:=aBd ha;rw[aDC]at hi;rw[List.getElem_drop]at e;have h1:=b3 (below t.place J+i) (by simp at hi;lia) (by lia);simp at e;have h2:J≠a:=λq=>hf2 (by rw[q];exact aDw ha)
   lia
  have pw:(t.put J).1.place.toList.Pairwise (· <·):=by
   rw[epl,lpl,List.pairwise_append];refine⟨asc.sublist (List.take_sublist _ _),aAA.mpr ⟨gt1,asc.sublist (List.drop_sublist _ _)⟩,λa ha b hb=>?_⟩;rcases aAd.mp hb with q|q
   ·subst q;exact lt1 a ha
   ·exact aGt (lt1 a ha) (gt1 b q)
  intro i k hi hk hik;have:=aCf.mp pw i k (by simpa using hi) (by simpa using hk) hik;simpa using this
 ·rcases(mem j).mp ud with q|q
  ·exact S.tab.le j q
  ·subst q;exact hj
 ·show(if has t.dummies J then _ else t.dummies)=#[];rw[S.tab.nod,if_neg (by unfold has;simp)]
 ·rw[hsz,ep,aAN,aBN,aAx,aDC];have:=S.len
  lia
 ·have xt:e∈yB t es\/e=(J,h,x):=by
   unfold yB at he;rw[epl,lpl,ep]at he;rw[List.zip_append (by rw[aBN,aBN,aBa,S.len])]at he;rcases aAP.mp he with q|q
   ·left;unfold yB;exact uU q
   ·rw[aBT]at q;rcases aAd.mp q with q|q
    ·exact .inr q
    ·left;unfold yB;exact uI q
  rcases xt with q|q
  ·exact(S.reach e q).mono λk hk=>(mem k).mpr (.inl hk)
  ·subst q;exact⟨n0,hJ,λm hm=>(mem _).mpr (.inl (hf.2.2 m hm))⟩
end ST
namespace ST
open PySem PySem.SetTable
def Q1 (owner:Array (Option Nat))(j:Nat):Prop:=(owner.getD j<|some 0).isNone=false
theorem sR {mask:Nat}(h:Int)(owner:Array (Option Nat)):∀(fuel k:Nat),(∃kk,k<=kk/\kk<k+fuel/\¬Q1 owner (C6 mask h kk).1)->
  ∃n,off mask h k<=n/\layClean.free mask owner fuel (C6 mask h k).1 (C6 mask h k).2=some (o5 mask h n).j/\¬Q1 owner (o5 mask h n).j/\∀m,off mask h k<=m->m<n->Q1 owner (o5 mask h m).j
 |0,k,⟨kk,h1,h2,_⟩=>by lia
 |fuel+1,k,⟨kk,h1,h2,h3⟩=>by
  have eL:runEnd mask (C6 mask h k).1+1-(C6 mask h k).1=len mask (C6 mask h k).1+1:=by unfold len runEnd;split<;>lia
  unfold layClean.free;rw[eL];cases e:(aBu<|len mask (C6 mask h k).1+1).find? λr=>(owner.getD ((C6 mask h k).1+r)<|some 0).isNone with
  |some r=>
   have q:=List.find?_some e;have hr:r<len mask (C6 mask h k).1+1:=aCv.mp (List.mem_of_find?_eq_some e);have ej:(o5 mask h<|off mask h k+r).j=(C6 mask h k).1+r:=by rw[U9 mask h k r (by lia)]
   refine⟨off mask h k+r,by lia,by rw[ej],by rw[ej];unfold Q1;rw[q];simp,λm a b=>?_⟩;have em:(o5 mask h m).j=(C6 mask h k).1+(m-off mask h k):=by have:=U9 mask h k (m-off mask h k) (by lia);rw[show off mask h k+(m-off mask h k)=m by lia]at this;rw[this]
   rw[em];unfold Q1;rw[List.find?_range_eq_some]at e;have:=e.2.2 (m-off mask h k) (by lia);simpa using this
  |none=>
   have all:∀r<len mask (C6 mask h k).1+1,Q1 owner ((C6 mask h k).1+r):=λr hr=>by have:=List.find?_eq_none.mp e r (aCv.mpr hr);unfold Q1;exact Bool.not_eq_true _▸this
   have hk:kk≠k:=λq=>by subst q;have:=all 0 (by lia);rw[Nat.add_zero]at this;exact h3 this
   obtain⟨n,a1,a2,a3,a4⟩:=sR h owner fuel (k+1) ⟨kk,by lia,by lia,h3⟩;have eo:off mask h (k+1)=off mask h k+len mask (C6 mask h k).1+1:=rfl;refine⟨n,by lia,a2,a3,λm b1 b2=>?_⟩;by_cases q:off mask h (k+1)<=m
   ·exact a4 m q b2
   ·have em:(o5 mask h m).j=(C6 mask h k).1+(m-off mask h k):=by have:=U9 mask h k (m-off mask h k) (by lia);rw[show off mask h k+(m-off mask h k)=m by lia]at this;rw[this]
    rw[em];exact all _ (by lia)
def mK {mask:Nat}(F:lX (mask+1))(h:Int)(owner:Array (Option Nat)){j:Nat}(hj:j<=mask)(hn:¬Q1 owner j):
  ∃n,layClean.free mask owner (turns mask) (aDP h%(mask+1)) (aDP h)=some (o5 mask h n).j/\¬Q1 owner (o5 mask h n).j/\∀m<n,Q1 owner (o5 mask h m).j:=by
 obtain⟨k,hk,e⟩:=rZ F (EJ mask h 13) (show j<mask+1 by lia);obtain⟨n,a1,a2,a3,a4⟩:=sR h owner (turns mask) 0 ⟨13+k,aBc _,by unfold turns;lia,by rw[nF,e];exact hn⟩;exact⟨n,a2,a3,λm hm=>a4 m (aBc _) hm⟩
structure Laid (mask:Nat)(hs:List Int)(owner:Array (Option Nat))(k:Nat):Prop where
 size:owner.size=mask+1
 lt:∀(j i:Nat),owner[j]?=some (some i)->i<k
 inj:∀(j j' i:Nat),owner[j]?=some (some i)->owner[j']?=some (some i)->j=j'
 sur:∀i<k,∃j:Nat,owner[j]?=some (some i)
 reach:∀(j i:Nat) (h:Int),owner[j]?=some (some i)->hs[i]?=some h->Reach mask (λl=>∃i,owner[l]?=some (some i)) h j
def jR {owner:Array (Option Nat)}{mask j:Nat}(hs:owner.size=mask+1)(hj:j<=mask):Q1 owner j↔∃i,owner[j]?=some (some i):=by
 unfold Q1;have ar:j<owner.size:=by lia
 have e:owner.getD j (some 0)=owner[j]:=by simp[aFd,ar]
 rw[e,aAw ar];cases owner[j]with
 |none=>simp
 |some i=>simp
def Laid.room {mask k:Nat}{hs:List Int}{owner:Array (Option Nat)}(L:Laid mask hs owner k)(hk:k<=mask):∃j≤mask,¬Q1 owner j:=by
 by_cases z:∃j≤mask,¬Q1 owner j
 ·exact z
 ·exfalso;have all:∀j≤mask,∃i,owner[j]?=some (some i):=λj hj=>by
   by_cases q:Q1 owner j
   ·exact(jR L.size hj).mp q
   ·exact absurd ⟨j,hj,q⟩ z
  have key:∀n,n<=mask+1->∃l:List Nat,l.length=n/\l.Nodup/\(∀i∈l,i<k)/\∀i∈l,∃j<n,owner[j]?=some (some i):=λn=>by
   induction n with
   |zero=>exactλ_=>⟨[],rfl,aDb,by simp,by simp⟩
   |succ n ih=>
    intro hn;obtain⟨l,h1,h2,h3,h4⟩:=ih (by lia);obtain⟨i,hi⟩:=all n (by lia);refine⟨i::l,by simp[h1],aAG.mpr ⟨λq=>?_,h2⟩,λx hx=>?_,λx hx=>?_⟩
    ·obtain⟨j,hj,e⟩:=h4 i q;have:=L.inj j n i e hi
     lia
    ·rcases aAd.mp hx with q|q
     ·subst q;exact L.lt _ _ hi
     ·exact h3 x q
    ·rcases aAd.mp hx with q|q
     ·subst q;exact⟨n,by lia,hi⟩
     ·obtain⟨j,hj,e⟩:=h4 x q;exact⟨j,by lia,e⟩
  obtain⟨l,h1,h2,h3,_⟩:=key (mask+1) (aAh _);have:=P7 (m:=aBu k) h2 (λx hx=>aCv.mpr (h3 x hx));simp at this
  lia
def BJ (mask:Nat)(hs:List Int):Laid mask hs (aEu (mask+1) none) 0:=by
 have no:∀(j i:Nat),(aEu (mask+1) (none:Option Nat))[j]?=some (some i)->False:=λj i h=>by rw[Array.getElem?_replicate]at h;split at h<;>cases h
 exact⟨by simp,λj i h=>(no j i h).elim,λj j' i h=>(no j i h).elim,λi hi=>by lia,λj i _ h=>(no j i h).elim⟩
def Laid.step {mask k:Nat}{hs:List Int}{owner:Array (Option Nat)}(L:Laid mask hs owner k){h:Int}(hk:hs[k]?=some h){n:Nat}(h2:¬Q1 owner (o5 mask h n).j)(h3:∀m<n,Q1 owner (o5 mask h m).j):
  Laid mask hs (owner.setIfInBounds (o5 mask h n).j (some k)) (k+1):=by
 have hJ:=tJ mask h n;have hJ':(o5 mask h n).j<owner.size:=by rw[L.size];lia
 have get:∀(j i:Nat),(owner.setIfInBounds (o5 mask h n).j (some k))[j]?=some (some i)↔(j=(o5 mask h n).j/\i=k)\/(j≠(o5 mask h n).j/\owner[j]?=some (some i)):=λj i=>by
  rw[Array.getElem?_setIfInBounds];by_cases q:(o5 mask h n).j=j
  ·rw[if_pos q,if_pos hJ'];simp[q,eq_comm]
  ·rw[if_neg q];constructor
   ·intro z;exact .inr ⟨λy=>q y.symm,z⟩
   ·rintro(⟨z,_⟩|⟨_,z⟩)
    ·exact absurd z.symm q
    ·exact z
 have fr:∀i,owner[(o5 mask h n).j]?≠some (some i):=λi z=>h2 ((jR L.size hJ).mpr ⟨i,z⟩);have grow:∀l:Nat,(∃i:Nat,owner[l]?=some (some i))->∃i:Nat,(owner.setIfInBounds (o5 mask h n).j (some k))[l]?=some (some i):=λl hl=>by
  obtain⟨i,z⟩:=hl;by_cases q:l=(o5 mask h n).j
  ·exact⟨k,(get l k).mpr (.inl ⟨q,rfl⟩)⟩
  ·exact⟨i,(get l i).mpr (.inr ⟨q,z⟩)⟩
 refine⟨by simp[L.size],λj i z=>?_,λj j' i z z'=>?_,λi hi=>?_,λj i h' z e=>?_⟩
 ·rcases(get j i).mp z with⟨_,q⟩|⟨_,q⟩
  ·lia
  ·have:=L.lt j i q;lia
 ·rcases(get j i).mp z with⟨q1,q2⟩|⟨q1,q2⟩
  ·rcases(get j' i).mp z' with⟨r1,r2⟩|⟨r1,r2⟩
   ·rw[q1,r1]
   ·subst q2;have:=L.lt _ _ r2;lia
  ·rcases(get j' i).mp z' with⟨r1,r2⟩|⟨r1,r2⟩
   ·subst r2;have:=L.lt _ _ q2;lia
   ·exact L.inj j j' i q2 r2
 ·by_cases q:i=k
  ·subst q;exact⟨_,(get _ _).mpr (.inl ⟨rfl,rfl⟩)⟩
  ·obtain⟨j,z⟩:=L.sur i (by lia);exact⟨j,(get j i).mpr (.inr ⟨λy=>by subst y;exact fr i z,z⟩)⟩
 ·rcases(get j i).mp z with⟨q1,q2⟩|⟨q1,q2⟩
  ·subst q1 q2;have:h'=h:=aAj (e.symm.trans hk);subst this;exact⟨n,rfl,λm hm=>grow _ ((jR L.size<|tJ mask h' m).mp (h3 m hm))⟩
  ·exact(L.reach j i h' q2 e).mono grow
def wL {mask:Nat}(F:lX (mask+1))(hs:Array Int)(hl:hs.size<=mask):∃owner,layClean mask hs=some owner/\Laid mask hs.toList owner hs.size:=by
 have go:∀(post pre:List Int) (owner:Array (Option Nat)),hs.toList=pre++post->Laid mask hs.toList owner pre.length->
   ∃me,post.foldl (λacc h=>do
    let(owner,k)<-acc
    let j<-layClean.free mask owner (turns mask) (aDP h%(mask+1)) (aDP h)
    pure (owner.setIfInBounds j (some k),k+1)) (some (owner,pre.length))=some (me,hs.size)/\Laid mask hs.toList me hs.size:=λpost=>by
  induction post with
  |nil=>
   intro pre owner e L;have:pre.length=hs.size:=by rw[<-aBa,e];simp
   exact⟨owner,by rw[List.foldl_nil,this],by rw[<-this];exact L⟩
  |cons h post ih=>
   intro pre owner e L;have hlen:pre.length<hs.size:=by rw[<-aBa,e];simp
   obtain⟨j,hj,hn⟩:=L.room (by lia);obtain⟨n,f1,f2,f3⟩:=mK F h owner hj hn;have hk:hs.toList[pre.length]?=some h:=by rw[e];simp
   have L':=L.step hk f2 f3;rw[aDm];have e2:hs.toList=(pre++[h])++post:=by rw[e];simp
   obtain⟨me,g1,g2⟩:=ih (pre++[h]) _ e2 (by rw[aAN];exact L');refine⟨me,?_,g2⟩;rw[<-g1];congr 1;simp[f1]
 obtain⟨owner,h1,h2⟩:=go hs.toList [] (aEu (mask+1) none) rfl (BJ mask hs.toList);refine⟨owner,?_,h2⟩;unfold layClean;rw[<-Array.foldl_toList];have xo:List.foldl (λacc h=>do
    let(owner,k)<-acc
    let j<-layClean.free mask owner (turns mask) (aDP h%(mask+1)) (aDP h)
    pure (owner.setIfInBounds j (some k),k+1)) (some (aEu (mask+1) none,0)) hs.toList=some (owner,hs.size):=h1
 rw[xo];rfl
end ST
namespace ST
open PySem PySem.SetTable
def D5 (mask:Nat)(owner:Array (Option Nat)):List (Nat×Nat):=(aBu<|mask+1).filterMap λj=>(owner.getD j none).map (j,·)
def Q3 {mask:Nat}{owner:Array (Option Nat)}(hs:owner.size=mask+1){j i:Nat}:(j,i)∈D5 mask owner↔owner[j]?=some (some i):=by
 unfold D5;rw[aBS];constructor
 ·rintro⟨l,hl,e⟩;have ie:l<owner.size:=by rw[hs];exact aCv.mp hl
  have eg:owner.getD l none=owner[l]:=by simp[aFd,ie]
  rw[eg,aDc]at e;obtain⟨i',e1,e2⟩:=e;cases e2;rw[aAw ie,e1]
 ·intro e;obtain⟨hl,e1⟩:=aCd.mp e;have eg:owner.getD j none=owner[j]:=by simp[aFd,hl]
  exact⟨j,aCv.mpr (by lia),by rw[eg,e1];rfl⟩
def yJ (mask:Nat)(owner:Array (Option Nat)):((D5 mask owner).map (·.1)).Pairwise (· <·):=by unfold D5;rw[aBD];have:(aBu<|mask+1).Pairwise (· <·):=List.pairwise_lt_range;refine List.Pairwise.filterMap _ (R:=(· <·)) ?_ this;intro a a' ar b hb b' jb;rw[aDc]at hb jb;obtain⟨_,_,rfl⟩:=hb;obtain⟨_,_,rfl⟩:=jb;exact ar
def JD {mask finger moves:Nat}{led plain:Bool}(F:lX (mask+1))(es:Array (Int×Value))(hl:es.size<=mask):
  ∃t' order,laid mask finger moves led plain (es.map (·.1))=some (t',order)/\(order.filterMap (es[·]?)).size=es.size/\(order.filterMap (es[·]?)).toList.Perm es.toList/\SOk t' (order.filterMap (es[·]?)).toList/\
   t'.mask=mask/\t'.dummies=#[]/\t'.led=led/\t'.plain=plain/\t'.moves=moves:=by
 obtain⟨owner,h1,L⟩:=wL F (es.map (·.1)) (by simpa using hl);have hk:(es.map (·.1)).size=es.size:=by simp
 rw[hk]at L;refine⟨{mask,place:=((D5 mask owner).map (·.1)).toArray,dummies:=#[],finger,led,moves,plain},((D5 mask owner).map (·.2)).toArray,?_,?_⟩
 ·unfold laid;rw[h1];rfl
 have nd1:(D5 mask owner).Nodup:=by have:=yJ mask owner;rw[aBD]at this;exact aCc.mpr (this.imp λ{a b} h e=>by subst e;exact aBe _ h)
 have ndo:((D5 mask owner).map (·.2)).Nodup:=by rw[aCc,aBD];refine List.Pairwise.imp_of_mem (R:=(· ≠·)) ?_ (aCc.mp nd1);rintro⟨j,i⟩ ⟨j',i'⟩ ha hb af e;dsimp only at e;subst e;have:=L.inj j j' i ((Q3 L.size).mp ha) ((Q3 L.size).mp hb);subst this;exact af rfl
 have po:((D5 mask owner).map (·.2)).Perm (aBu es.size):=by
  rw[aDu ndo List.nodup_range];intro i;rw[aCv,aAo];constructor
  ·rintro⟨⟨j,i'⟩,h,rfl⟩;exact L.lt _ _ ((Q3 L.size).mp h)
  ·intro hi;obtain⟨j,hj⟩:=L.sur i hi;exact⟨(j,i),(Q3 L.size).mpr hj,rfl⟩
 have ee:(((D5 mask owner).map (·.2)).toArray.filterMap (es[·]?)).toList=(D5 mask owner).filterMap (λx=>es[x.2]?):=by rw[Array.toList_filterMap,aDe];rfl
 have pe:((D5 mask owner).filterMap (λx=>es[x.2]?)).Perm es.toList:=by
  have h2:(D5 mask owner).filterMap (λx=>es[x.2]?)=((D5 mask owner).map (·.2)).filterMap (λi=>es[i]?):=by rw[aDe];rfl
  rw[h2];refine(po.filterMap _).trans (List.Perm.of_eq ?_);apply aDs;intro i;have:(aBu es.size).filterMap (λi=>es[i]?)=es.toList:=by
   have q:∀l:List (Int×Value),(aBu l.length).filterMap (λi=>l[i]?)=l:=λl=>by
    induction l with
    |nil=>rfl
    |cons a l ih=>
     rw[aAx,aFv,aCA];simp only[aCU];rw[aDe];have:((λi=>(a::l)[i]?)∘Nat.succ)=λi=>l[i]?:=by funext i;simp
     rw[this,ih]
   have:=q es.toList;simpa using this
  rw[this]
 have zp:∀l:List (Nat×Nat),(∀x∈l,x.2<es.size)->(l.map (·.1)).zip (l.filterMap<|λx=>es[x.2]?)=l.filterMap (λx=>es[x.2]?.map (x.1,·))/\(l.filterMap<|λx=>es[x.2]?).length=l.length:=λl=>by
  induction l with
  |nil=>intro _;exact⟨rfl,rfl⟩
  |cons x l ih=>intro h;obtain⟨i1,i2⟩:=ih (λy hy=>h y (aAe _ hy));have hx:=h x (by simp);have e:es[x.2]?=some es[x.2]:=aAw hx;rw[aAy,aCA,e];dsimp only;rw[aCA,e];dsimp only[Option.map_some];rw[aBT,i1];exact⟨rfl,by simp[i2]⟩
 obtain⟨z1,z2⟩:=zp (D5 mask owner) (λx hx=>L.lt x.1 x.2 ((Q3 L.size).mp hx));have hsz:(D5 mask owner).length=es.size:=by have:=po.length_eq;simpa using this
 rw[ee];refine⟨by rw[<-aBa,ee,z2,hsz],pe,⟨⟨?_,λj hj=>?_,rfl⟩,F,?_,?_,λe he=>?_⟩,rfl,rfl,rfl,rfl,rfl⟩
 ·intro i k hi hk hik;have:=aCf.mp (yJ mask owner) i k (by simpa using hi) (by simpa using hk) hik;simpa using this
 ·have ud:j∈(D5 mask owner).map (·.1):=by simpa using hj
  obtain⟨⟨j',i⟩,h,rfl⟩:=aAo.mp ud;have:=(aCd.mp<|(Q3 L.size).mp h).1;rw[L.size]at this;show j'<=mask
  lia
 ·rw[z2];simp
 ·simp only[aAq,aAk,hsz];exact hl
 ·unfold yB at he;dsimp only at he;rw[z1,aBS]at he;obtain⟨⟨j,i⟩,h,e1⟩:=he;rw[aDc]at e1;obtain⟨⟨hh,v⟩,e2,rfl⟩:=e1;have ho:=(Q3 L.size).mp h;have:=L.reach j i hh ho (by rw[aAB,Array.getElem?_map,e2];rfl);refine this.mono λl ⟨i',fo⟩=>?_;show l∈(D5 mask owner).map (·.1);exact aAo.mpr ⟨(l,i'),(Q3 L.size).mpr fo,rfl⟩
end ST
namespace DL
open PySem PySem.Spec L2
open PyProof.Rows hiding St
variable [Tabs]
mutual
inductive HV (h:Heap):Value->D->Prop
 |int (i:Int) (t:Tok):HV h (.int i t) (.int i)
 |tup {a:Addr} {items:Array Value} {ds:List D} (p:IsTup h a items) (r:HVs h items.toList ds):HV h (.ref a) (.tup ds)
inductive HVs (h:Heap):List Value->List D->Prop
 |nil:HVs h [] []
 |cons {v:Value} {d:D} {vs:List Value} {ds:List D} (r:HV h v d) (t:HVs h vs ds):HVs h (v::vs) (d::ds)
end
mutual
def qI:D->Bool
 |.int _=>true
 |.tup xs=>fO xs
 |_=>false
def fO:List D->Bool
 |[]=>true
 |x::xs=>qI x&&fO xs
end
theorem fZ:∀xs:List D,vN xs=xs.map o7
 |[]=>rfl
 |x::xs=>by rw[vN,fZ xs];rfl
section
mutual
theorem HV.keeps (k:∀b o,h.get? b=some o->o.cls=.type "tuple"->h'.get? b=some o):∀{v:Value} {d:D},HV h v d->HV h' v d
 |_,_,.int i t=>.int i t
 |_,_,.tup p r=>.tup (by obtain⟨o,e,c,n,d⟩:=p;exact⟨o,k _ _ e c,c,n,d⟩) (HVs.keeps k r)
theorem HVs.keeps (k:∀b o,h.get? b=some o->o.cls=.type "tuple"->h'.get? b=some o):∀{v:List Value} {d:List D},HVs h v d->HVs h' v d
 |_,_,.nil=>.nil
 |_,_,.cons r t=>.cons (HV.keeps k r) (HVs.keeps k t)
end
mutual
theorem HV.inj:∀{v:Value} {d d':D},HV h v d->HV h v d'->d=d'
 |_,_,_,.int i t,.int _ _=>rfl
 |_,_,_,.tup p r,.tup p' r'=>by obtain⟨o,e,c,n,dd⟩:=p;obtain⟨o',e',c',n',za⟩:=p';rw[e]at e';cases e';rw[dd]at za;injection za with q _;subst q;rw[HVs.inj r r']
theorem HVs.inj:∀{v:List Value} {d d':List D},HVs h v d->HVs h v d'->d=d'
 |_,_,_,.nil,.nil=>rfl
 |_,_,_,.cons r t,.cons r' t'=>by rw[HV.inj r r',HVs.inj t t']
end
theorem HVs.length:∀{v:List Value} {d:List D},HVs h v d->v.length=d.length
 |_,_,.nil=>rfl
 |_,_,.cons _ t=>by simp[HVs.length t]
end
section
variable{prog:Program} {w:World}
def PH (prog:Program)(w:World)(h:Heap)(v:Value)(d:D):Prop:=∀(A:Around) (E:C8) (s:Shared) (Q:Int->Shared->Prop),s.heap=h->A.units+8*E6 d<cLine->(∀tk,s.toks<=tk->Q (o7 d) {s with toks:=tk})->wpAny (model prog w) A (pyHash v) Q E s
mutual
theorem TY:∀{v:Value} {d:D},HV h v d->PH prog w h v d
 |_,_,.int i t=>λA E s Q hs hu q=>by exact(intKind prog w).pyHash (k:=i) (intKind_is _ _ _ _) (q _<|Nat.le_succ _)
 |_,_,.tup (a:=a) (items:=items) (ds:=ds) p r=>λA E s Q hs hu q=>by
  have fs:=NI r;subst hs;obtain⟨o,ho,hc,n,hd⟩:=p;have hT:s.TypeIs (.ref a) "tuple":=⟨o,ho,hc⟩;have vh:A.units<cLine:=by lia
  rw[E6]at hu;unfold pyHash;first|unfold pyHashByItsType|skip
  first|refine aAa (wpAny_cRoomFor_or (.inr vh) ?_)|skip
  refine aAa (aBp hT PySem.F.slot_tuple_hash.lookup ?_);show wpAny _ _ (if(some (aGg "tuple.__hash__")==some Value.none)=true then _ else _) Q E s;rw[if_neg (by rw[aFp];exact aBg)];refine aAa (aBp hT PySem.F.slot_tuple_hash.lookup ?_);show wpAny _ _ (callSpecialIfBoundUnlessNone? (.ref a) "__hash__" _>>=_) Q E s;refine aAa (aDi hT PySem.F.slot_tuple_hash<|aBf PySem.F.slot_tuple_hash hT PySem.F.entry_tuple_hash ?_ (PySem.F.args_tuple_hash_1 _));show wpAny _ _ (aDt (.ref a)>>=_) _ _ s;refine aAa (wpAny_tupleItemsOf ho hd ?_);refine aAa ?_;rw[<-aCo];refine aCp _
   (λrest (b:Array Int) s'=>∃done left tk,ds=done++left/\Paired (PH prog w s.heap) rest left/\b.toList=done.map o7/\s.toks<=tk/\s'={s with toks:=tk})
   _ ?_ ?_ _ _ ⟨[],ds,s.toks,rfl,fs,rfl,aAh _,rfl⟩
  ·rintro x rest b s' ⟨done,left,tk,e1,hl,hb,vm,rfl⟩;cases hl with
   |@cons _ d _ left' h1 ie=>
    refine aAa (h1 _ _ _ _ rfl ?_ λxu htk'=>?_)
    ·have:E6 d<=J7 ds:=by rw[e1];exact tY (j:=done.length) (by simp)
     rw[v7];lia
    first
     |exact aAb ⟨done++[d],left',xu,by simp[e1],ie,by simp[hb],by(have:tk<=xu:=htk');lia,rfl⟩
     |exact aAa (aAb (aAb ⟨done++[d],left',xu,by simp[e1],ie,by simp[hb],by(have:tk<=xu:=htk';lia),rfl⟩))
  ·rintro b s' ⟨done,left,tk,e1,hl,hb,vm,rfl⟩;cases hl;rw[aCB]at e1;subst e1;show wpAny _ _ (retInt<|aAI b.toList) _ _ _;rw[hb];refine wpAny_ret_mkInt ?_;show wpAny _ _ (if(decide (-(2:Int)^63<=aAI (ds.map o7))&&decide (aAI (ds.map o7)<2^63))=true then _ else _) Q E _;have q':=q (tk+1) (by lia);rw[o7,fZ]at q';unfold reduceHash at q';by_cases hr:(decide (-(2:Int)^63<=aAI (ds.map o7))&&decide (aAI (ds.map o7)<2^63))=true
   ·rw[if_pos hr];rw[if_pos hr]at q';exact aAb q'
   ·rw[if_neg hr];rw[if_neg hr]at q';exact aAa (aDq<|aAb q')
theorem NI:∀{v:List Value} {d:List D},HVs h v d->Paired (PH prog w h) v d
 |_,_,.nil=>.nil
 |_,_,.cons r t=>.cons (TY r) (NI t)
end
mutual
theorem DE:∀{v u:Value} {d e:D} {A:Around},HV s.heap v d->HV s.heap u e->A.units+E6 d<cLine->SeqAt.EqAt A s v u (w6 d e)
 |_,_,_,_,A,.int i t,.int j t',_=>by simp only[w6];exact aEL _ _ _ _
 |_,_,_,_,A,.int i t,.tup p r,hu=>by simp only[w6];exact aFL _ _ p (by lia)
 |_,_,_,_,A,.tup p r,.int j t',hu=>by simp only[w6];exact aFM _ _ p (by lia)
 |_,_,_,_,A,.tup (a:=a) (ds:=ds) p r,.tup (a:=a') (ds:=bh) p' r',hu=>by
  by_cases e:a=a'
  ·subst e;have:=HV.inj (.tup p r) (.tup p' r');rw[this,V0];exact aDN _
  ·simp only[w6];rw[E6]at hu;exact aEM e (jP (by simpa using p) (by simpa using p') r.length r'.length (by lia) (NU r r' (by rw[v7];lia))).1
theorem NU:∀{vs us:List Value} {ds es:List D} {A:Around},HVs s.heap vs ds->HVs s.heap us es->A.in1.units+J7 ds<cLine->mE A s vs us ds es
 |_,_,_,_,A,.nil,_,_=>λj u w h1 h2=>by simp at h1
 |_,_,_,_,A,.cons r t,.nil,_=>λj u w h1 h2=>by simp at h2
 |_,_,_,_,A,.cons (d:=d) (ds:=ds) r t,.cons (d:=d') (ds:=bh) r' t',hu=>λj u w h1 h2=>by
  rw[J7]at hu;match j,h1,h2 with
  |0,h1,h2=>simp only[aCU,aGn]at h1 h2;subst h1 h2;exact DE r r' (by lia)
  |j+1,h1,h2=>simp only[aCV]at h1 h2;exact NU t t' (by lia) j u w h1 h2
end
mutual
theorem gR:∀{d e:D},qI d=true->qI e=true->w6 d e=true->d=e
 |.int i,.int j,_,_,h=>by simp[w6]at h;rw[h]
 |.tup xs,.tup ys,h1,h2,h=>by rw[qI]at h1 h2;rw[w6]at h;rw[vX h1 h2 h]
 |.int _,.tup _,_,_,h=>by simp[w6]at h
 |.tup _,.int _,_,_,h=>by simp[w6]at h
 |.non,_,h,_,_=>by simp[qI]at h
 |.bl _,_,h,_,_=>by simp[qI]at h
 |.str _,_,h,_,_=>by simp[qI]at h
 |.lst _,_,h,_,_=>by simp[qI]at h
 |_,.non,_,h,_=>by simp[qI]at h
 |_,.bl _,_,h,_=>by simp[qI]at h
 |_,.str _,_,h,_=>by simp[qI]at h
 |_,.lst _,_,h,_=>by simp[qI]at h
theorem vX:∀{d e:List D},fO d=true->fO e=true->X0 d e=true->d=e
 |[],[],_,_,_=>rfl
 |[],_::_,_,_,h=>by simp[X0]at h
 |_::_,[],_,_,h=>by simp[X0]at h
 |x::xs,y::ys,h1,h2,h=>by rw[fO,aAK]at h1 h2;rw[X0,aAK]at h;rw[gR h1.1 h2.1 h.1,vX h1.2 h2.2 h.2]
end
mutual
theorem HV.ok:∀{v:Value} {d:D},HV h v d->qI d=true
 |_,_,.int i t=>rfl
 |_,_,.tup p r=>by rw[qI];exact HVs.ok r
theorem HVs.ok:∀{v:List Value} {d:List D},HVs h v d->fO d=true
 |_,_,.nil=>rfl
 |_,_,.cons r t=>by rw[fO,HV.ok r,HVs.ok t];rfl
end
mutual
theorem gT:∀{v:Value} {d:D} (k:Nat),HV h v d->E6 d<k->∀(M:Model) (A:Around) (E:C8) (s:Shared) (Q:yH),s.heap=h->Q true s->wpAny M A (eqIsQuiet k v) Q E s
 |_,_,k,.int i t,_=>λM A E s Q hs q=>by unfold eqIsQuiet;exact aAb q
 |_,_,k,.tup (a:=a) (items:=items) (ds:=ds) p r,hk=>λM A E s Q hs q=>by
  subst hs;obtain⟨o,ho,hc,n,hd⟩:=p;have hT:s.TypeIs (.ref a) "tuple":=⟨o,ho,hc⟩;match k,hk with
  |k+1,hk=>
   rw[E6]at hk;unfold eqIsQuiet;refine aAa (aBp hT PySem.F.slot_tuple_eq.lookup ?_);show wpAny _ _ (isInstance (.ref a) (.type "tuple")>>=_) _ _ s;refine aAa (aCY hT isSubtype_tuple_tuple ?_);simp only[aCW,aAt,if_false];refine aAa (aBL ho hd ?_);refine aAa ?_;show wpAny _ _ (forIn items _ _) _ _ s;rw[<-aCo];refine aCp _ (λrest r s'=>r.1=none/\s'=s/\∃bh,HVs s.heap rest bh/\J7 bh<k) _ ?_ ?_ _ _ ⟨rfl,rfl,ds,r,by lia⟩
   ·rintro v rest r s' ⟨hr,rfl,bh,hv,hdp⟩;cases hv with
    |@cons _ d _ ou hv ht=>rw[J7]at hdp;refine aAa (gT k hv (by lia) M A E s' _ rfl ?_);simp only[aCW,aAt,if_false];exact aAb ⟨rfl,rfl,ou,ht,by lia⟩
   ·rintro⟨r1,r2⟩ s' ⟨hr,rfl,_⟩;simp only at hr;subst hr;exact aAb q
end
mutual
theorem fS:∀{v:Value} {d:D} (k:Nat),HV h v d->E6 d<k->∀(M:Model) (A:Around) (E:C8) (s:Shared) (Q:yH),s.heap=h->Q false s->wpAny M A (ofAClassStatement k v) Q E s
 |_,_,k,.int i t,_=>λM A E s Q hs q=>by unfold ofAClassStatement;exact aAb q
 |_,_,k,.tup (a:=a) (items:=items) (ds:=ds) p r,hk=>λM A E s Q hs q=>by
  subst hs;obtain⟨o,ho,hc,n,hd⟩:=p;have hT:s.TypeIs (.ref a) "tuple":=⟨o,ho,hc⟩;match k,hk with
  |k+1,hk=>
   rw[E6]at hk;unfold ofAClassStatement;refine aAa (aDH hT ?_);dsimp only;rw[if_pos (by decide)];refine aAa (aAb ?_);simp only[aCW,aAt,if_false];refine aAa (aBL ho hd ?_);dsimp only;refine aAa ?_;show wpAny _ _ (forIn items _ _) _ _ s;rw[<-aCo];refine aCp _ (λrest r s'=>r.1=none/\s'=s/\∃bh,HVs s.heap rest bh/\J7 bh<k) _ ?_ ?_ _ _ ⟨rfl,rfl,ds,r,by lia⟩
   ·rintro v rest r s' ⟨hr,rfl,bh,hv,hdp⟩;cases hv with
    |@cons _ d _ ou hv ht=>rw[J7]at hdp;refine aAa (fS k hv (by lia) M A E s' _ rfl ?_);simp only[aAt,if_false];exact aAb ⟨rfl,rfl,ou,ht,by lia⟩
   ·rintro⟨r1,r2⟩ s' ⟨hr,rfl,_⟩;simp only at hr;subst hr;exact aAb q
end
mutual
theorem oM:∀{v:Value} {d:D} (k:Nat),HV h v d->E6 d<k->∀(M:Model) (A:Around) (E:C8) (s:Shared) (Q:yH),s.heap=h->Q true s->wpAny M A (hashByValue k v) Q E s
 |_,_,k,.int i t,_=>λM A E s Q hs q=>by unfold hashByValue;exact aAb q
 |_,_,k,.tup (a:=a) (items:=items) (ds:=ds) p r,hk=>λM A E s Q hs q=>by
  subst hs;obtain⟨o,ho,hc,n,hd⟩:=p;have hT:s.TypeIs (.ref a) "tuple":=⟨o,ho,hc⟩;match k,hk with
  |k+1,hk=>
   rw[E6]at hk;unfold hashByValue;refine aAa (aBp hT PySem.F.slot_tuple_hash.lookup ?_);dsimp only;refine aAa (aBL ho hd ?_);refine aAa ?_;show wpAny _ _ (forIn items _ _) _ _ s;rw[<-aCo];refine aCp _ (λrest r s'=>r.1=none/\s'=s/\∃bh,HVs s.heap rest bh/\J7 bh<k) _ ?_ ?_ _ _ ⟨rfl,rfl,ds,r,by lia⟩
   ·rintro v rest r s' ⟨hr,rfl,bh,hv,hdp⟩;cases hv with
    |@cons _ d _ ou hv ht=>rw[J7]at hdp;refine aAa (oM k hv (by lia) M A E s' _ rfl ?_);simp only[aCW,aAt,if_false];exact aAb ⟨rfl,rfl,ou,ht,by lia⟩
   ·rintro⟨r1,r2⟩ s' ⟨hr,rfl,_⟩;simp only at hr;subst hr;exact aAb q
end
def jE {α:Type}{M:Model}{A:Around}{E:C8}{s:Shared}{Q:α->Shared->Prop}{c:Prop}[Decidable c]{a b:Sem α}(h1:c->wpAny M A a Q E s)(h2:¬c->wpAny M A b Q E s):wpAny M A (if c then a else b) Q E s:=by
 by_cases h:c
 ·rw[if_pos h];exact h1 h
 ·rw[if_neg h];exact h2 h
def VE {M:Model}{A:Around}{E:C8}{s:Shared}{Q:yH}{x:Value}{d:D}(hx:HV s.heap x d)(hd:E6 d<8)(ys:List Value)(hy:∀y∈ys,∃e,HV s.heap y e/\E6 e<8)(q:Q false s):wpAny M A (searchCouldBeSeen x ys) Q E s:=by
 unfold searchCouldBeSeen;refine aAa ?_;refine aCp _ (λrest r s'=>r.1=none/\s'=s/\∀y∈rest,y∈ys) _ ?_ ?_ _ _ ⟨rfl,rfl,λy h=>h⟩
 ·rintro y rest r s' ⟨hr,rfl,hm⟩;obtain⟨e,he,hde⟩:=hy y (hm y (by simp));dsimp only;refine jE (λ_=>?_) (λ_=>?_)
  ·exact aAb ⟨rfl,rfl,λz hz=>hm z (aAe _ hz)⟩
  ·refine aAa (gT 8 hx hd M A E s' _ rfl ?_);simp only[aCW,aAt,if_false];refine aAa (gT 8 he hde M A E s' _ rfl ?_);simp only[aCW,aAt,if_false];refine aAa (fS 8 hx hd M A E s' _ rfl ?_);simp only[aAt,if_false];refine aAa (fS 8 he hde M A E s' _ rfl ?_);simp only[aAt,if_false];exact aAb ⟨rfl,rfl,λz hz=>hm z (aAe _ hz)⟩
 ·rintro⟨r1,r2⟩ s' ⟨hr,rfl,_⟩;simp only at hr;subst hr;exact aAb q
end
end DL
namespace DL
open PySem PySem.Spec L2
open PyProof.Rows hiding St
variable [Tabs]
def EV (h:Heap)(e:Int×Value)(d:D):Prop:=HV h e.2 d/\e.1=o7 d
theorem F5 {α β:Type}{F:α->β->Prop}:∀{l:List α} {m:List β} {i:Nat} {a:α},Paired F l m->l[i]?=some a->∃b,m[i]?=some b/\F a b
 |_,_,_,_,.nil,h=>by simp at h
 |_,_,0,_,.cons r _,h=>by simp at h;subst h;exact⟨_,rfl,r⟩
 |_,_,i+1,a,.cons _ t,h=>by obtain⟨b,h1,h2⟩:=F5 (i:=i) t (by simpa using h);exact⟨b,by simpa using h1,h2⟩
theorem cO {α β:Type}{F:α->β->Prop}:∀{l:List α} {m:List β} {i:Nat} {b:β},Paired F l m->m[i]?=some b->∃a,l[i]?=some a/\F a b
 |_,_,_,_,.nil,h=>by simp at h
 |_,_,0,_,.cons r _,h=>by simp at h;subst h;exact⟨_,rfl,r⟩
 |_,_,i+1,a,.cons _ t,h=>by obtain⟨b,h1,h2⟩:=cO (i:=i) t (by simpa using h);exact⟨b,by simpa using h1,h2⟩
theorem fX {α β:Type}{F:α->β->Prop}:∀{l:List α} {m:List β},Paired F l m->l.length=m.length
 |_,_,.nil=>rfl
 |_,_,.cons _ t=>by simp[fX t]
section
variable{es:Array (Int×Value)}
def gU (K:ST.SOk t es.toList):t.fits es.size=true:=by
 have h1:=K.len;have h2:=K.room;have h3:=K.tab.nod;unfold aGh SetTable.fill;rw[h3];simp at h1⊢
 lia
theorem lI (ho:s.heap.get? S=some o)(hd:o.data=.set es ep t)(K:ST.SOk t es.toList)(hodd:t.mask%2=1)(P:Paired (EV s.heap) es.toList ds)(hx:HV s.heap (.ref x) (.tup xs))(hdx:E6 (.tup xs)<8)(xn:∀e∈ds,E6 e<8)(hT:∀e∈ds,∃ys,e=.tup ys)
  (hu:A.units+16<cLine) (hf:ST.U0 t (o7 (.tup xs)) n0) {Q:SetFound->Shared->Prop} (q1:D.tup xs∈ds->Q (.there none) s) (q2:D.tup xs∉ds->Q (.free (ST.o5 t.mask (o7 (.tup xs)) n0).j false) s):
  ∀(fuel n:Nat) (qo:Option SetTable.Probe),qo.getD (t.probeStart (o7 (.tup xs)))=ST.o5 t.mask (o7 (.tup xs)) n->n<=n0->n0-n<fuel->
   (∀m<n,∀(i:Nat),t.place[i]?=some (ST.o5 t.mask (o7 (.tup xs)) m).j->ds[i]?≠some (.tup xs))->wpAny (model prog w) A (setSearchFrom S (.ref x) (o7 (.tup xs)) true fuel qo) Q E s
 |0,n,qo,_,_,h,_=>by lia
 |fuel+1,n,qo,jg,hn,hfu,hno=>by
  unfold setSearchFrom;refine aAa (aCe ho hd (gU K) ?_);dsimp only;refine jE (λz=>?_) (λ_=>?_)
  ·unfold SetTable.gaveWay at z;simp at z;lia
  rw[jg];obtain⟨n',a1,a2,a3,a4⟩:=ST.KJ K.tab (λi=>(es[i]?.map (·.1)).getD 0) (o7<|.tup xs) hf n hn;generalize hg:t.probe _ (o7<|.tup xs) (ST.o5 t.mask (o7<|.tup xs) n)=pm;rcases a4 with⟨en,e⟩|⟨ar,i,hi,hh,e⟩
  ·have ep:pm=_:=hg.symm.trans e;rw[ep];dsimp only;refine aAb (q2 λhm=>?_);obtain⟨i,hi⟩:=aBR.mp hm;obtain⟨⟨hv,v⟩,he,h1,h2⟩:=cO P hi;obtain⟨j,hj,qe⟩:=ST.PP K.len he;dsimp only at h2;have hr:=K.reach _ qe;dsimp only at hr;rw[h2]at hr;obtain⟨m,hm,em⟩:=ST.Reach.before hf (by rw[<-aAB]at hj;exact aAl hj) hr;by_cases z:m<n
   ·exact hno m z i (by rw[em];exact hj) hi
   ·obtain⟨i',fo,af⟩:=a3 m (by lia) (by lia);have:i'=i:=by have q1:=ST.K8 K.tab fo;have q2:=ST.K8 K.tab hj;rw[em]at q1;rw[q1]at q2;injection q2
    subst this;refine af ?_;show(es[i']?.map (·.1)).getD 0=_;rw[<-aAB,he];exact h2
  ·have ep:pm=_:=hg.symm.trans e;rw[ep];dsimp only;have hidx:i<es.size:=by
    have:=(aCd.mp hi).1;have h1:=K.len;simp at h1
    lia
   have hes:es[i]?=some es[i]:=aAw hidx;obtain⟨di,hdi,hv,hhash⟩:=F5 P (show es.toList[i]?=some es[i]by rw[aAB];exact hes);obtain⟨ys,rfl⟩:=hT di (aAl hdi);have go:wpAny (model prog w) A (do
     let some (_,y):=es[i]?|unsupported "internal:set-entry"
     let equal<-holding [y] (eqBool y<|.ref x)
     let(es',_,t')<-setState S
     if true&&equal then return .there none
     let some same:=t'.sameMemory t.moves t.mask|unsupported "set.changed-during-lookup:is-the-new-block-at-the-old-address"
     let TU<-match(if same then t'.slot (ST.o5 t.mask (o7<|.tup xs) n').j else .empty)with
      |.live i'=>match es'[i']? with
       |some (_,y')=>do pure (if<-isSame y' y then some i' else none)
       |none=>pure none
      |_=>pure none
     match TU with
     |none=>rule "set.search.anew";setSearchFrom S (.ref x) (o7<|.tup xs) true fuel none
     |some i'=>if equal then return .there (some i')else setSearchFrom S (.ref x) (o7<|.tup xs) true fuel (some<|ST.o5 t.mask (o7<|.tup xs)<|n'+1)) Q E s:=by
    rw[hes];generalize he:es[i]=en at*
    obtain⟨hn,y⟩:=en;dsimp only at hv hhash⊢;refine aAa (aAJ (DE hv hx (by have:=xn _ (aAl hdi);lia) prog w E _ ?_));refine aAa (aCe ho hd (gU K) ?_);dsimp only;cases hq:w6 (.tup ys) (.tup xs)with
    |true=>rw[if_pos (show(true&&true)=true from rfl)];have:D.tup ys=.tup xs:=gR hv.ok hx.ok hq;rw[this]at hdi;exact aAb (q1<|aAl hdi)
    |false=>
     rw[if_neg (by simp)];have hsm:t.sameMemory t.moves t.mask=some true:=by unfold SetTable.sameMemory;rw[if_pos (by simp)]
     rw[hsm];dsimp only;rw[if_pos rfl,ST.K8 K.tab hi];dsimp only;rw[hes];dsimp only;cases hv with
     |tup p r=>
      refine aAa (wpAny_isSame_ref_self ?_);refine aAa (aAb ?_);rw[if_pos rfl];dsimp only;rw[if_neg (by simp)];refine lI ho hd K hodd P hx hdx xn hT hu hf q1 q2 fuel (n'+1) _ rfl (by lia) (by lia) λm hm i2 ue hz=>?_;by_cases z:m<n
      ·exact hno m z i2 ue hz
      ·by_cases z2:m=n'
       ·subst z2;have:i2=i:=by have q1:=ST.K8 K.tab ue;have q2:=ST.K8 K.tab hi;rw[q1]at q2;injection q2
        subst this;rw[hdi]at hz;have:D.tup ys=.tup xs:=aAj hz;rw[this,V0]at hq;cases hq
       ·obtain⟨i',fo,af⟩:=a3 m (by lia) (by lia);have:i'=i2:=by have q1:=ST.K8 K.tab fo;have q2:=ST.K8 K.tab ue;rw[q1]at q2;injection q2
        subst this;obtain⟨⟨h0,v0⟩,he0,hv0,hh0⟩:=cO P hz;refine af ?_;show(es[i']?.map (·.1)).getD 0=_;rw[<-aAB,he0];exact hh0
   refine jE (λ_=>?_) (λ_=>go);refine aAa (VE hx hdx _ (λy hy=>?_) ?_)
   ·obtain⟨e',xt,rfl⟩:=aAo.mp hy;rw[Array.toList_filter]at xt;have hm:=(aCz.mp xt).1;obtain⟨k,hk⟩:=aBR.mp hm;obtain⟨dk,hdk,hvk,_⟩:=F5 P hk;exact⟨dk,hvk,xn _ (aAl hdk)⟩
   ·rw[if_neg (by simp)];exact go
def tQ (m n:Nat):Prop:=(m=7/\n<=4)\/(m=31/\n<=18)\/(m=127/\n<=76)
def tQ.odd (h:tQ m n):m%2=1:=by rcases h with⟨rfl,_⟩|⟨rfl,_⟩|⟨rfl,_⟩<;>rfl
def Keeps (h0 h:Heap):Prop:=∀b o,h0.get? b=some o->h.get? b=some o
structure SetAt (L:Bool)(h0 h:Heap)(S:Addr)(ds:List D):Prop where
 ex:∃(o:Obj) (es:Array (Int×Value)) (ep:Nat) (t:SetTable),h.get? S=some o/\o.cls=.type "set"/\o.dict=none/\o.slots=#[]/\o.data=.set es ep t/\ST.SOk t es.toList/\tQ t.mask es.size/\Paired (EV h0) es.toList ds/\t.led=L/\t.plain=true
 nd:ds.Nodup
def dG {α β:Type}{F:α->β->Prop}:∀{l l':List α} {m:List β},l'.Perm l->Paired F l m->∃m',m'.Perm m/\Paired F l' m':=λ{l l' m} p=>by
 induction p generalizing m with
 |nil=>intro h;exact⟨m,.refl _,h⟩
 |cons x _ ih=>
  intro h;cases h with
  |cons r t=>obtain⟨m',p',q'⟩:=ih t;exact⟨_::m',p'.cons _,.cons r q'⟩
 |swap x y l=>
  intro h;cases h with
  |cons r t=>
   cases t with
   |cons r' t'=>exact⟨_,.swap _ _ _,.cons r' (.cons r t')⟩
 |trans _ _ ih1 ih2=>intro h;obtain⟨m1,p1,q1⟩:=ih2 h;obtain⟨m2,p2,q2⟩:=ih1 q1;exact⟨m2,p2.trans p1,q2⟩
theorem dJ {α β:Type}{F G:α->β->Prop}(i:∀a b,F a b->G a b):∀{l:List α} {m:List β},Paired F l m->Paired G l m
 |_,_,.nil=>.nil
 |_,_,.cons r t=>.cons (i _ _ r) (dJ i t)
theorem mZ {α β:Type}{F:α->β->Prop}{a:α}{b:β}(r:F a b):∀{l:List α} {m:List β} (p:Nat),Paired F l m->Paired F (l.take p++a::l.drop p) (m.take p++b::m.drop p)
 |_,_,0,h=>.cons r h
 |_,_,p+1,.nil=>.cons r .nil
 |_,_,p+1,.cons r' t=>.cons r' (mZ r p t)
def LP {α:Type}(a:α)(l:List α)(p:Nat):(l.take p++a::l.drop p).Perm (a::l):=by have h:=List.perm_middle (a:=a) (l₁:=l.take p) (l₂:=l.drop p);rw[aFC]at h;exact h
def wY {α β:Type}{M:Model}{Q:α->Shared->Prop}{c:Prop}[Decidable c]{a:Sem β}{k:β->Sem α}(b:β)(h1:∀Q':β->Shared->Prop,Q' b s->wpAny M A a Q' E s)(h:wpAny M A (k b) Q E s):wpAny M A (if c then a>>=k else pure b>>=k) Q E s:=
 jE (λ_=>aAa (h1 _ h)) (λ_=>aAa (aAb h))
def lH (h:Heap)(S:Addr)(f:Obj->Obj):Heap.SameBut S h (h.update S f):=⟨by simp[Heap.size_update],λb hb=>aAC _ _ (aCb hb)⟩
def qR {h:Heap}{S:Addr}{o:Obj}{es es':Array (Int×Value)}{ep:Nat}{t t':SetTable}(ho:h.get? S=some o)(hd:o.data=.set es ep t):(h.update S (aEr es' t')).get? S=some {o with data:=.set es' (ep+1) t'}:=by
 have e:aEr es' t' o={o with data:=.set es' (ep+1) t'}:=by obtain⟨c,d,dt,sl⟩:=o;cases dt<;>simp at hd;obtain⟨rfl,rfl,rfl⟩:=hd;rfl
 rw[aAY _ ho (by rw[e];rfl),e]
def VV {L:Bool}{h0:Heap}{Q:yH}(hS:SetAt L h0 s.heap S ds)(kp:Keeps h0 s.heap)(hx0:HV h0 (.ref x) (.tup xs))(hdx:E6 (.tup xs)<8)(xn:∀e∈ds,E6 e<8)(hT:∀e∈ds,∃ys,e=.tup ys)(hu:A.units+128<cLine)(hn:ds.length<76)
  (q1:D.tup xs∈ds->∀tk,s.toks<=tk->Q false {s with toks:=tk})
  (q2:D.tup xs∉ds->∀h' tk bh,s.toks<=tk->Heap.SameBut S s.heap h'->SetAt L h0 h' S bh->bh.Perm (.tup xs::ds)->Q true {s with heap:=h',toks:=tk}):wpAny (model prog w) A (setAdd S (.ref x)) Q E s:=by
 obtain⟨⟨o,es,ep,t,ho,hc,zb,hsl,hd,K,mk,P0,lp0⟩,nd⟩:=hS;have hx:HV s.heap (.ref x) (.tup xs):=hx0.keeps λb o e _=>kp b o e;have P:Paired (EV s.heap) es.toList ds:=dJ (λe d r=>⟨r.1.keeps λb o e _=>kp b o e,r.2⟩) P0;have hsz:es.size=ds.length:=by have:=fX P;simpa using this
 unfold setAdd;refine aAJ (aAa (TY hx A E s _ rfl (by lia) λtk vm=>?_));unfold setAddHashed setAddHashedIn;refine aAJ (aAa<|aCe (s:={s with toks:=tk}) ho hd (gU K) ?_);dsimp only;rw[show byScan (.ref x) es=false from rfl];simp only[aAt,if_false];obtain⟨n0,hf⟩:=ST.BY K.full K.room (o7<|.tup xs);refine aAa (lI (s:={s with toks:=tk}) (n0:=n0) ho hd K mk.odd P hx hdx xn hT (by lia) hf (λhm=>?_) (λhm=>?_) 100000 0 none rfl (aBc _) ?_ (λm hm=>by lia))
 ·dsimp only;exact aAb (q1 hm tk vm)
 ·dsimp only;refine aAa (aCe (s:={s with toks:=tk}) ho hd (gU K) ?_);dsimp only;refine wY true (λQ' q=>oM 8 hx hdx _ _ _ _ _ rfl q) ?_;rw[if_pos rfl];have oa:t.place.size+1<=t.mask:=by have:=K.len;simp at this;rcases mk with⟨m1,m2⟩|⟨m1,m2⟩|⟨m1,m2⟩<;>lia
  have K2:=ST.WQ K (x:=.ref x) hf oa;have el:=ST.fM es (t.put (ST.o5 t.mask (o7<|.tup xs) n0).j).2 (o7 (.tup xs),aDj x);have lp:(t.put (ST.o5 t.mask (o7<|.tup xs) n0).j).1.led=L/\(t.put (ST.o5 t.mask (o7<|.tup xs) n0).j).1.plain=true:=lp0;have em:(t.put (ST.o5 t.mask (o7<|.tup xs) n0).j).1.mask=t.mask:=rfl;rw[<-el]at K2;have P2:Paired (EV h0) (aGr es (t.put (ST.o5 t.mask (o7<|.tup xs) n0).j).2 (o7 (.tup xs),aDj x)).toList (ds.take (t.put (ST.o5 t.mask (o7<|.tup xs) n0).j).2++.tup xs::ds.drop (t.put (ST.o5 t.mask (o7<|.tup xs) n0).j).2):=by rw[el];exact mZ ⟨hx0,rfl⟩ _ P0
  have pm:=LP (D.tup xs) ds (t.put (ST.o5 t.mask (o7<|.tup xs) n0).j).2;generalize hds2:ds.take (t.put (ST.o5 t.mask (o7<|.tup xs) n0).j).2++.tup xs::ds.drop (t.put (ST.o5 t.mask (o7<|.tup xs) n0).j).2=ou at P2 pm;generalize hes2:aGr es (t.put (ST.o5 t.mask (o7<|.tup xs) n0).j).2 (o7 (.tup xs),aDj x)=pf at K2 P2⊢;generalize ht2:(t.put (ST.o5 t.mask (o7<|.tup xs) n0).j).1=t2 at K2 em lp⊢;have rh:ou.Nodup:=pm.nodup_iff.mpr (aAG.mpr ⟨hm,nd⟩);have sz2:pf.size=es.size+1:=by
   have h1:=fX P2;have h2:=pm.length_eq;simp at h1 h2
   lia
  have fm:pf.size<=sizeLine:=by rw[sz2,aFg];lia
  refine aAa (wpAny_storeSet_of (s:={s with toks:=tk}) ho hd ?_ fm);have jv:=qR (es':=pf) (t':=t2) ho hd;have sb2:=lH s.heap S (aEr pf t2);have hfill:t2.fill=pf.size:=by have h1:=K2.len;have h2:=K2.tab.nod;unfold SetTable.fill;rw[h2];simp at h1⊢;lia
  refine jE (λvo=>?_) (λvo=>?_)
  ·
   have qf:t2.fill*5>=t2.mask*3:=by
    have:t2.tooFull=true:=by simpa using vo
    simpa[aGx]using this
   rw[hfill,em,sz2]at qf;obtain⟨M,hM,hM1,hM2⟩:∃M,SetTable.sizeAbove (SetTable.grown<|es.size+1)=M+1/\ST.lX (M+1)/\tQ M (es.size+1):=by
    rcases mk with⟨m1,m2⟩|⟨m1,m2⟩|⟨m1,m2⟩
    ·have:es.size=4:=by lia
     rw[this];exact⟨31,by decide,ST.XR,.inr (.inl ⟨rfl,by lia⟩)⟩
    ·have:es.size=18:=by lia
     rw[this];exact⟨127,by decide,ST.PR,.inr (.inr ⟨rfl,by lia⟩)⟩
    ·lia
   unfold setRelay;refine aAa (aAa<|aCe (s:={s with heap:=s.heap.update S (aEr pf t2),toks:=tk}) jv rfl (gU K2) ?_);dsimp only;rw[hM];refine jE (λz=>?_) (λ_=>?_)
   ·exfalso;rcases hM2 with⟨m1,_⟩|⟨m1,_⟩|⟨m1,_⟩<;>(subst m1;exact absurd z (by rw[aFg];decide))
   obtain⟨t3,order,r1,r2,r3,r4,r5,r6,r7,r8,r9⟩:=ST.JD (finger:=t2.finger) (moves:=t2.movedTo M) (led:=t2.led) (plain:=t2.plain) hM1 pf (by rw[sz2];rcases hM2 with⟨m1,m2⟩|⟨m1,m2⟩|⟨m1,m2⟩<;>lia);have er:t2.relaid (pf.map (·.1)) (SetTable.grown<|es.size+1)=some (t3,order):=by unfold SetTable.relaid;rw[hM];exact r1
   rw[er];have hre:∀{Q':Array (Int×Value)×SetTable->Shared->Prop} {s':Shared},Q' (order.filterMap (pf[·]?),t3) s'->wpAny (model prog w) A (do
     let es':=order.filterMap (pf[·]?)
     if es'.size !=pf.size then unsupported "internal:set-table-lost-an-element"
     pure (es',t3)) Q' E s':=λ{Q' s'} qq=>by
    dsimp only;rw[if_neg (by simp[r2])];exact aAb qq
   refine aAa (hre ?_);dsimp only;generalize hes3:order.filterMap (pf[·]?)=es3 at r2 r3 r4⊢;refine wpAny_storeSet_of (s:={s with heap:=s.heap.update S (aEr pf t2),toks:=tk}) jv rfl ?_ (by rw[r2];exact fm);refine aAb ?_;have ho3:=qR (es':=es3) (t':=t3) jv rfl;have sb3:=lH (s.heap.update S<|aEr pf t2) S (aEr es3 t3);obtain⟨ds3,p3,P5⟩:=dG r3 P2;exact q2 hm _ tk ds3 vm (sb2.trans sb3) ⟨⟨_,es3,_,t3,ho3,hc,zb,hsl,rfl,r4,by rw[r5,r2,sz2];exact hM2,P5,by rw[r7];exact lp.1,by rw[r8];exact lp.2⟩,p3.nodup_iff.mpr rh⟩ (p3.trans pm)
  ·refine aAb ?_;refine q2 hm _ tk ou vm sb2 ⟨⟨_,pf,_,t2,jv,hc,zb,hsl,rfl,K2,?_,P2,lp⟩,rh⟩ pm;have qf:¬t2.fill*5>=t2.mask*3:=λz=>vo (by simp[aGx,z]);rw[hfill,em,sz2]at qf;rw[em,sz2];rcases mk with⟨m1,m2⟩|⟨m1,m2⟩|⟨m1,m2⟩
   ·exact .inl ⟨m1,by lia⟩
   ·exact .inr (.inl ⟨m1,by lia⟩)
   ·exact .inr (.inr ⟨m1,by lia⟩)
 ·have:=hf.1;have hm:t.mask<=127:=by rcases mk with⟨m1,_⟩|⟨m1,_⟩|⟨m1,_⟩<;>lia
  lia
end
section
variable{prog:Program} {w:World} {A:Around} {R:Result->Shared->Prop} {I:Addr} {fp wr:List Addr} {G:Array GenState->Array GenState->Prop} {n:Nat} {P:Nat->Value->Prop} {St:Nat->Shared->Prop} {h0:Heap}
def XI (h0:Heap)(v:Value)(d:D):Prop:=∃a xs,v=.ref a/\d=.tup xs/\E6 d<8/\HV h0 v d
def OG {L:Bool}(W:WalksS prog w A.in1 I fp wr G n P St)(S:Addr)(pg:S∉fp)(hS0:h0.get? S=none)(hw0:∀b∈wr,h0.get? b=none)
  (val:Nat->D) (hval:∀i v,P i v->XI h0 v (val i)) (sr:∀i<n,E6 (val i)<8/\∃ys,val i=.tup ys) {U:List D} (hU:∀i<n,val i∈U) (hb:U.length<=75) (hu:A.units+200<cLine):
  ∀(k i:Nat) (s:Shared),n-i=k->i<=n->St i s->Keeps h0 s.heap->(∃ds,SetAt L h0 s.heap S ds/\∀d,d∈ds↔∃j<i,val j=d)->
   (∀s',Moved (S::wr) G s s'->(∃ds,SetAt L h0 s'.heap S ds/\∀d,d∈ds↔∃j<n,val j=d)->R (.ok (.ret .none)) s')->
   codeAny (model prog w) A (.builtin "set.update.loop" ⟨[.ref S,.ref I],[]⟩) R s:=by
 have hSw:S∉wr:=λh=>pg (W.sub _ h);have jn:∀b∈wr,b∈S::wr:=λb hb=>aAe _ hb;intro k;induction k with
 |zero=>
  intro i s hk hi jg hkp hS hR;have nc:i=n:=by omega
  subst nc;refine aBr F.entry_set_update_loop ?_;rw[aAX F.plain_set_update_loop _];show wpAny _ A.in1 (pyNext (.ref I)>>=_) _ _ s;refine aAa (W.done s _ _ jg λs' hm=>?_);show wpAny _ A.in1 (ret Value.none) _ _ s';refine aAb (hR s' (hm.mono jn) ?_);obtain⟨ds,⟨⟨o,es,ep,t,ho,r⟩,nd⟩,kg⟩:=hS;exact⟨ds,⟨⟨o,es,ep,t,hm.heap S _ hSw ho,r⟩,nd⟩,kg⟩
 |succ k ih=>
  intro i s hk hi jg hkp hS hR;have ar:i<n:=by omega
  refine aBr F.entry_set_update_loop ?_;rw[aAX F.plain_set_update_loop _];show wpAny _ A.in1 (pyNext (.ref I)>>=_) _ _ s;refine aAa (W.item i s _ _ ar jg λv s' hP kh hm=>?_);obtain⟨ds,⟨⟨o,es,ep,t,ho,r⟩,nd⟩,kg⟩:=hS;have jd:SetAt L h0 s'.heap S ds:=⟨⟨o,es,ep,t,hm.heap S _ hSw ho,r⟩,nd⟩;have kp':Keeps h0 s'.heap:=λb ob e=>hm.heap b ob (λz=>by rw[hw0 b z]at e;cases e) (hkp b ob e);obtain⟨a,xs,rfl,uc,hdp,hv⟩:=hval i v hP;rw[uc]at hdp hv;show wpAny _ A.in1 (holding [aDj a] (setAdd S<|.ref a)>>=_) _ _ s';have tups:∀e∈ds,E6 e<8/\∃ys,e=.tup ys:=λe he=>by obtain⟨j,hj,ej⟩:=(kg e).mp he;rw[<-ej];exact sr j (by omega)
  refine aAa (aAJ (VV jd kp' hv hdp (λe he=>(tups e he).1) (λe he=>(tups e he).2) (by rw[v7];omega) (by letI:DecidableEq D:=λa b=>aDQ _;have:=ST.P7 (m:=U) nd (λd hd=>by obtain⟨j,hj,e⟩:=(kg d).mp hd;rw[<-e];exact hU j (by omega));omega) (λnc tk vm=>?_)<|λhni h' tk bh vm hsb hS2 pm=>?_))
  ·
   refine aAb ⟨aBO F.plain_set_update_loop _,ih (i+1) _ (by omega) ar (W.frame _ s' _ _ kh vm λb hb o e=>e) kp' ⟨ds,jd,λd=>?_⟩ λs'' mh vp=>?_⟩
   ·rw[kg];constructor
    ·rintro⟨j,hj,e⟩;exact⟨j,by omega,e⟩
    ·rintro⟨j,hj,e⟩;by_cases z:j=i
     ·subst z;rw[uc]at e;rw[e]at nc;exact(kg d).mp nc
     ·exact⟨j,by omega,e⟩
   ·exact hR s'' (aFj W.gtrans ((hm.mono jn).then_heap vm λb o hb e=>e) mh) vp
  ·have hbS:∀b,b≠S->h'.get? b=s'.heap.get? b:=λb hb=>hsb.2 b hb;refine aAb ⟨aBO F.plain_set_update_loop _,ih (i+1) _ (by omega) ar (W.frame _ s' _ _ kh vm λb hb o e=>?_) (λb o e=>?_) ⟨bh,hS2,λd=>?_⟩ λs'' mh vp=>?_⟩
   ·rw[hbS b (λz:b=S=>pg (by rw[<-z];exact hb))];exact e
   ·show h'.get? b=some o;rw[hbS b (λz=>by subst z;rw[hS0]at e;cases e)];exact kp' b o e
   ·rw[pm.mem_iff,aAd,kg];constructor
    ·rintro(rfl|⟨j,hj,e⟩)
     ·exact⟨i,by omega,uc⟩
     ·exact⟨j,by omega,e⟩
    ·rintro⟨j,hj,e⟩;by_cases z:j=i
     ·subst z;rw[uc]at e;exact .inl e.symm
     ·exact .inr ⟨j,by omega,e⟩
   ·refine hR s'' (aFj W.gtrans ((hm.mono jn).then_heap vm λb o hb e=>?_) mh) vp;rw[hbS b (λz:b=S=>hb (by rw[z];exact aAL))];exact e
end
section
variable{prog:Program} {w:World} {A:Around} {E:C8} {s:Shared}
abbrev lQ (led:Bool):Obj:={cls:=.type "set",dict:=none,data:=.set #[] 0 (.fresh 0 0 led)}
def II (h0 h:Heap)(S:Addr)(led:Bool)(e:h.get? S=some (lQ led)):SetAt led h0 h S []:=by
 refine⟨⟨_,#[],0,.fresh 0 0 led,e,rfl,rfl,rfl,rfl,⟨⟨λi k hi=>?_,λj hj=>?_,rfl⟩,ST.fw,rfl,?_,λe he=>?_⟩,.inl ⟨rfl,aBc _⟩,.nil,rfl,rfl⟩,aDb⟩
 ·exact absurd hi (by show¬i<0;omega)
 ·exact absurd hj (by show¬j∈[];simp)
 ·show 0<=7;omega
 ·exact absurd he (by show¬e∈[];simp)
def vW (a:Value){Q₁:C8}(h:Q₁ (.ref s.heap.objs.size) {s with heap:=s.heap.push (lQ (!w.params.followText "set-order"))}):
  codeAny (model prog w) A (.call (.builtin "set.__new__") ⟨[.type "set",a],[]⟩) (wants Q₁ E) s:=by
 refine codeAny_of_tree ?_;show wpAny _ A.in1 (do checkBuiltinCall "set.__new__" ⟨[.type "set",a],[]⟩;again (.builtin "set.__new__" ⟨[.type "set",a],[]⟩)) _ _ s;refine aAa (aFZ (F.newCall_set_1 a)<|aAb ⟨aBO F.plain_set_new _,aBr F.entry_set_new ?_⟩);rw[aAX F.plain_set_new _];unfold Builtin.«set.__new__» Builtin.Frozenset.newClass;have jn:=sub_set_self;obtain⟨hp,g,d,tk,os⟩:=s;dsimp only
 wp_walk
 refine aFq (aAb ?_);dsimp only;simp only[newObj];exact aAa (wpAny_alloc<|aAb<|aAb h)
def yI {h0:Heap}(kp0:Keeps h0 s.heap){l:Addr}{its:Array Value}{val:Nat->D}{Q:C8}(hh:A.handled=none)(hl:s.heap.IsList l its)
  (hval:∀(i:Nat) (v:Value),its[i]?=some v->XI h0 v (val i)) (sr:∀i<its.size,E6 (val i)<8/\∃ys,val i=.tup ys) {U:List D} (hU:∀i<its.size,val i∈U) (hb:U.length<=75) (hu:A.units+300<cLine)
  (h:∀(h':Heap) (tk:Nat) (ds:List D),SetAt (!w.params.followText "set-order") h0 h' s.heap.objs.size ds->(∀d,d∈ds↔∃j<its.size,val j=d)->Keeps s.heap h'->Q (.ref s.heap.objs.size) {s with heap:=h',toks:=tk}):
  wpAny (model prog w) A (call (.type "set") [.ref l]) Q E s:=by
 obtain⟨c,tl,hmro⟩:=PySem.F.called_set.mro;have hmade:=PySem.F.called_set.made;have jn:=PySem.F.called_set.sub;refine wpAny_call (codeAny_of_tree ?_);show wpAny _ _ (callAny (.type "set") _) _ _ _;refine aAb ⟨Code.quiet_builtin _ (by decide+kernel),aBr PySem.F.entry_type_call ?_⟩;rw[Around.under_plain (weight_type_call_type "set" [.ref l] []) rfl];have h1:=PySem.F.called_set.notType;have h2:=PySem.F.called_set.canCreate;have hct:=PySem.F.typeCall_set_1 (.ref l);repeat(any_goals(first|assumption|wp_step))
 refine aDG (vW (.ref l) (E:=E) (Q₁:=λob ae=>∃led:Bool,led=!w.params.followText "set-order"/\ob=.ref s.heap.objs.size/\ae={s with heap:=s.heap.push (lQ led)}) ⟨_,rfl,rfl,rfl⟩) λr ae hr=>?_;cases r with
 |error e=>exact hr
 |ok fl=>
  cases fl with
  |next=>exact hr.elim
  |brk=>exact hr.elim
  |cont=>exact hr.elim
  |ret ob=>
   obtain⟨led,eL,rfl,rfl⟩:=hr;have hS:(s.heap.push<|lQ led).get? s.heap.objs.size=some (lQ led):=aAp _ rfl;have hT:Shared.TypeIs {s with heap:=s.heap.push (lQ led)} (.ref s.heap.objs.size) "set":=⟨_,hS,rfl⟩;have hli:=PySem.F.called_set.init.lookup;have hbi:=PySem.F.called_set.init.bind (.ref s.heap.objs.size);repeat(any_goals(first|assumption|wp_step))
   refine aDG (codeAny_call_builtin (R:=wants (λr gh=>r=.none/\∃h' tk ds,gh={s with heap:=h',toks:=tk}/\SetAt (!w.params.followText "set-order") h0 h' s.heap.objs.size ds/\(∀d,d∈ds↔∃j<its.size,val j=d)/\Keeps s.heap h') E) PySem.F.called_set.init.plain PySem.F.entry_set_init<|check_set_init_1 hT ?_) λr0 gh hr0=>?_
   ·obtain⟨ol,hol,xv,nl,hdl⟩:=hl;obtain⟨ocls,odict,odata,oslots⟩:=ol;simp only at xv hdl;subst xv;subst hdl;have hol':(s.heap.push<|lQ led).get? l=some {cls:=.type "list",dict:=odict,data:=.seq its nl,slots:=oslots}:=aAc _ hol;have hsls:=PySem.F.sub_list_set;have hslf:=PySem.F.sub_list_frozenset;have af:(aCm "list"==aCm "dict")=false:=by decide
    have og:(s.heap.push<|lQ led).IsList l its:=⟨_,hol',rfl,nl,rfl⟩;unfold Builtin.«set.__init__» noKeywords Builtin.Frozenset.updateFrom;generalize hPI:pyIter=PI
    wp_walk
    subst hPI;refine aDr og (aAa<|aFR ?_);have hlS:l<s.heap.objs.size:=aAf hol;have hh3:A.in1.in1.in1.handled=none:=by simp[hh]
    have hneI:l≠(s.heap.push<|lQ led).objs.size:=by rw[aBv];exact aAi (aBw hlS)
    have pg:s.heap.objs.size∉[(s.heap.push<|lQ led).objs.size,l]:=by rw[aBv];simp only[aAd,aAE,or_false,not_or];exact⟨aAi (aDD _),aCh hlS⟩
    have oh:∀b,s.heap.objs.size<=b->h0.get? b=none:=λb hb=>by
     cases e:h0.get? b with
     |none=>rfl
     |some o=>have:=kp0 b o e;rw[aEo hb]at this;cases this
    refine OG (h0:=h0) ((Walks.list hh3 _ l hneI its).toS) s.heap.objs.size pg (oh _<|aAh _) (λb hb=>?hw) val hval sr hU hb (by show A.units+1+1+200<cLine;omega) (its.size-0) 0 _ (by omega) (aBc _) ⟨⟨_,aAp _ rfl,rfl,rfl⟩,(og.push _)⟩ (λb o e=>aAc _ (aAc _<|kp0 b o e)) ⟨[],II _ _ _ led (aAc _ hS),λd=>?he⟩ ?hR
    case he=>exact⟨λz=>(by cases z),λ⟨j,hj,_⟩=>(by omega)⟩
    case hw=>
     have jb:b=(s.heap.push<|lQ led).objs.size:=by simpa using hb
     subst jb;rw[aBv];exact oh _ (Nat.le_succ _)
    case hR=>
     rintro⟨h',g',d',xu,os'⟩ hm ⟨ds,jd,qe⟩;have eg:g'=s.gens:=hm.gens;have ed:d'=s.drawn:=hm.drawn;have eo:os'=s.os:=hm.os;subst eg;subst ed;subst eo;refine aAb ?_;show wpAny _ _ (ret Value.none) _ _ _;refine aAb ⟨rfl,h',xu,ds,rfl,(eL▸jd),qe,λb o e=>?_⟩;have hb:=aAf e;have ya:b≠(s.heap.push<|lQ led).objs.size:=by rw[aBv];exact aAi (aBw hb)
     exact hm.heap b o (by simp only[aAd,aAE,or_false,not_or];exact⟨aAi hb,ya⟩) (aAc _<|aAc _ e)
   ·cases r0 with
    |error e=>exact hr0
    |ok fl0=>
     cases fl0 with
     |next=>exact hr0.elim
     |brk=>exact hr0.elim
     |cont=>exact hr0.elim
     |ret r=>
      obtain⟨rfl,h',tk,ds,rfl,jd,qe,ke⟩:=hr0;repeat(any_goals(first|assumption|wp_step))
      exact h _ _ _ jd qe ke
end
end DL
namespace SI
open PySem
theorem DT {α:Type}(next:Nat->Nat):∀(fuel k:Nat) (left:List α) (out:Array α),left.length=fuel->(aGu next fuel k left out).toList.Perm (out.toList++left)
 |0,k,left,out,h=>by have:left=[]:=aCZ h;subst this;simp[aGu]
 |fuel+1,k,left,out,h=>by
  unfold aGu;have hp:0<left.length:=by lia
  have hi:next k%left.length<left.length:=aDJ _ hp
  rw[aAg hi];dsimp only;refine(DT next fuel (k+1) _ _ (by rw[List.length_eraseIdx_of_lt hi];lia)).trans ?_;rw[Array.toList_push,List.append_assoc];refine List.Perm.append_left _ ?_;have:∀(l:List α) (i:Nat) (h:i<l.length),(l[i]::l.eraseIdx i).Perm l:=by
   intro l;induction l with
   |nil=>intro i h;simp at h
   |cons x l ih=>
    intro i h;cases i with
    |zero=>simp
    |succ i=>
     have h':i<l.length:=by simpa using h
     rw[aFi,List.getElem_cons_succ];exact(List.Perm.swap _ _ _).trans ((ih i h').cons _)
  exact this left _ hi
def rY {α:Type}(next:Nat->Nat)(xs:Array α):(pickOrder next xs).toList.Perm xs.toList:=by unfold pickOrder;simpa using DT next xs.size 0 xs.toList #[] (by simp)
def walkL (w:World)(S:Addr)(es:Array (Int×Value))(ep:Nat):List (Int×Value):=if w.params.followText "set-order"=true then(pickOrder (w.params.setOrder S ep) es).toList else es.toList
def walkL_perm (w:World)(S:Addr)(es:Array (Int×Value))(ep:Nat):(walkL w S es ep).Perm es.toList:=by
 unfold walkL;split
 ·exact rY _ _
 ·exact List.Perm.refl _
def slotAt (w:World)(t:SetTable):Nat->Nat
 |0=>0
 |i+1=>if w.params.followText "set-order"=true then 0 else t.place.getD i 0+1
def O6 (h:Heap)(w:World)(it S:Addr)(t:SetTable)(i n ep:Nat):Prop:=
 h.get? it=some {cls:=.type "set_iterator",dict:=none,data:=.fields #[rawInt (slotAt w t i),rawInt i,.ref S,rawInt n,rawInt ep],slots:=#[]}
def IsSet (h:Heap)(S:Addr)(es:Array (Int×Value))(ep:Nat)(t:SetTable):Prop:=∃o,h.get? S=some o/\o.cls=.type "set"/\o.data=.set es ep t
namespace F
def entry_set_iter:entryFor table "set.__iter__"=some Builtin.«frozenset.__iter__»:=entryFor_alias (id':= "frozenset.__iter__") (by kernel_rfl) rfl (by decide+kernel) (by kernel_rfl)
def slot_seti_next:Slot "set_iterator" "__next__" "set_iterator.__next__":=
 .of (owner:= "set_iterator") (n:= "__next__") (by rw[aDn,aCk];kernel_rfl) (by decide+kernel) (by decide+kernel) (by decide+kernel)
  (by first|exact .inl (by decide+kernel)|exact .inr (by decide+kernel)) (by rw[aEU];kernel_rfl)
def entry_seti_next:entryFor table "set_iterator.__next__"=some Builtin.«set_iterator.__next__»:=entryFor_of_tree (by kernel_rfl)
def args_seti_next (a:Value):argsOk "set_iterator.__next__" ⟨[a],[]⟩:=by unfold argsOk;kernel_rfl
def slot_seti_iter:Slot "set_iterator" "__iter__" "set_iterator.__iter__":=
 .of (owner:= "set_iterator") (n:= "__iter__") (by rw[aDn,aCk];kernel_rfl) (by decide+kernel) (by decide+kernel) (by decide+kernel)
  (by first|exact .inl (by decide+kernel)|exact .inr (by decide+kernel)) (by rw[aEU];kernel_rfl)
def entry_seti_iter:entryFor table "set_iterator.__iter__"=some Builtin.«dict_keyiterator.__iter__»:=entryFor_alias (id':= "dict_keyiterator.__iter__") (by kernel_rfl) rfl (by decide+kernel) (by kernel_rfl)
def args_seti_iter (a:Value):argsOk "set_iterator.__iter__" ⟨[a],[]⟩:=by unfold argsOk;kernel_rfl
end F
section
variable{s:Shared} {t:SetTable}
def HW {α:Type}{M:Model}{Q:α->Shared->Prop}{c:Prop}[Decidable c]{a b:Sem α}(h:c)(k:wpAny M A a Q E s):wpAny M A (if c then a else b) Q E s:=by rw[if_pos h];exact k
def xW (es:Array (Int×Value))(hp:t.plain=true):(!t.plain&&decide (es.size>1))=false:=by rw[hp];rfl
def BD {Q:yH}(h:Q (w.params.followText "set-order") s):wpAny (model prog w) A setsByText Q E s:=by unfold setsByText;exact aAa (aFq<|aAb h)
def KO {Q:C8}(hS:IsSet s.heap S es ep t)(hf:t.fits es.size=true)(hp:t.plain=true)
  (h:Q (.ref s.heap.objs.size) {s with heap:=s.heap.push {cls:=.type "set_iterator",dict:=none,data:=.fields #[rawInt (slotAt w t 0),rawInt (0:Nat),.ref S,rawInt es.size,rawInt ep],slots:=#[]}}):
  wpAny (model prog w) A (pyIter (.ref S)) Q E s:=by
 obtain⟨o,ho,hc,hd⟩:=hS;have hT:s.TypeIs (.ref S) "set":=⟨o,ho,hc⟩;refine aDW hT PySem.F.slot_set_iter (aBf PySem.F.slot_set_iter hT F.entry_set_iter ?_ (PySem.F.args_set_iter_1 _));unfold Builtin.«frozenset.__iter__»;show wpAny _ _ (aFk "__iter__" ⟨[.ref S],[]⟩>>=_) _ _ s;have e0:aFk "__iter__" ⟨[.ref S],[]⟩=pure S:=rfl;rw[e0];refine aAa (aAb ?_);unfold Builtin.Frozenset.sizeOf;refine aAa (aAa<|aEv ho hd hf<|aAb ?_);refine aAa ?_;unfold setDrawn;refine aAa (aCe ho hd hf<|aAa<|BD<|aAb ?_);show wpAny _ _ (if(!w.params.followText "set-order"&&(!t.plain&&decide (es.size>1)))=true then _ else _) _ _ s;rw[xW es hp,Bool.and_false];simp only[aAt,if_false];refine aAa (aAb<|aAa<|wpAny_setEpoch_of ho hd hf ?_);refine aAa (aAS<|aAb ⟨_,rfl, "set_iterator",_,⟨_,aAp _ rfl,rfl⟩,F.slot_seti_next.lookup,?_⟩);simpa[slotAt]using h
def AK (ha:ST.GF xs):aDA xs 0=0:=by
 obtain⟨b1,b2,b3⟩:=ST.bJ ha 0;by_cases h:aDA xs 0=0
 ·exact h
 ·exact absurd (b2 0 (by lia) (by lia)) (by lia)
def zM (ha:ST.GF xs)(hi:i<xs.size):aDA xs (xs.getD i 0+1)=i+1:=by
 have e:xs.getD i 0=xs[i]:=by simp[aFd,hi]
 rw[e];obtain⟨b1,b2,b3⟩:=ST.bJ ha (xs[i]+1);rcases Nat.lt_trichotomy (aDA xs<|xs[i]+1) (i+1)with q|q|q
 ·have:=b3 i hi (by lia);lia
 ·exact q
 ·have h1:i+1<xs.size:=by lia
  have:=b2 (i+1) h1 q;have:=ha i (i+1) hi h1 (by lia)
  lia
def AV (t:SetTable)(ha:ST.GF t.place)(hb:¬w.params.followText "set-order"=true)(hi:i<=t.place.size):aDA t.place (slotAt w t i)=i:=by
 cases i with
 |zero=>exact AK ha
 |succ i=>show aDA t.place (if w.params.followText "set-order"=true then 0 else t.place.getD i 0+1)=i+1;rw[if_neg hb];exact zM ha (by lia)
def xS {Q:Option (Value×Nat)->Shared->Prop}(hS:IsSet s.heap S es ep t)(hf:t.fits es.size=true)(hp:t.plain=true)(hl:¬w.params.followText "set-order"=true->t.led=true)(ha:ST.GF t.place)(hi:i<=es.size)(h1:∀e,(walkL w S es ep)[i]?=some e->Q (some (e.2,slotAt w t (i+1))) s)(h2:i=es.size->Q none s):wpAny (model prog w) A (setNext S (slotAt w t i) i ep) Q E s:=by
 obtain⟨o,ho,hc,hd⟩:=hS;have hsz:t.place.size=es.size:=by simp only[aGh,aAK,beq_iff_eq,decide_eq_true_eq]at hf;exact hf.1
 unfold setNext;refine aAa (aCe ho hd hf ?_);refine aAa (BD ?_);by_cases hb:w.params.followText "set-order"=true
 ·rw[if_pos hb,if_neg (by simp)];unfold setWalk;refine aAa (aAa<|aCe ho hd hf<|aAa<|BD ?_);rw[if_pos hb];refine aAa (aFq<|aAb ?_);refine aAb ?_;have ew:(walkL w S es ep)=(pickOrder (w.params.setOrder S ep) es).toList:=by unfold walkL;rw[if_pos hb]
  have es0:slotAt w t i=slotAt w t (i+1):=by
   cases i with
   |zero=>show 0=if w.params.followText "set-order"=true then 0 else _;rw[if_pos hb]
   |succ i=>show(if w.params.followText "set-order"=true then 0 else _)=if w.params.followText "set-order"=true then 0 else _;rw[if_pos hb,if_pos hb]
  rw[ew,aAB]at h1;show Q (((pickOrder (w.params.setOrder S ep) es)[i]?).map λe=>(e.2,slotAt w t i)) s;cases e:(pickOrder (w.params.setOrder S ep) es)[i]? with
  |some x=>rw[es0];exact h1 x e
  |none=>
   have hsz2:(pickOrder (w.params.setOrder S ep) es).size=es.size:=by have:=(rY (w.params.setOrder S ep) es).length_eq;simpa using this
   have:=Array.getElem?_eq_none_iff.mp e;exact h2 (by lia)
 ·rw[if_neg hb];have d0:¬(!t.plain&&decide (es.size>1))=true:=by rw[hp];simp
  show wpAny _ _ (if(!t.plain&&decide (es.size>1))=true then _ else _) _ _ s;rw[if_neg d0];show wpAny _ _ ((if(!t.led&&!es.isEmpty)=true then _ else _)>>=_) _ _ s;rw[if_neg (by rw[hl hb];simp)];refine aAa (aAb<|aAb ?_);rw[AV t ha hb (by lia)];have ew:(walkL w S es ep)=es.toList:=by unfold walkL;rw[if_neg hb]
  rw[ew,aAB]at h1;by_cases ar:i<es.size
  ·have e1:es[i]?=some es[i]:=aAw ar;have hlt':i<t.place.size:=by lia
   have e2:t.place[i]?=some t.place[i]:=aAw hlt';have:=h1 _ e1;rw[e1,e2];have e3:slotAt w t (i+1)=t.place[i]+1:=by show(if w.params.followText "set-order"=true then 0 else t.place.getD i 0+1)=_;rw[if_neg hb];simp[aFd,hlt']
   rw[e3]at this;exact this
  ·have e1:es[i]?=none:=aBz (by lia);rw[e1];exact h2 (by lia)
def R0 (h:O6 s.heap w it S t i n ep):s.TypeIs (.ref it) "set_iterator":=⟨_,h,rfl⟩
def LM {Q:Option Value->Shared->Prop}(hit:O6 s.heap w it S t i es.size ep)(hS:IsSet s.heap S es ep t)(hf:t.fits es.size=true)(hp:t.plain=true)(hl:¬w.params.followText "set-order"=true->t.led=true)(ha:ST.GF t.place)(hi:i<es.size)(h:∀e h',(walkL w S es ep)[i]?=some e->O6 h' w it S t (i+1) es.size ep->Heap.SameBut it s.heap h'->Q (some e.2) {s with heap:=h'}):wpAny (model prog w) A (pyNext (.ref it)) Q E s:=by
 have hT:=R0 hit;obtain⟨o,ho,hc,hd⟩:=id hS;unfold pyNext;refine aAa (aDR (aBV (name:=aCw "__next__") hT F.slot_seti_next
  (aBf F.slot_seti_next hT F.entry_seti_next ?_ (F.args_seti_next _))))
 refine aAa (aAb ?_);refine aAa (aFS hit rfl ?_);show wpAny _ _ (setEntries S>>=_) _ _ s;refine aAa (aEv ho hd hf ?_);rw[if_neg (by simp)];show wpAny _ _ (setNext S (aEw (slotAt w t i:Int)) (aEw (i:Int)) (aEw (ep:Int))>>=_) _ _ s;rw[aBy,aBy,aBy];refine aAa (xS hS hf hp hl ha (aDk hi) (λe he=>?_) λe=>by lia);show wpAny _ _ (setField (.ref it) 0 (rawInt<|slotAt w t<|i+1)>>=_) _ _ s;refine aAa (aBY hit (by simp) λh1 e1 s1=>?_);show wpAny _ _ (setField (.ref it) 1 (rawInt<|(i:Int)+1)>>=_) _ _ _;refine aAa (aBY (s:={s with heap:=h1}) e1 (by simp) λh2 e2 s2=>?_);refine aAb ⟨_,rfl,aAb (h e h2 he ?_ (s1.trans s2))⟩;have:h2.get? it=some _:=e2;unfold O6;rw[this];simp
def QF {Q:Option Value->Shared->Prop}(hh:A.handled=none)(hit:O6 s.heap w it S t es.size es.size ep)(hS:IsSet s.heap S es ep t)(hf:t.fits es.size=true)(hp:t.plain=true)(hl:¬w.params.followText "set-order"=true->t.led=true)(ha:ST.GF t.place)(h:∀h',Heap.ExtBut it s.heap h'->Q none {s with heap:=h'}):wpAny (model prog w) A (pyNext (.ref it)) Q E s:=by
 have hT:=R0 hit;obtain⟨o,ho,hc,hd⟩:=id hS;unfold pyNext;refine aAa (aDR (aBV (name:=aCw "__next__") hT F.slot_seti_next
  (aBf F.slot_seti_next hT F.entry_seti_next ?_ (F.args_seti_next _))))
 refine aAa (aAb ?_);refine aAa (aFS hit rfl ?_);show wpAny _ _ (setEntries S>>=_) _ _ s;refine aAa (aEv ho hd hf ?_);rw[if_neg (by simp)];show wpAny _ _ (setNext S (aEw (slotAt w t es.size:Int)) (aEw (es.size:Int)) (aEw (ep:Int))>>=_) _ _ s;rw[aBy,aBy,aBy];refine aAa (xS hS hf hp hl ha (aAh _) (λe he=>?_) λ_=>?_)
 ·have h1:=(walkL_perm w S es ep).length_eq;have h2:=(aAv.mp he).1;rw[h1]at h2;simp at h2
 ·show wpAny _ _ (setField (.ref it) 2 .none>>=_) _ _ s;refine aAa (aFT hit rfl (by simp) ?_);show wpAny _ _ (newExc (.type "StopIteration") []>>=_) _ _ _;refine aAa ?_;simp only[newExc,newTuple];refine aAa (aAS ?_ (by size_fits));refine aAa (m:=firstArgMember _ _) (aFZ (a:=Value.none) (by first|rfl|(simp only[firstArgMember];rfl)) ?_);refine aAS ?_ (by size_fits);simp only[raiseNew];refine aAa (wpAny_handled ?_);rw[show A.in1.handled=none from hh];refine aAa (aAb<|wpAny_throw ?_);refine aAa (aCY (T:= "StopIteration") (b:=true) ⟨_,aAp _ rfl,rfl⟩ aFU ?_);exact aAb (h _<|((aEx ..).extBut.push _).push _)
def dQ (x:IsSet h S es ep t)(e:∀o,h.get? S=some o->h'.get? S=some o):IsSet h' S es ep t:=let⟨o,a,r⟩:=x;⟨o,e o a,r⟩
end
section
def HJ (hh:A.handled=none)(I S:Addr)(af:S≠I)(hf:t.fits es.size=true)(hp:t.plain=true)(hl:¬w.params.followText "set-order"=true->t.led=true)(ha:ST.GF t.place):
  Walks prog w A I [I,S] [I] es.size (λi v=>∃e,(walkL w S es ep)[i]?=some e/\v=e.2) (λi h=>O6 h w I S t i es.size ep/\IsSet h S es ep t)where
 sub:=λb hb=>by simp at hb;simp[hb]
 frame:=λ_ _ _ st hk=>⟨hk I (by simp) _ st.1,dQ st.2 λo e=>hk S (by simp) o e⟩
 item:=λi s Q E hi st hQ=>LM st.1 st.2 hf hp hl ha hi λe h' he fo hs=>hQ e.2 h' s.toks ⟨e,he,rfl⟩ ⟨fo,dQ st.2 λo q=>(hs.2 S af).trans q⟩ λb o hb q=>(hs.2 b (λz=>hb (by simp[z]))).trans q
 done:=λs Q E st hQ=>QF hh st.1 st.2 hf hp hl ha λh' hx=>hQ h' s.toks λb o hb q=>hx b o (λz=>hb (by simp[z])) q
 self:=λi s Q E st hQ=>by refine aDW (R0 st.1) F.slot_seti_iter (aBf F.slot_seti_iter (R0 st.1) F.entry_seti_iter ?_ (F.args_seti_iter _));refine aAa (aAb<|aAb ⟨_,rfl, "set_iterator",_,R0 st.1,F.slot_seti_next.lookup,hQ⟩)
def collect_set {Q:List Value->Shared->Prop}(hh:A.handled=none)(hS:IsSet s.heap S es ep t)(hf:t.fits es.size=true)(hp:t.plain=true)(hl:¬w.params.followText "set-order"=true->t.led=true)(ha:ST.GF t.place)(hn:es.size<=sizeLine)
  (hQ:∀h' tk,(∀b o,s.heap.get? b=some o->h'.get? b=some o)->Q ((walkL w S es ep).map (·.2)) {s with heap:=h',toks:=tk}):wpAny (model prog w) A (collect (.ref S)) Q E s:=by
 obtain⟨oS,hoS,hcS,hdS⟩:=id hS;have hT:s.TypeIs (.ref S) "set":=⟨oS,hoS,hcS⟩;have ar:S<s.heap.objs.size:=aAf hoS;unfold collect;refine aAa (aFR<|aBr PySem.F.entry_proto_collect ?_);rw[aAX PySem.F.plain_proto_collect _];show wpAny _ A.in1 (newList []>>=λl=>again (.builtin "list.__iadd__" ⟨[l,.ref S],[]⟩)) _ _ s;refine aAa (aAS ?_);refine aAb ⟨aBO PySem.F.plain_list_iadd _,aBr PySem.F.entry_list_iadd ?_⟩;rw[aAX PySem.F.plain_list_iadd _];generalize hh1:s.heap.push {cls:=.type "list",data:=.seq ([]:List Value).toArray}=h1;have hk1:∀b o,s.heap.get? b=some o->h1.get? b=some o:=λb o e=>by rw[<-hh1];exact aAc _ e
 have hsz1:h1.objs.size=s.heap.objs.size+1:=by rw[<-hh1,aBv]
 have hL1:h1.get? s.heap.objs.size=some {cls:=.type "list",data:=.seq ([]:List Value).toArray}:=by rw[<-hh1];exact aAp _ rfl
 have hS1:IsSet h1 S es ep t:=dQ hS λo e=>hk1 S o e;have hT1:Shared.TypeIs {s with heap:=h1} (.ref S) "set":=⟨oS,hk1 _ _ hoS,hcS⟩;have hne1:aCT (.ref s.heap.objs.size) (.ref S)=false:=by simp[aCT,aCh ar]
 show wpAny _ A.in1 (aBZ (.ref s.heap.objs.size) (.ref S)<|.ref s.heap.objs.size) _ _ _;unfold aBZ;refine aAa (aDH hT1 ?_);rw[if_neg (by rw[hne1];decide)];refine aAa (KO (s:={s with heap:=h1}) hS1 hf hp ?_);refine aAa (aAJ ?_);generalize hh2:h1.push {cls:=.type "set_iterator",dict:=none,data:=.fields #[rawInt (slotAt w t 0),rawInt (0:Nat),.ref S,rawInt es.size,rawInt ep],slots:=#[]}=h2;have hk2:∀b o,h1.get? b=some o->h2.get? b=some o:=λb o e=>by rw[<-hh2];exact aAc _ e
 have hI2:O6 h2 w h1.objs.size S t 0 es.size ep:=by rw[<-hh2];exact aAp _ rfl
 have hS2:IsSet h2 S es ep t:=dQ hS1 λo e=>hk2 S o e;have hT2:Shared.TypeIs {s with heap:=h2} (.ref S) "set":=⟨oS,hk2 _ _ (hk1 _ _ hoS),hcS⟩;have hL2:=hk2 _ _ hL1;unfold aCC;refine aAa (aBp hT2 PySem.F.slot_set_len.lookup ?_)
 (generalize hid:("set.__len__":String)=id0;(fail_if_success (clear hid id0));wp_delta;rw[show splitId id0=some ("set", "__len__")from by subst hid;decide+kernel];subst hid)
 refine aAa (aCY (b:=true) hT2 (by rw[aEU];kernel_rfl) ?_);rw[if_neg (by decide)];refine HW (by decide+kernel) ?_
 ·refine aAa (aDH hT2<|aAb ?_);rw[if_pos (by decide)];show wpAny _ A.in1 (rule "list.extend.makes-room">>=λ_=>aFw (.ref s.heap.objs.size)>>=λ_=>again (.builtin "list.extend.loop" ⟨[.ref s.heap.objs.size,.ref h1.objs.size,.ref s.heap.objs.size],[]⟩)) _ _ _
  refine aAa (aDq ?_);refine aAa ?_;show wpAny _ A.in1 (updateSeq s.heap.objs.size (·.push .none)>>=λ_=>updateSeq s.heap.objs.size (·.pop)) _ _ _;refine aAa (aCl hL2 rfl ?_);have hL3:=aAY (aBA (·.push Value.none)) hL2 rfl;refine aCl hL3 rfl ?_;have hL4:=aAY (aBA (·.pop)) hL3 rfl;have uf:∀b o,b≠s.heap.objs.size->h2.get? b=some o->((h2.update s.heap.objs.size (aBA (·.push Value.none))).update s.heap.objs.size (aBA (·.pop))).get? b=some o:=
   λb o hb e=>(aAC _ _<|aCb hb).trans ((aAC _ _<|aCb hb).trans e)
  have neI:h1.objs.size≠s.heap.objs.size:=by rw[hsz1];lia
  have W:=(HJ (prog:=prog) (w:=w) (A:=A.in1) (by simp[hh]) h1.objs.size S (by rw[hsz1];exact aAi (aBw ar)) (es:=es) (ep:=ep) (t:=t) hf hp hl ha).toS;refine aAb ⟨aBO PySem.F.plain_extend_loop _,codeAny_extend_loopS W hn _ (by simp only[aAd,aAE,or_false,not_or];exact⟨aCb neI,aCh ar⟩) _ es.size 0 _ _ _ rfl (aBc _) ⟨uf _ _ neI hI2,dQ hS2 λo e=>uf S o (aAi ar) e⟩ hL4 (ItemsOf.nil _) λs' ic c' hm jd dc=>?_⟩;show wpAny _ A (load s.heap.objs.size>>=_) _ _ s';refine aAa (wpAny_load jd ?_);refine aAb ?_;have g0:s'.gens=s.gens:=hm.gens;have d0:s'.drawn=s.drawn:=hm.drawn;have o0:s'.os=s.os:=hm.os;have ea:ic.toList=(walkL w S es ep).map (·.2):=by
   have ki:=(walkL_perm w S es ep).length_eq;apply aDs;intro i;rw[aAD,aAB];by_cases hi:i<es.size
   ·have ue:i<ic.size:=by rw[dc.1];exact hi
    obtain⟨e,he,hv⟩:=dc.2 i _ (aAw ue);rw[he,aAw ue,hv];rfl
   ·rw[aBz (by rw[dc.1];lia),aEe (by rw[ki];simp;lia)];rfl
  obtain⟨h',g',d',xu,os'⟩:=s';subst g0 d0 o0;rw[ea];refine hQ h' xu λb o e=>?_;have hb:b≠s.heap.objs.size:=aAi (aAf e);have ya:b≠h1.objs.size:=by rw[hsz1];exact aAi (aBw<|aAf e)
  exact hm.heap b o (by simp only[aAd,aAE,or_false,not_or];exact⟨hb,ya⟩) (uf b o hb<|hk2 _ _<|hk1 _ _ e)
end
end SI
namespace TS
open PySem PyProof.Rows
abbrev tupK:Bool->SortKind:=sortPriv%PySem.Builtin.KeyKind.tuples
structure TB (f:Bool)(aa:Array Keyed)(st:SortSt):Prop where
 perm:(arrOf st).Perm aa
 kind:kindOf st=tupK f
 failed:failedOf st=none
 pend:pendingOf st=#[]
def TB.size {f:Bool}{aa:Array Keyed}{st:SortSt}(h:TB f aa st):(arrOf st).size=aa.size:=h.perm.size_eq
def TB.setArr {f:Bool}{aa:Array Keyed}{st:SortSt}(h:TB f aa st){xs:Array Keyed}(hp:xs.Perm (arrOf st)):TB f aa (PyProof.Rows.setArr st xs):=
 ⟨hp.trans h.perm,h.kind,h.failed,h.pend⟩
def QZ (f:Bool)(A:Around)(s:Shared)(κ:KeyKind):Prop:=
 ∀(prog:Program) (w:World) (E:C8) (x y:Value) (a b:κ.α) {Q:yH},
  κ.keyOf x=some a->κ.keyOf y=some b->Q (κ.blt a b) s->wpAny (model prog w) A (keyLt' (tupK f) x y) Q E s
def TB.atK {f:Bool}{κ:KeyKind}{aa:Array Keyed}{st:SortSt}(h:TB f aa st)(h0:KeysOf κ aa){i:Nat}(hi:i<aa.size):∃x p a,(arrOf st)[i]?=some (x,p)/\κ.keyOf x=some a/\KK κ (arrOf st) i=a:=by
 have fo:i<(arrOf st).size:=by rw[h.size];exact hi
 obtain⟨a,ha⟩:=h0 _ ((aEG.mp h.perm).mem_iff.mp (show(arrOf st)[i]∈(arrOf st).toList by simp));have e:(arrOf st)[i]?=some (arrOf st)[i]:=getElem?_pos _ i fo;exact⟨(arrOf st)[i].1,(arrOf st)[i].2,a,by rw[e],ha,by unfold KK;rw[e];simp[ha]⟩
section
def ZJ (f:Bool){prog:Program}{w:World}{A:Around}{E:C8}{s:Shared}{aa:Array Keyed}{κ:KeyKind}{st:SortSt}{i j:Nat}{Q:Option Bool->SortSt->Prop}(hO:QZ f A s κ)(hB:TB f aa st)(h0:KeysOf κ aa)(hi:i<aa.size)(hj:j<aa.size)
  (h:Q (some (κ.blt (KK κ (arrOf st) i) (KK κ (arrOf st) j))) st):wpS (model prog w) A E s (ltAt' i j) Q st:=by
 obtain⟨x,p,a,e1,ha,ka⟩:=hB.atK h0 hi;obtain⟨y,q,b,e2,hb,kb⟩:=hB.atK h0 hj;rw[ka,kb]at h;rw[ltAt'_eq];refine aBo (wpS_get ?_);show wpS _ _ _ _ (do let x<-elem' (arrOf st) i;let y<-elem' (arrOf st) j;lt' x y) Q st;rw[elem'_eq,elem'_eq,e1,e2];refine aBo (aCg<|aBo<|aCg ?_);rw[lt'_eq];refine aBo (wpS_get ?_);rw[hB.kind];refine aBo (wpS_lift<|aDR<|hO prog w _ x y a b ha hb ⟨rfl,?_⟩);exact aCg h
def up1 (S:SortedToK κ xs x)(h:1<=x->κ.kle (KK κ xs (x-1)) (KK κ xs x)):SortedToK κ xs (x+1):=λi j jh hj=>by
 rcases aDg (aFf hj)with ar|rfl
 ·exact S i j jh ar
 ·rcases aDg jh with hi|rfl
  ·exact KeyOrd.kle_trans (S i (j-1) (by lia) (by lia)) (h (by lia))
  ·exact KeyOrd.kle_refl _
def ay (S:NonIncK κ xs x)(h:1<=x->κ.kle (KK κ xs x) (KK κ xs (x-1))):NonIncK κ xs (x+1):=λi j jh hj=>by
 rcases aDg (aFf hj)with ar|rfl
 ·exact S i j jh ar
 ·rcases aDg jh with hi|rfl
  ·exact KeyOrd.kle_trans (h (by lia)) (S i (j-1) (by lia) (by lia))
  ·exact KeyOrd.kle_refl _
def LV (S:NonIncK κ xs x)(e:∀k,KK κ ys k=KK κ xs k):NonIncK κ ys x:=λi j jh hj=>by rw[e,e];exact S i j jh hj
def AT (κ:KeyKind)(xs:Array Keyed)(x c:Nat):Prop:=c+1<=x/\∀k,x-(c+1)<=k->k<x->KK κ xs k=KK κ xs (x-1)
def AT.one (h:1<=x):AT κ xs x 0:=⟨h,λk h1 h2=>by rw[show k=x-1 by lia]⟩
variable{st:SortSt}
def JI (hO:QZ f A s κ)(h0:KeysOf κ aa)(hm:m<=aa.size)(B:TB f aa st)(ha:1<=a)(ham:a<=m)(S:SortedToK κ (arrOf st) a){Q:AscSt->SortSt->Prop}(q:∀n,a<=n->n<=m->SortedToK κ (arrOf st) n->(n<m->κ.klt (KK κ (arrOf st) n) (KK κ (arrOf st) (n-1)))->Q (none,n) st):wpS (model prog w) A E s (ascLoop a m) Q st:=by
 refine aEf (I:=λn r t=>t=st/\r=(none,n)/\SortedToK κ (arrOf st) n) (λn r t l1 l2 ⟨e1,e2,S'⟩=>?_) (λr t ⟨e1,e2,S'⟩=>?_) ⟨rfl,rfl,S⟩
 ·subst e1 e2;refine aBo (ZJ f hO B h0 (by lia) (by lia) ?_);cases z:κ.blt (KK κ (arrOf t) n) (KK κ (arrOf t)<|n-1)with
  |true=>exact aCg (q n l1 (by lia) S' λ_=>z)
  |false=>exact aCg ⟨rfl,rfl,up1 S' λ_=>z⟩
 ·subst e1 e2;have e:max a m=m:=Nat.max_eq_right ham;rw[e]at S'⊢;exact q m ham (aAh _) S' λz=>absurd z (aBe _)
abbrev Told (f:Bool)(κ:KeyKind)(aa:Array Keyed)(m:Nat)(Q:Option Nat->SortSt->Prop):Prop:=∀n t,TB f aa t->1<=n->n<=m->SortedToK κ (arrOf t) n->Q (some n) t
def wV (hO:QZ f A s κ)(h0:KeysOf κ aa)(hm:m<=aa.size)(B:TB f aa st)(h1:1<=n)(hn:n<=m)(S:NonIncK κ (arrOf st) n){Q:Option Nat->SortSt->Prop}(q:Told f κ aa m Q):
  wpS (model prog w) A E s (tail3 n m) Q st:=by
 have B2:=B.setArr (aGa (arrOf st) 0 n<|(n-0)/2);have hz:n<=(arrOf st).size:=by rw[B.size];exact aAr hn hm
 refine aBo (aGb<|aBo<|JI hO h0 hm B2 h1 hn (λi j jh hj=>?_) λk k1 k2 S' _=>aCg (q k _ B2 (aAr h1 k1) k2 S'));have e:∀k,k<n->KK κ (arrOf<|setArr st<|mirror (arrOf st) 0 n<|(n-0)/2) k=KK κ (arrOf st) (0+n-1-k):=λk hk=>(KK_mirror hz k).trans (if_pos ⟨aBc _,hk⟩);rw[e i (by lia),e j hj];exact S _ _ (by lia) (by lia)
def OJ (hO:QZ f A s κ)(h0:KeysOf κ aa)(hm:m<=aa.size)(B:TB f aa st)(h1:1<=n)(hn:n<=m)(S:NonIncK κ (arrOf st) n){Q:DescSt->SortSt->Prop}(q:∀k c t,TB f aa t->1<=k->k<=m->NonIncK κ (arrOf t) k->AT κ (arrOf t) k c->Q (none,k,c) t):wpS (model prog w) A E s (descLoop n m) Q st:=by
 refine aEf (I:=λk r t=>∃c,r=(none,k,c)/\TB f aa t/\NonIncK κ (arrOf t) k/\AT κ (arrOf t) k c) (λk r t l1 l2 ⟨c,e,B',S',F'⟩=>?_) (λr t ⟨c,e,B',S',F'⟩=>?_) ⟨0,rfl,B,S,AT.one h1⟩
 ·subst e;have hz:k<=(arrOf t).size:=by rw[B'.size];lia
  dsimp only;refine aBo (ZJ f hO B' h0 (by lia) (by lia) ?_);cases z:κ.blt (KK κ (arrOf t) k) (KK κ (arrOf t)<|k-1)with
  |true=>
   have S2:NonIncK κ (arrOf t) (k+1):=ay S' λ_=>KeyOrd.kle_of_klt z;show wpS _ _ _ _ (if c>0 then _ else _) _ t;by_cases hc:c>0
   ·rw[if_pos hc];exact aBo (aGb (aCg ⟨0,rfl,B'.setArr (aGa _ _ _ _),LV S2 (aFD hz F'.2),AT.one (by lia)⟩))
   ·rw[if_neg hc];exact aCg ⟨0,rfl,B',S2,AT.one (by lia)⟩
  |false=>
   dsimp only;simp only[aAt,if_false];refine aBo (ZJ f hO B' h0 (by lia) (by lia) ?_);cases z2:κ.blt (KK κ (arrOf t)<|k-1) (KK κ (arrOf t) k)with
   |true=>exact aCg (q k c t B' (by lia) (by lia) S' F')
   |false=>
    have e:KK κ (arrOf t) k=KK κ (arrOf t) (k-1):=KeyOrd.kle_antisymm z2 z;refine aCg ⟨c+1,rfl,B',ay S' λ_=>by rw[e];exact KeyOrd.kle_refl _,by have:=F'.1;lia,λi i1 i2=>?_⟩;show KK κ (arrOf t) i=KK κ (arrOf t) k;rcases aDg (aFf i2)with hi|rfl
    ·rw[e];exact F'.2 i (by lia) hi
    ·rfl
 ·subst e;have e:max n m=m:=Nat.max_eq_right hn;rw[e]at S' F'⊢;exact q m c t B' (aAr h1 hn) (aAh _) S' F'
def xB (hO:QZ f A s κ)(h0:KeysOf κ aa)(hm:m<=aa.size)(B:TB f aa st)(hn:n+1<=m)(S:NonIncK κ (arrOf st) (n+1)){Q:Option Nat->SortSt->Prop}(q:Told f κ aa m Q):
  wpS (model prog w) A E s (descPart n m) Q st:=by
 refine aBo (wpS_lift<|aDq ⟨rfl,aBo (OJ hO h0 hm B (aGv n) hn S λk c t B' k1 k2 S' F'=>?_)⟩);have hz:k<=(arrOf t).size:=by rw[B'.size];lia
 show wpS _ _ _ _ (if c>0 then _ else _) _ t;by_cases hc:c>0
 ·rw[if_pos hc];exact aBo (aGb<|wV hO h0 hm (B'.setArr<|aGa _ _ _ _) k1 k2 (LV S'<|aFD hz F'.2) q)
 ·rw[if_neg hc];exact wV hO h0 hm B' k1 k2 S' q
def IJ (hO:QZ f A s κ)(h0:KeysOf κ aa)(hm:m<=aa.size)(h1:1<=m)(B:TB f aa st){Q:Option Nat->SortSt->Prop}(q:Told f κ aa m Q):wpS (model prog w) A E s (countRun' 0 m) Q st:=by
 rw[countRun0_eq];refine aBo (JI hO h0 hm B (aAh 1) h1 (up1 (λ_ _ _ z=>absurd z (aFE _)) λz=>absurd z (by decide)) λn n1 n2 S ar=>?_);show wpS _ _ _ _ (if(n==m)=true then _ else _) _ st;by_cases hn:n=m
 ·rw[if_pos (beq_iff_eq.mpr hn)];exact aCg (q n st B n1 n2 S)
 ·rw[if_neg λz=>hn (beq_iff_eq.mp z)];have lt:=ar (by lia);by_cases hg:n>1
  ·rw[if_pos hg];refine aBo (ZJ f hO B h0 (by lia) (by lia) ?_);cases z:κ.blt (KK κ (arrOf st) 0) (KK κ (arrOf st)<|n-1)with
   |true=>exact aCg (q n st B n1 n2 S)
   |false=>
    have hz:n<=(arrOf st).size:=by rw[B.size];lia
    have same:∀k,0<=k->k<n->KK κ (arrOf st) k=KK κ (arrOf st) (n-1):=λk _ hk=>KeyOrd.kle_antisymm (S k (n-1) (by lia) (by lia)) (KeyOrd.kle_trans z<|S 0 k (aBc _) hk);have S2:NonIncK κ (arrOf st) n:=λi j jh hj=>by rw[same i (aBc _) (by lia),same j (aBc _) hj];exact KeyOrd.kle_refl _
    exact aBo (aGb (xB hO h0 hm (B.setArr<|aGa _ _ _ _) (by lia) (LV (ay S2 λ_=>KeyOrd.kle_of_klt lt)<|aFD hz same) q))
  ·rw[if_neg hg];obtain rfl:n=1:=by lia
   exact xB hO h0 hm B (by lia) (ay (ay (λ_ _ _ z=>absurd z (aFE _)) λz=>absurd z (by decide)) λ_=>KeyOrd.kle_of_klt lt) q
def mY (hO:QZ f A s κ)(h0:KeysOf κ aa)(hn:n<=aa.size)(hk:k<=n)(B:TB f aa st)(S:SortedToK κ (arrOf st) k){Q:Bool->SortSt->Prop}(q:∀t,TB f aa t->SortedToK κ (arrOf t) n->Q true t):
  wpS (model prog w) A E s (binarySort' 0 n k) Q st:=by
 rw[binarySort'_eq];simp only[aEd];have S0:SortedToK κ (arrOf st) (min (max k 1) n):=λi j jh hj=>by
  rcases Nat.eq_or_lt_of_le jh with rfl|ar
  ·exact KeyOrd.kle_refl _
  ·exact S i j jh (by lia)
 refine aBo (wpS_mono (Q:=λr t=>r=(none,())/\TB f aa t/\SortedToK κ (arrOf t) n) (aEf (I:=λx r t=>r=(none,())/\TB f aa t/\SortedToK κ (arrOf t) (min x n)) (λx r t l1 l2 ⟨e,B',S'⟩=>?step) (λr t ⟨e,B',S'⟩=>⟨e,B',?fin⟩) ⟨rfl,B,S0⟩) λr t ⟨e,B',S'⟩=>?post)
 case step=>
  subst e;rw[aFF (aDk l2)]at S';have hx:x<aa.size:=by lia
  let Low (l:Nat):Prop:=∀i,i<l->κ.kle (KK κ (arrOf t) i) (KK κ (arrOf t) x)
  let Top (r:Nat):Prop:=∀i,r<=i->i<x->κ.klt (KK κ (arrOf t) x) (KK κ (arrOf t) i)
  refine aBo (wpS_mono (Q:=λd u=>u=t/\∃l r,d=(none,l,r)/\l<=x/\Low l/\Top l) (aEf (I:=λy d u=>u=t/\∃l r,d=(none,l,r)/\l<=r/\r<=x/\r-l<=x-y/\Low l/\Top r) (λy d u _ y2 ⟨e,l,r,e2,lr,rx,far,lo,hi⟩=>?istep) (λd u ⟨e,l,r,e2,lr,rx,far,lo,hi⟩=>?ifin)
   ⟨rfl,0,x,rfl,aBc _,aAh _,aAh _,λ_ z=>absurd z (aFE _),λi a b=>absurd (aDf a b) (aBe _)⟩) λd u ⟨e,l,r,e2,lx,lo,hi⟩=>?ipost)
  case istep=>
   subst e e2;show wpS _ _ _ _ (if l>=r then _ else _) _ u;by_cases hlr:l>=r
   ·rw[if_pos hlr];obtain rfl:l=r:=Nat.le_antisymm lr hlr;exact aCg ⟨rfl,l,l,rfl,rx,lo,hi⟩
   ·rw[if_neg hlr];dsimp only;refine aBo (ZJ f hO B' h0 hx (by lia) ?_);cases z:κ.blt (KK κ (arrOf u) x) (KK κ (arrOf u)<|(l+r)/2)with
    |true=>exact aCg ⟨rfl,l,(l+r)/2,rfl,by lia,by lia,by lia,lo,λi a b=>KeyOrd.klt_of_klt_of_kle z (S' _ i a b)⟩
    |false=>exact aCg ⟨rfl,(l+r)/2+1,r,rfl,by lia,by lia,by lia,λi a=>KeyOrd.kle_trans (S' i ((l+r)/2) (by lia) (by lia)) z,hi⟩
  case ifin=>
   subst e e2;obtain rfl:l=r:=by lia
   exact⟨rfl,l,l,rfl,rx,lo,hi⟩
  case ipost=>
   subst e e2;have hz:x<(arrOf u).size:=by rw[B'.size];exact hx
   show wpS _ _ _ _ (do moveDown' x l;pure (aCj (none,()))) _ u;rw[moveDown'_eq];refine aBo (wpS_modify<|aCg ⟨rfl,B'.setArr (bubble_perm _ _ _),λi j jh hj=>?_⟩);have e:∀k,KK κ (arrOf<|setArr u<|bubble (arrOf u) x<|x-l) k=if k=l then KK κ (arrOf u) x else if l<k/\k<=x then KK κ (arrOf u) (k-1)else KK κ (arrOf u) k:=λk=>by have:=KK_bubble (κ:=κ) hz (Nat.sub_le x l) k;rw[show x-(x-l)=l by lia]at this;exact this
   have hj:j<x+1:=by lia
   rw[e,e];by_cases c1:i=l
   ·rw[if_pos c1];by_cases c2:j=l
    ·rw[if_pos c2];exact KeyOrd.kle_refl _
    ·rw[if_neg c2,if_pos ⟨by lia,by lia⟩];exact KeyOrd.kle_of_klt (hi _ (by lia) (by lia))
   ·rw[if_neg c1];by_cases c2:j=l
    ·rw[if_pos c2,if_neg λz=>by lia];exact lo i (by lia)
    ·rw[if_neg c2];by_cases c3:l<i/\i<=x
     ·rw[if_pos c3,if_pos ⟨by lia,by lia⟩];exact S' _ _ (by lia) (by lia)
     ·rw[if_neg c3];by_cases c4:l<j/\j<=x
      ·rw[if_pos c4];exact S' _ _ (by lia) (by lia)
      ·rw[if_neg c4];exact S' _ _ jh (by lia)
 case fin=>rw[show min (max (max k 1) n) n=n by lia]at S';exact S'
 case post=>subst e;exact aCg (q t B' S')
def mC (f:Bool)(hO:QZ f A s κ)(h0:KeysOf κ aa)(B:TB f aa st)(h2:2<=aa.size)(h64:aa.size<64){Q:Unit->SortSt->Prop}(q:∀t,(arrOf t).Perm aa->failedOf t=none->SortedToK κ (arrOf t) aa.size->Q () t):wpS (model prog w) A E s sortRuns' Q st:=by
 have e1:minRun' aa.size aa.size 0=aa.size:=by
  generalize hN:aa.size=N at*
  cases N with
  |zero=>lia
  |succ N=>rw[minRun'_succ,if_pos h64]
 let S5 (t:SortSt):Prop:=(arrOf t).Perm aa/\failedOf t=none/\pendingOf t=#[(0,aa.size,0)]/\SortedToK κ (arrOf t) aa.size
 have done:∀t,TB f aa t->SortedToK κ (arrOf t) aa.size->S5 (setPending t<|(pendingOf t).push (0,aa.size,0)):=λt B' S'=>⟨B'.perm,B'.failed,(congrArg (·.push (0,aa.size,0)) B'.pend),S'⟩;rw[sortRuns'_eq];refine aBo (wpS_get ?_);dsimp only;simp only[B.size,e1];refine aBo (wpS_mono (Q:=λr t=>r=(none,aa.size)/\S5 t) (aEf (I:=λx r t=>(x=0/\r=(none,0)/\TB f aa t)\/(0<x/\r=(none,aa.size)/\S5 t)) (λx r t _ l2 I=>?step) (λr t I=>?fin)<|.inl ⟨rfl,rfl,B⟩) λr t ⟨e,D⟩=>?post)
 case step=>
  rcases I with⟨rfl,rfl,B'⟩|⟨x0,rfl,D⟩
  ·show wpS _ _ _ _ (if 0>=aa.size then _ else _) _ t;rw[if_neg (by lia)];simp only[Nat.sub_zero,Nat.min_self,aEd];have fin:∀u,TB f aa u->(pendingOf u).back?=none:=λu B2=>by rw[B2.pend];rfl
   refine aBo (IJ hO h0 (aAh _) (by lia) B' λn u B2 n1 n2 S2=>?_);show wpS _ _ _ _ (if n<aa.size then _ else _) _ u;by_cases hn:n<aa.size
   ·rw[if_pos hn];refine aBo (wpS_lift<|aDq ⟨rfl,aBo (mY hO h0 (aAh _) n2 B2 S2 λv B3 S3=>?_)⟩);simp only[aCW,aAt,if_false];refine aBo (wpS_get ?_);rw[fin v B3];exact aBo (wpS_modify<|aCg<|.inr ⟨aGv _,rfl,done v B3 S3⟩)
   ·rw[if_neg hn];obtain rfl:n=aa.size:=by lia
    refine aBo (wpS_get ?_);rw[fin u B2];exact aBo (wpS_modify<|aCg<|.inr ⟨aGv _,rfl,done u B2 S2⟩)
  ·show wpS _ _ _ _ (if aa.size>=aa.size then _ else _) _ t;rw[if_pos (aAh _)];exact aCg ⟨rfl,D⟩
 case fin=>
  rcases I with⟨z,_⟩|⟨_,e,D⟩
  ·lia
  ·exact⟨e,D⟩
 case post=>
  subst e;refine aBo (wpS_mono (Q:=λr u=>u=t/\r=(none,())) (aEf (I:=λ_ r u=>u=t/\r=(none,())) (λ_ r u _ _ ⟨e,e2⟩=>?istep) (λ_ _ z=>z) ⟨rfl,rfl⟩) λr u ⟨e,e2⟩=>?ipost)
  case istep=>subst e e2;refine aBo (wpS_get ?_);rw[if_pos (by rw[D.2.2.1];exact aAh 1)];exact aCg ⟨rfl,rfl⟩
  case ipost=>subst e e2;exact aCg (q _ D.1 D.2.1 D.2.2.2)
end
end TS
namespace TS
open PySem PyProof.Rows
section
def YV (a:Addr)(s s6:Shared):Prop:=∀b o,b≠a->s.heap.get? b=some o->s6.heap.get? b=some o
def wB {P:Fin->Shared->Prop}(ho:s.heap.get? a=some (seqObj "list" vs.toArray n))(h0:KeysOf κ (pairsOf vs))(hO:∀s6,YV a s s6->QZ f A s6 κ)(hkk:2<=vs.length->∀s6,YV a s s6->∀{Q:SortKind->Shared->Prop},Q (tupK f) s6->wpAny (model prog w) A (keyKind' vs.toArray) Q E s6)(h64:vs.length<64)(h:∀st':SortSt,(arrOf st').Perm (pairsOf vs)->SortedToK κ (arrOf st') (pairsOf vs).size->P (.done (.ret .none)) {s with heap:=sortedHeap s.heap a vs ((arrOf st').map (·.2))}):
  wpAny (model prog w) A (Builtin.«list.sort» ⟨[.ref a],[]⟩) P E s:=by
 rw[list_sort_plain];have ha:a<s.heap.objs.size:=aAf ho;refine aAa (aEg ho rfl ?_);refine aAa (listUpdate_at ho rfl ?_);obtain⟨e1,ho1⟩:∃e1,(s.heap.update a<|aBA λ_=>#[]).get? a=some (seqObj "list" #[] e1):=⟨_,get?_update_seq ho _⟩;refine aAa (seqEpoch_at ho1 rfl<|aAa<|aFV<|aAa<|wpAny_newList<|aAJ ?_);have ne1:a≠(s.heap.update a<|aBA λ_=>#[]).objs.size:=by rw[Heap.size_update];exact aAi ha
 have bar:YV a s {s with heap:=((s.heap.update a<|aBA λ_=>#[]).push (seqObj "tuple" vs.toArray 0)).push (seqObj "list" #[] 0)}:=λb o hb e=>aAc _ (aAc _<|(aAC _ _<|aCb hb).trans e)
 have ho6:(((s.heap.update a<|aBA λ_=>#[]).push (seqObj "tuple" vs.toArray 0)).push (seqObj "list" #[] 0)).get? a=some (seqObj "list" #[] e1):=aAc _ (aAc _ ho1);show wpAny (model prog w) A _ P E {s with heap:=((s.heap.update a<|aBA λ_=>#[]).push (seqObj "tuple" vs.toArray 0)).push (seqObj "list" #[] 0)};dsimp only;have hsz:vs.toArray.size=vs.length:=by simp
 have fin:=h;by_cases h2:vs.toArray.size<2
 ·rw[if_pos h2,if_pos h2];refine aAa (aAb ?_);rw[StateT.run_pure];refine aAa (aAb ?_);dsimp only;refine aAa (seqEpoch_at ho6 rfl (aAa (listUpdate_at ho6 rfl ?_ (hsz2:=by rw[Array.size_map];show(pairsOf vs).size<=_;rw[aER,aFg];lia))));simp only[bne_self_eq_false,aAt,if_false];refine aAb (fin (SortSt.mk' general' (vs.toArray.zip vs.toArray) #[] 7 none) (aGz _) λi j jh hj=>?_);have:i=j:=by rw[aER]at hj;lia
  subst this;exact KeyOrd.kle_refl _
 ·rw[if_neg h2,if_neg h2];refine aAa (hkk (by lia) _ bar ?_);refine aAa (aCn (mC f (κ:=κ) (hO _ bar) (aa:=pairsOf vs) (st:=SortSt.mk' (tupK f) (vs.toArray.zip vs.toArray) #[] 7 none) (Q:=λ_ st'=>(arrOf st').Perm (pairsOf vs)/\failedOf st'=none/\SortedToK κ (arrOf st') (pairsOf vs).size)
   h0 ⟨aGz _,rfl,rfl,rfl⟩ (by rw[aER];lia) (by rw[aER];exact h64) λst' a1 a2 a3=>⟨a1,a2,a3⟩) ?_ λ_ _ e=>e)
  rintro⟨⟨⟩,st'⟩ s' ⟨rfl,hp,hf,hs⟩;dsimp only;refine aAa (seqEpoch_at ho6 rfl (aAa (listUpdate_at ho6 rfl ?_ (hsz2:=by refine aAr (aEb<|(Array.size_map ..).trans (hp.size_eq.trans<|aER _)) ?_;rw[aFg];lia))));rw[hf];simp only[bne_self_eq_false,aAt,if_false];exact aAb (fin st' hp hs)
end
end TS
namespace TS
open PySem PyProof.Rows HT
def qW (f:Bool)(x y:Value):keyLt' (tupK f) x y=(do
 let xs<-aCF x;let ys<-aCF y
 for ((p,q),i)in(xs.toList.zip ys.toList).zipIdx do
  if !(<-eqBool p q)then return<-oneLt' (f&&i==0) p q
 return decide (xs.size<ys.size)):=rfl
def KS:Value->Sem (Option Value):=sortPriv%PySem.Builtin.firstOfTuple?
def NJ:Array Value->Sem (Option Value):=sortPriv%PySem.Builtin.oneTypeOnly
def GV (v:Value):KS v=(do
 if(<-typeOf v) !=.type "tuple"then return none
 return (<-aCF v)[0]?):=rfl
def MS (vs:Array Value):NJ vs=(do
 let ts<-vs.mapM typeOf
 match ts[0]? with
 |some t=>return if ts.all (· ==t)then some t else none
 |none=>return none):=rfl
def AS (ks:Array Value):keyKind' ks=(do
 let firsts<-ks.mapM KS
 if firsts.all (·.isSome)then
  rule "list.sort.keys-are-tuples"
  return tupK ((<-NJ (firsts.filterMap id)).any (· !=.type "tuple"))
 if(firsts[0]?.bind id).isSome then return general'
 return if(<-NJ ks).isSome then oneType' else general'):=rfl
section
def KI {Q:yH}(f:Bool)(h:Q (decide (a<b)) s):wpAny (model prog w) A (oneLt' f (.int a t) (.int b u)) Q E s:=by
 cases f with
 |true=>exact oneLt_int h
 |false=>rw[oneLt'_eq];simp only[aAt,if_false];exact aAa (wW A s a t b u prog w _ _<|aBQ h)
def lt_ints (f:Bool){Q:yH}(hl:IsTup s.heap l items)(hb:IsTup s.heap b au)(hi:IntsAre items.toList ns)(hj:IntsAre au.toList ms)(h:Q (HT.lexLt ns ms) s):wpAny (model prog w) A (keyLt' (tupK f) (.ref l) (.ref b)) Q E s:=by
 obtain⟨o,ho,hc,n,hd⟩:=hl;obtain⟨o2,jv,jm,n2,hd2⟩:=hb;have z1:items.size=ns.length:=by rw[<-hi.length];simp
 have z2:au.size=ms.length:=by rw[<-hj.length];simp
 rw[qW];refine aAa (aEg ho hd<|aAa<|aEg jv hd2 ?_);refine aAa (aCp _ (λrest b s'=>b.1=none/\s'=s/\∃(k:Nat) (vs ws:List Value) (tf ua:List Int),rest=(vs.zip ws).zipIdx k/\IntsAre vs tf/\IntsAre ws ua/\tf.length+au.size=ua.length+items.size/\Q (HT.lexLt tf ua) s)
  (λb s'=>s'=s/\(∀c,b.1=some c->Q c s)/\(b.1=none->Q (decide (items.size<au.size)) s)) ?turn ?fin _ _ ⟨rfl,rfl,0,items.toList,au.toList,ns,ms,rfl,hi,hj,by lia,h⟩|>λz=>aCn z ?post λ_ _ e=>e)
 case post=>
  rintro⟨b1,b2⟩ s' ⟨rfl,q1,q2⟩;cases b1 with
  |none=>exact aAb (q2 rfl)
  |some c=>exact aAb (q1 c rfl)
 case fin=>
  rintro⟨b1,b2⟩ s' ⟨jb,rfl,k,vs,ws,tf,ua,hz,uc,yh,hlen,hR⟩;refine⟨rfl,λc e=>(by rw[jb]at e;cases e),λ_=>?_⟩;cases uc with
  |nil=>
   cases yh with
   |nil=>rw[Y2]at hR;simp only[aBU]at hlen;rw[decide_eq_false (by lia)];exact hR
   |cons c u hw=>rw[N2]at hR;simp only[aBU,aAx]at hlen;rw[decide_eq_true (by lia)];exact hR
  |cons a t hv=>
   cases yh with
   |nil=>rw[B4]at hR;simp only[aBU,aAx]at hlen;rw[decide_eq_false (by lia)];exact hR
   |cons c u hw=>rw[aBT,aEm]at hz;cases hz
 case turn=>
  rintro⟨⟨y,x⟩,i⟩ rest b s' ⟨jb,rfl,k,vs,ws,tf,ua,hz,uc,yh,hlen,hR⟩;cases uc with
  |nil=>rw[List.zip_nil_left,aEy]at hz;cases hz
  |cons a t hvi'=>
   cases yh with
   |nil=>rw[List.zip_nil_right,aEy]at hz;cases hz
   |cons c u hwi'=>
    rw[aBT,aEm]at hz;injection hz with zu ah;injection zu with zu hik;injection zu with hy hx;subst hy hx hik;rw[F6]at hR;simp only[aAx]at hlen;obtain⟨e,he,ur⟩:=xG A s' a t c u;refine aAa (he prog w _ _ ?_);cases e with
    |true=>rw[if_pos (ur.mp rfl)]at hR;exact aAb ⟨rfl,rfl,_,_,_,_,_,ah,hvi',hwi',by lia,hR⟩
    |false=>rw[if_neg (λq=>absurd (ur.mpr q) aBg)]at hR;exact aAa (KI _ (aAb ⟨rfl,λc e=>(by cases e;exact hR),λe=>(by cases e)⟩))
end
end TS
namespace TS
open PySem PyProof.Rows HT
section
theorem EU {α β:Type}{M:Model}{f:α->Sem β}(g:α->β):∀(xs:List α) {Q:List β->Shared->Prop},(∀x∈xs,∀{Q:β->Shared->Prop},Q (g x) s->wpAny M A (f x) Q E s)->Q (xs.map g) s->wpAny M A (xs.mapM f) Q E s
 |[],Q,_,q=>by rw[List.mapM_nil];exact aAb q
 |x::xs,Q,h,q=>by rw[List.mapM_cons];exact aAa (h x (.head _) (aAa (EU g xs (λy hy=>h y (.tail _ hy)) (aAb q))))
def ES {α β:Type}{M:Model}{f:α->Sem β}(g:α->β)(xs:List α){Q:Array β->Shared->Prop}(h:∀x∈xs,∀{Q:β->Shared->Prop},Q (g x) s->wpAny M A (f x) Q E s)(q:Q (xs.map g).toArray s):wpAny M A (xs.toArray.mapM f) Q E s:=by rw[List.mapM_toArray];show wpAny M A (List.toArray<$>xs.mapM f) Q E s;rw[map_eq_pure_bind];exact aAa (EU g xs h<|aAb q)
def kind_tuples {vs:List Value}{f:Bool}{T:String}{Q:SortKind->Shared->Prop}(gf:Value->Value)(h:∀x∈vs,∃a items,x=.ref a/\IsTup s.heap a items/\items[0]?=some (gf x)/\s.TypeIs (gf x) T)(af:vs≠[])(hf:f=(aCm T !=aCm "tuple"))
  (q:Q (tupK f) s):wpAny (model prog w) A (keyKind' vs.toArray) Q E s:=by
 rw[AS];refine aAa (ES (λx=>some (gf x)) vs (λx hx {Q} q'=>?_) ?_)
 ·obtain⟨a,items,rfl,⟨o,ho,hc,n,hd⟩,h0,_⟩:=h x hx;rw[GV];refine aAa (aDH (T:= "tuple") ⟨o,ho,hc⟩ ?_);rw[if_neg (by simp)];refine aAa (aEg ho hd ?_);rw[h0];exact aAb q'
 ·have e1:((vs.map λx=>some (gf x)).toArray.all λx=>x.isSome)=true:=by simp
  have e2:(vs.map λx=>some (gf x)).toArray.filterMap id=(vs.map gf).toArray:=by
   rw[List.filterMap_toArray,aDe];congr 1;induction vs with
   |nil=>rfl
   |cons v vs ih=>simp
  simp only[e1,if_true,e2];refine aAa (aDq ?_);refine aAa ?_;rw[MS];refine aAa (ES (λ_=>aCm T) (vs.map gf) (λx hx {Q} q'=>?_) ?_)
  ·obtain⟨y,hy,rfl⟩:=aAo.mp hx;obtain⟨_,_,_,_,_,ht⟩:=h y hy;exact aDH ht q'
  ·cases vs with
   |nil=>exact absurd rfl af
   |cons v vs=>
    simp only[aAy,aBi];have e3:((aCm T::aCu ((λ_=>aCm T)∘gf) vs).toArray.all λx=>x==aCm T)=true:=by simp
    simp only[aCI,aCU,e3,if_true];refine aAb (aAb ?_);rw[hf]at q;exact q
end
end TS
namespace TS
open PySem PyProof.Rows HT
theorem lex_irrefl:∀a:List Int,HT.lexLt a a=false
 |[]=>rfl
 |x::xs=>by rw[F6,if_pos rfl];exact lex_irrefl xs
theorem lex_total:∀a b:List Int,HT.lexLt a b=false->HT.lexLt b a=false->a=b
 |[],[],_,_=>rfl
 |[],_::_,h,_=>by rw[N2]at h;cases h
 |_::_,[],_,h=>by rw[N2]at h;cases h
 |x::xs,y::ys,h1,h2=>by
  rw[F6]at h1 h2;by_cases e:x=y
  ·subst e;rw[if_pos rfl]at h1 h2;rw[lex_total xs ys h1 h2]
  ·rw[if_neg e]at h1;rw[if_neg (aCb e)]at h2;have:=of_decide_eq_false h1;have:=of_decide_eq_false h2;omega
theorem lex_trans:∀a b c:List Int,HT.lexLt a b=true->HT.lexLt b c=true->HT.lexLt a c=true
 |[],[],_,h,_=>by rw[Y2]at h;cases h
 |[],_::_,[],_,h=>by rw[B4]at h;cases h
 |[],_::_,_::_,_,_=>rfl
 |_::_,[],_,h,_=>by rw[B4]at h;cases h
 |_::_,_::_,[],_,h=>by rw[B4]at h;cases h
 |x::xs,y::ys,z::zs,h1,h2=>by
  rw[F6]at h1 h2⊢;by_cases e:x=y
  ·subst e;rw[if_pos rfl]at h1;by_cases e2:x=z
   ·subst e2;rw[if_pos rfl]at h2⊢;exact lex_trans xs ys zs h1 h2
   ·rw[if_neg e2]at h2⊢;exact h2
  ·rw[if_neg e]at h1;have a1:=of_decide_eq_true h1;by_cases e2:y=z
   ·subst e2;rw[if_neg e];exact h1
   ·rw[if_neg e2]at h2;have a2:=of_decide_eq_true h2;rw[if_neg (by omega)];exact decide_eq_true (by omega)
theorem EQ:∀a b c:List Int,HT.lexLt a c=true->HT.lexLt a b=true\/HT.lexLt b c=true
 |[],[],_,h=>.inr h
 |[],_::_,_,_=>.inl rfl
 |_::_,_,[],h=>by rw[B4]at h;cases h
 |_::_,[],_::_,_=>.inr rfl
 |x::xs,y::ys,z::zs,h=>by
  rw[F6]at h;rw[F6,F6];by_cases e:x=y
  ·subst e;rw[if_pos rfl];by_cases e2:x=z
   ·subst e2;rw[if_pos rfl]at h⊢;exact EQ xs ys zs h
   ·rw[if_neg e2]at h⊢;exact .inr h
  ·rw[if_neg e];by_cases l:x<y
   ·exact .inl (decide_eq_true l)
   ·refine .inr ?_;by_cases e2:x=z
    ·subst e2;rw[if_neg (aCb e)];exact decide_eq_true (by omega)
    ·rw[if_neg e2]at h;have:=of_decide_eq_true h;rw[if_neg (by omega)];exact decide_eq_true (by omega)
open Classical in
def kV (vs:List Value) (key:Value->List Int):KeyKind where
 α:=List Int
 blt:=HT.lexLt
 irrefl:=lex_irrefl
 trans:=lex_trans
 negTrans:=EQ
 total:=lex_total
 keyOf:=λv=>if v∈vs then some (key v)else none
 dflt:=[]
open Classical in
def UT (h:v∈vs):(kV vs key).keyOf v=some (key v):=if_pos h
open Classical in
def TV (e:(kV vs key).keyOf v=some l):v∈vs/\key v=l:=by
 have e':(if v∈vs then some (key v)else none)=some l:=e;split at e'
 ·rename_i h;cases e';exact⟨h,rfl⟩
 ·cases e'
def nV (vs:List Value):(pairsOf vs).toList=vs.map λv=>(v,v):=by
 unfold pairsOf;rw[List.zip_toArray];show vs.zip vs=_;induction vs with
 |nil=>rfl
 |cons v vs ih=>rw[aBT,aAy,ih]
section
def FU {a:Addr}{vs:List Value}{n:Nat}{f:Bool}{key:Value->List Int}{P:Fin->Shared->Prop}(ho:s.heap.get? a=some (seqObj "list" vs.toArray n))
  (ar:∀s6,YV a s s6->∀x∈vs,∀y∈vs,∀(prog:Program) (w:World) (E:C8) {Q:yH},Q (HT.lexLt (key x) (key y)) s6->wpAny (model prog w) A (keyLt' (tupK f) x y) Q E s6)
  (nh:2<=vs.length->∀s6,YV a s s6->∀{Q:SortKind->Shared->Prop},Q (tupK f) s6->wpAny (model prog w) A (keyKind' vs.toArray) Q E s6) (h64:vs.length<64)
  (h:∀gu:List Value,gu.Perm vs->gu.Pairwise (λx y=>HT.lexLt (key y) (key x)=false)->P (.done (.ret .none)) {s with heap:=sortedHeap s.heap a vs gu.toArray}):
  wpAny (model prog w) A (Builtin.«list.sort» ⟨[.ref a],[]⟩) P E s:=by
 refine wB (κ:=kV vs key) (f:=f) ho (λp hp'=>?_) (λs6 hb prog w E x y k l Q hx hy q=>?_) (λh2 s6 hb {Q} q=>nh h2 s6 hb q) h64 λst' hperm hs=>?_
 ·rw[nV]at hp';obtain⟨v,hv,rfl⟩:=aAo.mp hp';exact⟨key v,UT hv⟩
 ·obtain⟨m1,e1⟩:=TV hx;obtain⟨m2,e2⟩:=TV hy;subst e1 e2;exact ar s6 hb x m1 y m2 prog w E q
 ·have bf:(arrOf st').toList.Perm (vs.map λv=>(v,v)):=by rw[<-nV];exact aEG.mp hperm
  have same:∀p∈(arrOf st').toList,p.1=p.2/\p.2∈vs:=λp hp'=>by obtain⟨v,hv,rfl⟩:=aAo.mp (bf.mem_iff.mp hp');exact⟨rfl,hv⟩
  have ea:(arrOf st').map (·.2)=((arrOf st').toList.map (·.2)).toArray:=by apply Array.ext';simp
  rw[ea];refine h _ ?_ ?_
  ·have:=bf.map (·.2);rw[aBi,show((λx:Value×Value=>x.2)∘λv=>(v,v))=id from rfl,List.map_id]at this;exact this
  ·rw[aCf];intro i j hi hj jh;have fo:i<(arrOf st').size:=by simpa using hi
   have ud:j<(arrOf st').size:=by simpa using hj
   have hsz:(arrOf st').size=(pairsOf vs).size:=hperm.size_eq;have q:=hs i j (aDk jh) (by rw[<-hsz];exact ud);have kk:∀k (hk:k<(arrOf st').size),KK (kV vs key) (arrOf st') k=key (arrOf st')[k].2:=λk hk=>by unfold KK;rw[getElem?_pos _ k hk];obtain⟨e1,e2⟩:=same (arrOf st')[k] (by simp);show((kV vs key).keyOf (arrOf st')[k].1).getD _=_;rw[e1,UT e2];rfl
   rw[kk i fo,kk j ud]at q;rw[aEn,aEn,aFP,aFP];exact q
def sorted_keys {x:Value}{vs:List Value}{f:Bool}{key:Value->List Int}{Q:C8}{C:Shared->Prop}(hc:∀{Q':List Value->Shared->Prop},(∀s',C s'->Q' vs s')->wpAny (model prog w) A.in1 (collect x) Q' E s)
  (ar:∀s',C s'->∀s6,(∀b o,s'.heap.get? b=some o->s6.heap.get? b=some o)->∀x∈vs,∀y∈vs,∀(prog:Program) (w:World) (A':Around) (E:C8) (hA:A'.units<=A.units+5) {Q:yH},Q (HT.lexLt (key x) (key y)) s6->wpAny (model prog w) A' (keyLt' (tupK f) x y) Q E s6)
  (nh:2<=vs.length->∀s',C s'->∀s6,(∀b o,s'.heap.get? b=some o->s6.heap.get? b=some o)->∀(A:Around) {Q:SortKind->Shared->Prop},Q (tupK f) s6->wpAny (model prog w) A (keyKind' vs.toArray) Q E s6) (h64:vs.length<64)
  (h:∀(s':Shared) (gu:List Value) (h':Heap) (l:Addr),C s'->gu.Perm vs->gu.Pairwise (λx y=>HT.lexLt (key y) (key x)=false)->(∀b o,s'.heap.get? b=some o->h'.get? b=some o)->s'.heap.objs.size<=l->(∃n,h'.get? l=some (seqObj "list" gu.toArray n))->Q (.ref l) {s' with heap:=h'}):
  wpAny (model prog w) A (call (.builtin "sorted") [x]) Q E s:=by
 refine Calls.call_function_entry kind_sorted plain_sorted entry_sorted (args_sorted1 _) ?_;unfold Builtin.«sorted»;refine aAa (m:=checkCount "sorted" 1 1 _) (aAb ?_);refine aAa (hc λs' cs=>?_);refine aAa (wpAny_newList ?_);have hoL:(s'.heap.push<|seqObj "list" vs.toArray 0).get? s'.heap.objs.size=some (seqObj "list" vs.toArray 0):=aAp _ rfl;have kp:∀s6,YV s'.heap.objs.size {s' with heap:=s'.heap.push (seqObj "list" vs.toArray 0)} s6->∀b o,s'.heap.get? b=some o->s6.heap.get? b=some o:=λs6 hb b o e=>hb b o (aAi<|aAf e) (aAc _ e);refine aAa (aAJ (aBf slot_list_sort ⟨_,hoL,rfl⟩ entry_list_sort (FU (key:=key) (f:=f) hoL (λs6 hb x hx y hy prog w E {Q} q=>ar s' cs s6 (kp s6 hb) x hx y hy prog w _ E (by simp) q) (λh2 s6 hb {Q} q=>nh h2 s' cs s6 (kp s6 hb) _ q) h64 λgu hp hs=>⟨_,rfl,?_⟩)<|args_list_sort _));refine aAb ⟨_,rfl,h s' gu _ _ cs hp hs (λb o e=>?_) (aAh _) (sortedHeap_at hoL)⟩;rw[sortedHeap_old (aAi<|aAf e) (by rw[aBv];exact aBw (aAf e))];exact aAc _ e
end
end TS
namespace DL
open PySem PySem.Spec L2
open PyProof.Rows hiding St
def KG:D->Bool
 |.int _=>true
 |_=>false
def X8:D->Bool
 |.tup xs=>!xs.isEmpty&&xs.all KG
 |_=>false
def intD:D->Int
 |.int i=>i
 |_=>0
def flat:D->List Int
 |.tup xs=>xs.map intD
 |_=>[]
theorem MK:∀{xs:List D},xs.all KG=true->xs=(xs.map intD).map D.int
 |[],_=>rfl
 |x::xs,h=>by
  simp only[aGf,aAK]at h;cases x with
  |int i=>show D.int i::xs=D.int i::(xs.map intD).map D.int;rw[<-MK h.2]
  |_=>cases h.1
def aU (h:X8 d=true):flat d≠[]/\d=.tup ((flat d).map .int):=by
 cases d with
 |tup xs=>simp only[X8,aAK,Bool.not_eq_true',List.isEmpty_eq_false_iff]at h;refine⟨by simpa[flat]using h.1,?_⟩;show D.tup xs=D.tup ((xs.map intD).map D.int);rw[<-MK h.2]
 |_=>cases h
def wO (h:X8 d=true)(h':X8 e=true)(q:flat d=flat e):d=e:=by rw[(aU h).2,(aU h').2,q]
theorem sN:∀l:List Int,fO (l.map D.int)=true
 |[]=>rfl
 |i::l=>by show(true&&fO (l.map D.int))=true;rw[sN l];rfl
def L7 (h:X8 d=true):qI d=true:=by rw[(aU h).2];exact sN _
def uN (h:X8 d=true):E6 d<8:=by
 rw[(aU h).2];have:∀l:List Int,J7 (l.map D.int)=0:=λl=>by
  induction l with
  |nil=>rfl
  |cons i l ih=>show max 0 (J7<|l.map D.int)=0;rw[ih];rfl
 show J7 _+1<8;rw[this];lia
def qG (d:D):List D->List D
 |[]=>[d]
 |x::xs=>if flat d=flat x then x::xs else if HT.lexLt (flat d) (flat x)=true then d::x::xs else x::qG d xs
def Q9 (ds:List D):List D:=ds.foldr qG []
def ND (ds:List D):Prop:=ds.Pairwise λx y=>HT.lexLt (flat x) (flat y)=true
theorem iD:∀{xs:List D},e∈qG d xs->e=d\/e∈xs
 |[],h=>by rcases aAd.mp h with h|h;exact .inl h;cases h
 |x::xs,h=>by
  unfold qG at h;split at h
  ·exact .inr h
  ·split at h
   ·rcases aAd.mp h with h|h
    ·exact .inl h
    ·exact .inr h
   ·rcases aAd.mp h with h|h
    ·exact .inr (by rw[h];exact .head _)
    ·rcases iD h with h|h
     ·exact .inl h
     ·exact .inr (.tail _ h)
theorem wP:∀{xs:List D},e∈xs->e∈qG d xs
 |x::xs,h=>by
  unfold qG;split
  ·exact h
  ·split
   ·exact .tail _ h
   ·rcases aAd.mp h with h|h
    ·rw[h];exact .head _
    ·exact .tail _ (wP h)
theorem xI (hd:X8 d=true):∀{xs:List D},(∀x∈xs,X8 x=true)->d∈qG d xs
 |[],_=>.head _
 |x::xs,h=>by
  unfold qG;split
  ·rename_i q;rw[wO hd (h x (.head _)) q];exact .head _
  ·split
   ·exact .head _
   ·exact .tail _ (xI hd λy hy=>h y (.tail _ hy))
theorem wS:∀{xs:List D},ND xs->ND (qG d xs)
 |[],_=>aDO _ _
 |x::xs,h=>by
  have h1:=aAA.mp h;unfold qG;split
  ·exact h
  ·rename_i ne;split
   ·rename_i lt;refine aAA.mpr ⟨λy hy=>?_,h⟩;rcases aAd.mp hy with rfl|hy
    ·exact lt
    ·exact TS.lex_trans _ _ _ lt (h1.1 y hy)
   ·rename_i nlt;refine aAA.mpr ⟨λy hy=>?_,wS h1.2⟩;rcases iD hy with rfl|hy
    ·cases q:HT.lexLt (flat x) (flat y)with
     |true=>rfl
     |false=>exact absurd (TS.lex_total _ _ (by simpa using nlt) q) ne
    ·exact h1.1 y hy
theorem U3:∀ds:List D,ND (Q9 ds)
 |[]=>.nil
 |_::ds=>wS (U3 ds)
theorem wZ:∀{ds:List D},(∀d∈ds,X8 d=true)->∀d∈Q9 ds,X8 d=true
 |[],_,d,h=>by cases h
 |e::ds,h,d,hd=>by
  rcases iD hd with rfl|hd
  ·exact h _ (.head _)
  ·exact wZ (λd hd=>h d (.tail _ hd)) d hd
theorem G8:∀{ds:List D},(∀d∈ds,X8 d=true)->∀d,d∈Q9 ds↔d∈ds
 |[],_,d=>Iff.rfl
 |e::ds,h,d=>by
  have h':∀d∈ds,X8 d=true:=λd hd=>h d (.tail _ hd);constructor
  ·intro q;rcases iD q with rfl|q
   ·exact .head _
   ·exact .tail _ ((G8 h' d).mp q)
  ·intro q;rcases aAd.mp q with rfl|q
   ·exact xI (h _<|.head _) (wZ h')
   ·exact wP ((G8 h' d).mpr q)
theorem dH:∀{xs ys:List D},ND xs->ND ys->(∀d,d∈xs↔d∈ys)->xs=ys
 |[],[],_,_,_=>rfl
 |[],y::ys,_,_,h=>by have:=(h y).mpr (.head _);cases this
 |x::xs,[],_,_,h=>by have:=(h x).mp (.head _);cases this
 |x::xs,y::ys,h1,h2,h=>by
  have a1:=aAA.mp h1;have a2:=aAA.mp h2;have irr:∀d:D,HT.lexLt (flat d) (flat d)≠true:=λd q=>by rw[TS.lex_irrefl]at q;cases q
  have exy:x=y:=by
   rcases aAd.mp ((h x).mp (.head _))with q|q
   ·exact q
   ·rcases aAd.mp ((h y).mpr (.head _))with q2|q2
    ·exact q2.symm
    ·exact absurd (TS.lex_trans _ _ _ (a2.1 x q)<|a1.1 y q2) (irr y)
  subst exy;congr 1;refine dH a1.2 a2.2 λd=>?_;constructor
  ·intro q;rcases aAd.mp ((h d).mp (.tail _ q))with z|z
   ·subst z;exact absurd (a1.1 d q) (irr d)
   ·exact z
  ·intro q;rcases aAd.mp ((h d).mpr (.tail _ q))with z|z
   ·subst z;exact absurd (a2.1 d q) (irr d)
   ·exact z
def HI (h:ND xs):xs.Nodup:=h.imp λ{x y} q z=>by subst z;rw[TS.lex_irrefl]at q;cases q
def ZF:D->R (List D)
 |.lst ds=>if ds.all X8=true/\(Q9 ds).length<=63 then .ok (Q9 ds)else .bad
 |_=>.bad
section
mutual
theorem Y9 (I:Inv X pins σ H s):∀{v:V} {d:D} {u:Value},Rep X.K H O v d->qI d=true->RelV v u->HV s.heap u d
 |_,_,_,.non,e,_=>by cases e
 |_,_,_,.bl,e,_=>by cases e
 |_,_,_,.str,e,_=>by cases e
 |_,_,_,.lst _ _ _,e,_=>by cases e
 |_,_,_,.dct _ _ _,e,_=>by cases e
 |_,_,_,.int,_,r=>by obtain⟨t,rfl⟩:=r;exact .int _ t
 |_,_,_,.tup h r,e,ru=>by cases ru;obtain⟨its,rv,p,_⟩:=I.tuple h;exact .tup p (EY I r e rv)
theorem EY (I:Inv X pins σ H s):∀{v:List V} {d:List D} {u:List Value},Reps X.K H O v d->fO d=true->n8 v u->HVs s.heap u d
 |_,_,_,.nil,_,.nil=>.nil
 |_,_,_,.cons r t,e,.cons ru tu=>by have e':(qI _&&fO _)=true:=e;rw[aAK]at e';exact .cons (Y9 I r e'.1 ru) (EY I t e'.2 tu)
end
end
variable [Tabs]
def ax (w:World)(o:Obj)(es:List Value):Prop:=o.ExactSet/\∃ea ep t,o.data=.set ea ep t/\t.fits ea.size=true/\t.plain=true/\t.led=!w.params.followText "set-order"/\ST.GF t.place/\ea.toList.map (·.2)=es
abbrev w9 (K:PySem.W.Frag)(H:Hp)(O:Addr->Prop):List Value->List D->Prop:=Paired λu d=>∃v,RelV v u/\Rep K H O v d
theorem w9.of {K:PySem.W.Frag}{H:Hp}{O:Addr->Prop}:∀{vs:List V} {us:List Value} {ds:List D},n8 vs us->Reps K H O vs ds->w9 K H O us ds
 |_,_,_,.nil,.nil=>.nil
 |_,_,_,.cons r t,.cons q u=>.cons ⟨_,r,q⟩ (w9.of t u)
theorem w9.ac2 {K:PySem.W.Frag}{H:Hp}{O:Addr->Prop}:∀{us:List Value} {ds:List D},w9 K H O us ds->∃vs,n8 vs us/\Reps K H O vs ds
 |_,_,.nil=>⟨[],.nil,.nil⟩
 |_,_,.cons ⟨v,r,q⟩ t=>let⟨vs,r',q'⟩:=w9.ac2 t;⟨v::vs,.cons r r',.cons q q'⟩
def w9.same {K:PySem.W.Frag}{H H':Hp}{O:Addr->Prop}(s:Same H H'){us:List Value}{ds:List D}(h:w9 K H O us ds):w9 K H' O us ds:=dJ (λ_ _ ⟨v,r,q⟩=>⟨v,r,q.same s⟩) h
theorem w9.get {K:PySem.W.Frag}{H:Hp}{O:Addr->Prop}:∀{us:List Value} {ds:List D} {u:Value},w9 K H O us ds->u∈us->∃d∈ds,∃v,RelV v u/\Rep K H O v d
 |_,_,_,.cons r t,h=>by
  rcases aAd.mp h with rfl|h
  ·exact⟨_,.head _,r⟩
  ·obtain⟨d,hd,q⟩:=w9.get t h;exact⟨d,.tail _ hd,q⟩
open Classical in
def P9 (K:PySem.W.Frag) (H:Hp) (h:Heap):Heap:=PySem.W.hideAll h ((aBu h.objs.size).filter λa=>decide (¬∃xs,W2 K H a xs))
def Y3 (K:PySem.W.Frag)(H:Hp)(h:Heap):Keeps (P9 K H h) h:=λb o e=>PySem.W.of_hideAll _ e
open Classical in
def xK {K:PySem.W.Frag}{H:Hp}{h:Heap}{b:Addr}{o:Obj}{xs:List V}(e:h.get? b=some o)(q:W2 K H b xs):(P9 K H h).get? b=some o:=PySem.W.hideAll_get _ e λhm=>by have:=(aCz.mp hm).2;exact(of_decide_eq_true this) ⟨xs,q⟩
open Classical in
def BZ {K:PySem.W.Frag}{H:Hp}{h:Heap}{b:Addr}{o:Obj}(e:(P9 K H h).get? b=some o):∃xs,W2 K H b xs:=by refine Classical.byContradiction λn=>?_;have e':=Y3 K H h b o e;have:(P9 K H h).get? b=none:=PySem.W.hideAll_none _ (aCz.mpr ⟨aCv.mpr (aAf e'),decide_eq_true n⟩);rw[this]at e;cases e
section
mutual
theorem LI (I:Inv X pins σ H s):∀{v:V} {d:D} {u:Value},Rep X.K H O v d->qI d=true->RelV v u->HV (P9 X.K H s.heap) u d
 |_,_,_,.non,e,_=>by cases e
 |_,_,_,.bl,e,_=>by cases e
 |_,_,_,.str,e,_=>by cases e
 |_,_,_,.lst _ _ _,e,_=>by cases e
 |_,_,_,.dct _ _ _,e,_=>by cases e
 |_,_,_,.int,_,r=>by obtain⟨t,rfl⟩:=r;exact .int _ t
 |_,_,_,.tup h r,e,ru=>by cases ru;obtain⟨its,rv,⟨o,g,c,n,d⟩,_⟩:=I.tuple h;exact .tup ⟨o,xK g h,c,n,d⟩ (DC I r e rv)
theorem DC (I:Inv X pins σ H s):∀{v:List V} {d:List D} {u:List Value},Reps X.K H O v d->fO d=true->n8 v u->HVs (P9 X.K H s.heap) u d
 |_,_,_,.nil,_,.nil=>.nil
 |_,_,_,.cons r t,e,.cons ru tu=>by have e':(qI _&&fO _)=true:=e;rw[aAK]at e';exact .cons (LI I r e'.1 ru) (DC I t e'.2 tu)
end
mutual
theorem IS (I:Inv X pins σ H s):∀{u:Value} {d:D},HV (P9 X.K H s.heap) u d->∃v,RelV v u/\Rep X.K H O v d
 |_,_,.int i t=>⟨.int i,⟨t,rfl⟩,.int⟩
 |_,_,.tup (a:=a) ⟨o,g,c,n,dd⟩ r=>by obtain⟨xs,q⟩:=BZ g;obtain⟨vs,r1,r2⟩:=w9.ac2 (DP I r);obtain⟨its,rv,⟨o',g',_,n',d'⟩,_⟩:=I.tuple q;rw[Y3 _ _ _ _ _ g]at g';cases g';rw[dd]at d';injection d' with d1 _;subst d1;have:vs=xs:=r1.inj (by simpa using rv);subst this;exact⟨.ref a,rfl,.tup q r2⟩
theorem DP (I:Inv X pins σ H s):∀{u:List Value} {d:List D},HVs (P9 X.K H s.heap) u d->w9 X.K H O u d
 |_,_,.nil=>.nil
 |_,_,.cons r t=>.cons (IS I r) (DP I t)
end
end
section
def gx (X:Cx)(f:Ev->R D):TE:=λσ H Q=>∃H9 O0 O ρ,EnvOk X.K H9 O0 H O σ ρ/\match f ρ with
 |.ok (.lst ds)=>(ds.all X8=true/\(Q9 ds).length<=63)/\∀S o es bh H1,Same H H1->H1 S=none->ax X.w o es->w9 X.K H1 O es bh->bh.Nodup->(∀d,d∈bh↔d∈ds)->Q (.ref S) (upd H1 S<|.frz o (.own S))
 |.ex x=>∀H',Same H H'->XW X x H'
 |_=>False
def RP (ha:PB X e f)(hh:X.calm=true)(hu:X.A.units+300<cLine)(hg:Gl X "set":=by rfl)(hm:X.mg "set"=none:=by assumption)(hv:bootBuiltins "set"=some (.type "set"):=by decide+kernel)(he:starEach [e] X.env=(false,eval e X.env)::starEach [] X.env:=by rfl)(bf:(backTo pos (starEach [] X.env)).any (·.1)=false:=by rfl):
  PE X (.Call (.Name "set" p) [e] [] pos) (gx X f):=by
 refine vU λpins s σ H Q I H9 O0 O ρ E q=>?_;refine aAM (N0 I hg hm hv ?_ (by decide) (by decide));have mo:PA X [e] _:=J9 ha aV he;refine aBb (D9 (mo pos pins s σ H (λvs H1=>∃v ds,vs=[v]/\f ρ=.ok (.lst ds)/\Same H H1/\A9 X.K H1 O v (.lst ds)) I ⟨H9,O0,O,ρ,E,?_⟩) λus s1 ⟨vs,H1,I1,r1,v,ds,ev,ef,sm,rb⟩=>?_) he bf
 ·cases e1:f ρ with
  |ex z=>rw[e1]at q;exact q
  |bad=>rw[e1]at q;exact q.elim
  |ok d=>
   rw[e1]at q;cases d with
   |lst ds=>exactλv H1 s1 r1=>⟨v,ds,rfl,rfl,s1,r1⟩
   |_=>exact q.elim
 ·subst ev;rw[ef]at q;obtain⟨⟨hp,ug⟩,q⟩:=q;obtain⟨a,ws,rfl,hS,rr⟩:=rb.aa5;obtain⟨u,rfl,ru⟩:=vals1 r1;cases ru;obtain⟨its,rv,⟨oL,nL,gL,cL,dL,sL⟩,zL⟩:=I1.list hS;have pt:∀d∈ds,X8 d=true:=aBC.mp hp;have hlen:its.toArray.size=ds.length:=by rw[aAq,<-rv.length,rr.length]
  have st:w9 X.K H1 O its ds:=w9.of rv rr;have goes:∀(i:Nat) (v:Value),its.toArray[i]?=some v->XI (P9 X.K H1 s1.heap) v (ds.getD i .non):=λi v hi=>by
   rw[aCI]at hi;obtain⟨d,hd,w,ph,rp⟩:=F5 st hi;have ng:ds.getD i .non=d:=by rw[aAn,hd];rfl
   rw[ng];have hpt:=pt d (aAl hd);have hv:=LI I1 rp (L7 hpt) ph;rw[(aU hpt).2]at hv⊢;cases hv with
   |tup p r=>exact⟨_,_,rfl,rfl,by have:=uN hpt;rw[(aU hpt).2]at this;exact this,.tup p r⟩
  have vd:∀i<its.toArray.size,E6 (ds.getD i .non)<8/\∃ys,ds.getD i .non=.tup ys:=λi hi=>by
   have fo:i<ds.length:=by rw[<-hlen];exact hi
   have e1:ds.getD i .non=ds[i]:=by rw[aAn,aAg fo];rfl
   rw[e1];exact⟨uN (pt _<|aBs fo),_,(aU<|pt _<|aBs fo).2⟩
  refine yI (Y3 X.K H1 s1.heap) (val:=λi=>ds.getD i .non) (U:=Q9 ds) (I1.ok.hd hh) ⟨oL,gL,cL,nL,sL⟩ goes vd (λi hi=>?_) (by lia) hu λh' tk bh jd qe kp=>?_
  ·have fo:i<ds.length:=by rw[<-hlen];exact hi
   rw[G8 pt];have e1:ds.getD i .non=ds[i]:=by rw[aAn,aAg fo];rfl
   show ds.getD i .non∈ds;rw[e1];exact aBs fo
  ·obtain⟨⟨o,es,ep,t,ho,hc,zb,hsl,hd,sok,msk,pr,led,pl⟩,nd⟩:=jd;have mem:∀d,d∈bh↔d∈ds:=λd=>by
    rw[qe];constructor
    ·rintro⟨j,hj,e1⟩;have ud:j<ds.length:=by rw[<-hlen];exact hj
     have e2:ds.getD j .non=ds[j]:=by rw[aAn,aAg ud];rfl
     rw[<-e1,e2];exact aBs ud
    ·intro hd;obtain⟨j,hj,e1⟩:=aBd hd;refine⟨j,by rw[hlen];exact hj,?_⟩;show ds.getD j .non=d;rw[aAn,aAg hj,<-e1];rfl
   have I2:=I1.laid (a:=s1.heap.objs.size) (o:=.frz o (.own s1.heap.objs.size)) (h':=h') (t':=tk) kp (aAh _) ⟨ho,o,ho⟩;refine⟨.ref s1.heap.objs.size,_,I2,rfl,q s1.heap.objs.size o (es.toList.map (·.2)) bh H1 sm (I1.hok.fresh<|aAh _) ⟨⟨hc,zb,hsl⟩,es,ep,t,hd,?_,pl,led,sok.tab.asc,rfl⟩ ?_ nd mem⟩
   ·have h1:=sok.len;have h2:=sok.room;simp only[aGh,aAK,beq_iff_eq,decide_eq_true_eq];exact⟨by simpa using h1,by show t.place.size+t.dummies.size<=t.mask;rw[sok.tab.nod];simpa using h2⟩
   ·have:∀{es:List (Int×Value)} {ds:List D},Paired (EV<|P9 X.K H1 s1.heap) es ds->w9 X.K H1 O (es.map (·.2)) ds:=λ{es ds} p=>by
     induction p with
     |nil=>exact .nil
     |cons r _ ih=>exact .cons (IS I1 r.1) ih
    exact this pr
def HS (h:Heap) (v:Value):List Int:=open Classical in if p:∃d,X8 d=true/\HV h v d then flat p.choose else[]
def eF (hp:X8 d=true)(hv:HV h v d):HS h v=flat d:=by unfold HS;have q:∃d,X8 d=true/\HV h v d:=⟨d,hp,hv⟩;rw[dif_pos q,HV.inj q.choose_spec.2 hv]
def bB (hp:X8 d=true)(hv:HV h v d):∃b items,v=.ref b/\IsTup h b items/\IntsAre items.toList (flat d):=by
 rw[(aU hp).2]at hv;cases hv with
 |tup p r=>
  refine⟨_,_,rfl,p,?_⟩;have:∀{vs:List Value} {l:List Int},HVs h vs (l.map D.int)->IntsAre vs l:=λ{vs l} r=>by
   induction l generalizing vs with
   |nil=>cases r;exact .nil
   |cons i l ih=>
    cases r with
    |cons r t=>cases r;exact .cons _ _ (ih t)
  exact this r
def KC {prog:Program}{w:World}{A:Around}{E:C8}{s:Shared}{x y:Value}{d e:D}{f:Bool}{Q:yH}(hd:X8 d=true)(he:X8 e=true)(hx:HV s.heap x d)(hy:HV s.heap y e)(q:Q (HT.lexLt (flat d) (flat e)) s):wpAny (model prog w) A (keyLt' (TS.tupK f) x y) Q E s:=by obtain⟨b,its,rfl,t1,i1⟩:=bB hd hx;obtain⟨b',its',rfl,t2,i2⟩:=bB he hy;exact TS.lt_ints f t1 t2 i1 i2 q
def yP {prog:Program}{w:World}{A:Around}{E:C8}{s:Shared}{vs:List Value}{Q:SortKind->Shared->Prop}(h:∀x∈vs,∃d,X8 d=true/\HV s.heap x d)(h2:2<=vs.length)(q:Q (TS.tupK true) s):wpAny (model prog w) A (keyKind' vs.toArray) Q E s:=by
 obtain⟨gf,hgf⟩:∃gf:Value->Value,∀x∈vs,∃b items k t,x=.ref b/\IsTup s.heap b items/\items[0]?=some (gf x)/\gf x=.int k t:=by
  refine⟨λx=>open Classical in if z:∃p,∃b items k t,x=.ref b/\IsTup s.heap b items/\items[0]?=some p/\p=aGy k t then z.choose else .none,λx hx=>?_⟩;obtain⟨d,hp,hv⟩:=h x hx;obtain⟨b,items,rfl,ht,hi⟩:=bB hp hv;have hn:=(aU hp).1;have z:∃p,∃b' items k t,aDj b=.ref b'/\IsTup s.heap b' items/\items[0]?=some p/\p=aGy k t:=by
   cases e:items.toList with
   |nil=>rw[e]at hi;generalize flat d=l at hi hn;cases hi;exact absurd rfl hn
   |cons p ps=>
    rw[e]at hi;generalize flat d=l at hi;cases hi with
    |cons k t h'=>exact⟨_,b,items,k,t,rfl,ht,by rw[<-aAB,e];rfl,rfl⟩
  dsimp only;rw[dif_pos z];obtain⟨b',vt,k,t,q1,q2,q3,q4⟩:=z.choose_spec;exact⟨b',vt,k,t,q1,q2,q3,q4⟩
 refine TS.kind_tuples (T:= "int") gf (λx hx=>?_) (λz=>by rw[z]at h2;simp at h2) (by decide) q;obtain⟨b,items,k,t,q1,q2,q3,q4⟩:=hgf x hx;exact⟨b,items,q1,q2,q3,by rw[q4];exact typeIs_int s k t⟩
def iI {K:PySem.W.Frag}{H:Hp}{O:Addr->Prop}{us us':List Value}{ds:List D}{key:Value->List Int}(st:w9 K H O us ds)(hp:us'.Perm us)(hs:us'.Pairwise λx y=>HT.lexLt (key y) (key x)=false)(hk:∀u d,(∃v,RelV v u/\Rep K H O v d)->d∈ds->key u=flat d)(pt:∀d∈ds,X8 d=true)(nd:ds.Nodup):
  ∃bh,w9 K H O us' bh/\bh.Perm ds/\ND bh:=by
 obtain⟨bh,p',st'⟩:=dG hp st;refine⟨bh,st',p',?_⟩;have nd':bh.Nodup:=p'.nodup_iff.mpr nd;have yb:∀d∈bh,X8 d=true:=λd hd=>pt d (p'.mem_iff.mp hd);have ke:∀u d,(∃v,RelV v u/\Rep K H O v d)->d∈bh->key u=flat d:=λu d h hd=>hk u d h (p'.mem_iff.mp hd);clear hp p' st nd pt hk;induction st' with
 |nil=>exact .nil
 |@cons u d us ds r t ih=>
  have h1:=aAA.mp hs;have n1:=aAG.mp nd';refine aAA.mpr ⟨λe he=>?_,ih h1.2 n1.2 (λd hd=>yb d (.tail _ hd)) λu d h hd=>ke u d h (.tail _ hd)⟩;have:∃u'∈us,∃v,RelV v u'/\Rep K H O v e:=by
   clear ih hs h1 n1 nd' yb ke r;induction t with
   |nil=>cases he
   |cons r t ih=>
    rcases aAd.mp he with rfl|he
    ·exact⟨_,.head _,r⟩
    ·obtain⟨u',hu,q⟩:=ih he;exact⟨u',.tail _ hu,q⟩
  obtain⟨u',hu,q⟩:=this;have l:=h1.1 u' hu;rw[ke u' e q (.tail _ he),ke u d r (.head _)]at l;cases z:HT.lexLt (flat d) (flat e)with
  |true=>rfl
  |false=>have:=wO (yb _<|.head _) (yb _<|.tail _ he) (TS.lex_total _ _ z l);subst this;exact absurd he n1.1
def bH {p p2 fu:Pos}{f:Ev->R D}(ha:PB X e f)(hh:X.calm=true)(hu:X.A.units+300<cLine)(hg:Gl X "set":=by rfl)(hm:X.mg "set"=none:=by assumption)(hg2:Gl X "sorted":=by rfl)(kg:X.mg "sorted"=none:=by assumption)
  (hv:bootBuiltins "set"=some (.type "set"):=by decide+kernel) (hv2:bootBuiltins "sorted"=some (.builtin "sorted"):=by decide+kernel)
  (he:starEach [e] X.env=(false,eval e X.env)::starEach [] X.env:=by rfl) (bf:(backTo fu (starEach [] X.env)).any (·.1)=false:=by rfl)
  (km:starEach [.Call (.Name "set" p2) [e] [] fu] X.env=(false,eval (.Call (.Name "set" p2) [e] [] fu) X.env)::starEach [] X.env:=by rfl) (vv:(backTo pos (starEach [] X.env)).any (·.1)=false:=by rfl):
  PF X (.Call (.Name "sorted" p) [.Call (.Name "set" p2) [e] [] fu] [] pos) (λρ=>(f ρ).bind ZF):=by
 refine vU λpins s σ H Q I H9 O0 O ρ E q=>?_;dsimp only at q;refine aAM (N0 I hg2 kg hv2 ?_ (by decide) (by decide));have mo:PA X [.Call (.Name "set" p2) [e] [] fu] _:=J9 (RP (p:=p2) ha hh hu hg hm hv he bf) aV km;refine aBF (D9 (mo pos pins s σ H (λvs H2=>∃S o es bh ds H1,vs=[.ref S]/\H2=upd H1 S (.frz o (.own S))/\f ρ=.ok (.lst ds)/\(ds.all X8=true/\(Q9 ds).length<=63)/\Same H H1/\H1 S=none/\ax X.w o es/\w9 X.K H1 O es bh/\bh.Nodup/\(∀d,d∈bh↔d∈ds)) I ⟨H9,O0,O,ρ,E,?_⟩)
  λus s1 z=>?_) km vv
 ·cases e1:f ρ with
  |ex z=>rw[e1]at q;exact q
  |bad=>rw[e1]at q;exact q.elim
  |ok d=>
   rw[e1,R.aa0]at q;cases d with
   |lst ds=>
    simp only[ZF]at q;by_cases hc:ds.all X8=true/\(Q9 ds).length<=63
    ·exact⟨hc,λS o es bh H1 sm hS so st nd mem=>⟨S,o,es,bh,ds,H1,rfl,rfl,rfl,hc,sm,hS,so,st,nd,mem⟩⟩
    ·rw[if_neg hc]at q;exact q.elim
   |_=>exact q.elim
 ·obtain⟨vs,H2,I2,r1,S,o,es,bh,ds,H1,ev,eH,ef,⟨hp,ug⟩,sm,hS1,so,st,nd,mem⟩:=z;subst ev eH;obtain⟨u,rfl,ru⟩:=vals1 r1;cases ru;rw[ef,R.aa0]at q;simp only[ZF]at q;rw[if_pos ⟨hp,ug⟩]at q;have pt:∀d∈ds,X8 d=true:=aBC.mp hp;have yb:∀d∈bh,X8 d=true:=λd hd=>pt d ((mem d).mp hd);have s12:Same H1 (upd H1 S<|.frz o (.own S)):=j7 hS1 _;have ju:=st.same s12;obtain⟨hc,ea,ep,t,hd,hf,hpln,led,asc,ees⟩:=so;have goS:=(I2.hok S _ j6).1;have hS2:SI.IsSet s1.heap S ea ep t:=⟨o,goS,hc.1,hd⟩;have hsl:(Q9 ds).Perm bh:=by
   letI:DecidableEq D:=λa b=>aDQ _
   exact(aDu (HI<|U3 ds) nd).mpr λd=>by rw[G8 pt,mem]
  have hsz:ea.size=bh.length:=by have:=st.length;rw[<-ees]at this;simpa using this
  have h63':bh.length<=63:=by rw[<-hsl.length_eq];exact ug
  have wp:=SI.walkL_perm X.w S ea ep;have wpv:((SI.walkL X.w S ea ep).map (·.2)).Perm es:=by rw[<-ees];exact wp.map _
  have each:∀u∈(SI.walkL X.w S ea ep).map (·.2),∃d,d∈bh/\X8 d=true/\HV s1.heap u d:=λu hu=>by obtain⟨d,hd,v,rv,rp⟩:=ju.get (wpv.mem_iff.mp hu);exact⟨d,hd,yb d hd,Y9 I2 rp (L7<|yb d hd) rv⟩
  refine TS.sorted_keys (vs:=(SI.walkL X.w S ea ep).map (·.2)) (f:=true) (key:=HS s1.heap) (C:=λs'=>∃h' tk,s'={s1 with heap:=h',toks:=tk}/\∀b o,s1.heap.get? b=some o->h'.get? b=some o)
   (λ{Q'} hq=>SI.collect_set (by simp[I2.ok.hd hh]) hS2 hf hpln (λnb=>by rw[led];simpa using nb) asc (by rw[hsz];exact aAr h63' (by decide)) λh' tk k=>hq _ ⟨h',tk,rfl,k⟩)
   (λs' ⟨h',tk,es',k⟩ s6 k6 x hx y hy prog w A E hA {Q} qq=>?_) (λh2 s' ⟨h',tk,es',k⟩ s6 k6 A {Q} qq=>?_) (by rw[aAk,wp.length_eq,aBa,hsz];lia) λs' gu h' l ⟨h1,tk,es',k⟩ pm srt k2 hl ⟨n,gl⟩=>?_
  ·subst es';obtain⟨d,_,pd,sr⟩:=each x hx;obtain⟨d',_,pd',wc⟩:=each y hy;rw[eF pd sr,eF pd' wc]at qq;exact KC pd pd' (sr.keeps λb o e _=>k6 b o (k b o e)) (wc.keeps λb o e _=>k6 b o (k b o e)) qq
  ·subst es';refine yP (λx hx=>?_) h2 qq;obtain⟨d,_,pd,sr⟩:=each x hx;exact⟨d,pd,sr.keeps λb o e _=>k6 b o (k b o e)⟩
  ·subst es';obtain⟨ou,st3,p2,we⟩:=iI (key:=HS s1.heap) ju (pm.trans wpv) srt (λu d ⟨v,rv,rp⟩ hd=>eF (yb d hd) (Y9 I2 rp (L7<|yb d hd) rv)) yb nd;have e2:ou=Q9 ds:=dH we (U3 ds) λd=>by rw[p2.mem_iff,mem,G8 pt]
   subst e2;obtain⟨wv,ph,rr⟩:=st3.ac2;have I2':=I2.kept (h':=h1) (t':=tk) k;have I3:=I2'.laid (a:=l) (o:=.lst wv) (h':=h') (t':=tk) k2 hl ⟨by rw[rr.length];exact aAr ug (by decide),gu,n,ph,gl⟩;exact⟨.ref l,_,I3,rfl,q wv _ l (sm.trans s12) (I2'.hok.fresh hl) rr⟩
end
end DL
namespace SZ
open PySem
abbrev Zs (h:Heap)(z TI TO:Addr)(f0 f1:Value):Prop:=h.get? z=some {cls:=.type "zip",dict:=none,data:=.fields #[f0,f1,.bool false,.ref TI,.ref TO],slots:=#[]}
def xC (f0:Value):Prop:=f0=.none\/∃a:Nat,f0=rawInt a
section
def alive {Q:Option Obj->Shared->Prop}(h:Q (s.heap.get? c) s):wpAny (model prog w) A (loadIfAlive c) Q E s:=λΓ p _=>by unfold loadIfAlive;rw[Sem.wp_loadIfAlive];simpa using h
def mK {Q:yH}(hz:Zs s.heap z TI TO f0 f1)(ho:xC f0)(q1:Q true s)(q2:∀h' f1',Zs h' z TI TO f0 f1'->Heap.SameBut z s.heap h'->Q false {s with heap:=h'}):wpAny (model prog w) A (aBP (.ref z)) Q E s:=by
 unfold aBP;refine aAa (aCL hz rfl (x:=f0) rfl ?_);rcases ho with rfl|⟨a,rfl⟩
 ·exact aAb q1
 ·show wpAny _ _ (loadIfAlive (aEw (a:Int))>>=_) _ _ _;refine aAa (alive ?_);by_cases hn:(s.heap.get?<|aEw (a:Int)).isNone=true
  ·rw[if_pos hn];exact aAb q1
  ·rw[if_neg hn];refine aAa (aCL hz rfl (x:=f1) rfl ?_);by_cases hb:(f1 !=aDp true)=true
   ·rw[if_pos hb];refine aAa (aBY hz (by simp) λh' e' s'=>aAb (q2 h' (.bool true) e' s'))
   ·rw[if_neg hb];exact aAb (q2 s.heap f1 hz ⟨rfl,λ_ _=>rfl⟩)
def NE {Q:C8}(D:ZipApart z TI TO i1 i2 l1 l2)(hz:Zs s.heap z TI TO f0 f1)(ho:xC f0)(uh:IsPair s.heap TI (.ref i1) (.ref i2))(sv:IsPair s.heap TO a b)(h1:s.heap.IsListIter i1 l1 k)(h2:s.heap.IsListIter i2 l2 k)(og:s.heap.IsList l1 xs)(ki:s.heap.IsList l2 ys)(hx:xs[k]?=some x)(hy:ys[k]?=some y)(hQ:∀h' T f0' f1' a' b',Zs h' z TI TO f0' f1'->xC f0'->IsPair h' TO a' b'->h'.IsListIter i1 l1 (k+1)->h'.IsListIter i2 l2 (k+1)->s.heap.objs.size<=T->IsPair h' T x y->
   (∀c o,c≠z->c≠TO->c≠i1->c≠i2->s.heap.get? c=some o->h'.get? c=some o)->Q (.ref T) {s with heap:=h'}):
  wpAny (model prog w) A (Builtin.«zip.__next__» ⟨[.ref z],[]⟩) (λfin s'=>∃v,fin=.done (.ret v)/\Q v s') E s:=by
 show wpAny _ _ (field (.ref z) 2>>=_) _ _ _;refine aAa (aCL hz rfl (x:=.bool false) rfl ?_);show wpAny _ _ (field (.ref z) 3>>=_) _ _ _;refine aAa (aCL hz rfl (x:=.ref TI) rfl ?_);refine aAa (aBL uh rfl ?_);show wpAny _ _ (aBP (.ref z)>>=_) _ _ _;refine aAa (mK hz ho ?_ λh₁ f1' yc il=>?_)
 ·simp only[if_true];refine aAa (aDq ?_);refine aAa (aCL hz rfl (x:=.ref TO) rfl ?_);refine aAa (aBY hz (by simp) λh₁ yc il=>?_);replace yc:Zs h₁ z TI TO .ellipsis f1:=yc;refine aAa ?_;simp only[aEm,aEy,aCR,aDY];refine aAa (aAa<|wpAny_onRaise ?_);show wpAny _ _ (aBM (.ref i1)>>=_) _ _ _;refine aAa (aDd (h1.extBut il.extBut D.i1z) (og.extBut il.extBut D.l1z) hx λir h10 kn=>aAb ?_);have hTO3:IsPair ir TO a b:=kn.extBut _ _ D.TOi1 (il.extBut _ _ D.TOz sv);refine aAa (aBL hTO3 rfl ?_);refine aAa (wpAny_updateSeq_pair hTO3 λaA hTO2 zc=>?_);replace hTO2:IsPair aA TO x b:=hTO2;refine aAa (aDX<|aAb ?_);refine aAa (aAa<|wpAny_onRaise ?_);show wpAny _ _ (aBM (.ref i2)>>=_) _ _ _;refine aAa (aDd (((h2.extBut il.extBut D.i2z).extBut kn.extBut D.i12.symm).extBut zc.extBut D.TOi2.symm)
   (((ki.extBut il.extBut D.l2z).extBut kn.extBut D.l2i1).extBut zc.extBut D.l2TO) hy λhV h20 wg=>aAb ?_)
  have zd:IsPair hV TO x b:=wg.extBut _ _ D.TOi2 hTO2;refine aAa (aBL zd rfl ?_);refine aAa (wpAny_updateSeq_pair zd λh9 ze hs7=>?_);replace ze:IsPair h9 TO x y:=ze;refine aAa (aDX<|aAb<|aAb ?_);refine aAa (aBL ze rfl ?_);refine aAa (aFV ?_);have hsz:h9.objs.size=s.heap.objs.size:=by rw[hs7.1,wg.1,zc.1,kn.1,il.1]
  have hz3:Zs h9 z TI TO .ellipsis f1:=hs7.extBut _ _ D.TOz.symm (wg.extBut _ _ D.i2z.symm<|zc.extBut _ _ D.TOz.symm<|kn.extBut _ _ D.i1z.symm yc);have hk3:∀c o,c≠z->c≠TO->c≠i1->c≠i2->s.heap.get? c=some o->h9.get? c=some o:=λc o c1 c2 c3 c4 e=>hs7.extBut _ _ c2 (wg.extBut _ _ c4<|zc.extBut _ _ c2<|kn.extBut _ _ c3<|il.extBut _ _ c1 e)
  have h11:h9.IsListIter i1 l1 (k+1):=((h10.extBut zc.extBut D.TOi1.symm).extBut wg.extBut D.i12).extBut hs7.extBut D.TOi1.symm;have h21:h9.IsListIter i2 l2 (k+1):=h20.extBut hs7.extBut D.TOi2.symm;have hzlt:z<h9.objs.size:=aAf hz3;show wpAny _ _ (aDB (.ref z) (.ref h9.objs.size)>>=_) _ _ _;refine aAa ?_;unfold aDB;have hz5:Zs (h9.push {cls:=.type "tuple",data:=.seq #[x,y]}) z TI TO .ellipsis f1:=aAc _ hz3;refine aAa (aBY hz5 (by simp) λaC hz1 hs8=>?_);replace hz1:Zs aC z TI TO (rawInt h9.objs.size) f1:=hz1;refine aBY hz1 (by simp) λaB hz2 hs9=>?_;replace hz2:Zs aB z TI TO (rawInt h9.objs.size) (.bool false):=hz2;have up:∀c o,c≠z->h9.get? c=some o->aB.get? c=some o:=λc o c1 e=>hs9.extBut _ _ c1 (hs8.extBut _ _ c1<|aAc _ e);have hT0:IsPair aB h9.objs.size x y:=hs9.extBut _ _ (aCh hzlt) (hs8.extBut _ _ (aCh hzlt)<|aAp _ rfl);refine aAb ⟨_,rfl,?_⟩;exact hQ aB h9.objs.size _ _ x y hz2 (.inr ⟨_,rfl⟩) (up _ _ D.TOz ze) (h11.at λo e=>up _ o D.i1z e) (h21.at λo e=>up _ o D.i2z e) (aEb hsz.symm) hT0 λc o c1 c2 c3 c4 e=>up c o c1 (hk3 c o c1 c2 c3 c4 e)
 ·simp only[aAt,if_false];refine aAa ?_;show wpAny _ _ (forIn (#[.ref i1,.ref i2]:Array Value) _ _) _ _ _;rw[<-aCo];simp only[aCR,aDY];refine aAa (aAa<|aAJ ?_);show wpAny _ _ (aBM (.ref i1)>>=_) _ _ _;refine aAa (aDd (h1.extBut il.extBut D.i1z) (og.extBut il.extBut D.l1z) hx λir h10 kn=>aAb ?_);refine aAb ?_;refine aAa (aAa<|aAJ ?_);show wpAny _ _ (aBM (.ref i2)>>=_) _ _ _;refine aAa (aDd ((h2.extBut il.extBut D.i2z).extBut kn.extBut D.i12.symm) ((ki.extBut il.extBut D.l2z).extBut kn.extBut D.l2i1) hy λhV h20 wg=>aAb ?_);refine aAb (aAb ?_);have hsz:hV.objs.size=s.heap.objs.size:=by rw[wg.1,kn.1,il.1]
  have hz6:Zs hV z TI TO f0 f1':=wg.extBut _ _ D.i2z.symm (kn.extBut _ _ D.i1z.symm yc);have zd:IsPair hV TO a b:=wg.extBut _ _ D.TOi2 (kn.extBut _ _ D.TOi1<|il.extBut _ _ D.TOz sv);have h12:hV.IsListIter i1 l1 (k+1):=h10.extBut wg.extBut D.i12;show wpAny _ _ (newTuple [x,y]>>=_) _ _ _;refine aAa (aFV ?_);refine aAb ⟨_,rfl,?_⟩;exact hQ _ hV.objs.size _ _ a b (aAc _ hz6) ho (aAc _ zd) (h12.at λo e=>aAc _ e) (h20.at λo e=>aAc _ e) (aEb hsz.symm) (aAp _ rfl)
   λc o c1 c2 c3 c4 e=>aAc _ (wg.extBut _ _ c4<|kn.extBut _ _ c3<|il.extBut _ _ c1 e)
def SX {Q:Fin->Shared->Prop}(hh:A.handled=none)(D:ZipApart z TI TO i1 i2 l1 l2)(hz:Zs s.heap z TI TO f0 f1)(ho:xC f0)(uh:IsPair s.heap TI (.ref i1) (.ref i2))(sv:IsPair s.heap TO a b)
  (h1:s.heap.IsListIter i1 l1 k) (h2:s.heap.IsListIter i2 l2 k) (og:s.heap.IsList l1 xs) (ki:s.heap.IsList l2 ys) (hx:xs[k]?=none)
  (hE:∀h' e,(∀c o,c≠z->c≠TO->c≠i1->c≠i2->s.heap.get? c=some o->h'.get? c=some o)->(∃o,h'.get? e=some o/\o.cls=.type "StopIteration")->E (.ref e) {s with heap:=h'}):
  wpAny (model prog w) A (Builtin.«zip.__next__» ⟨[.ref z],[]⟩) Q E s:=by
 show wpAny _ _ (field (.ref z) 2>>=_) _ _ _;refine aAa (aCL hz rfl (x:=.bool false) rfl ?_);show wpAny _ _ (field (.ref z) 3>>=_) _ _ _;refine aAa (aCL hz rfl (x:=.ref TI) rfl ?_);refine aAa (aBL uh rfl ?_);show wpAny _ _ (aBP (.ref z)>>=_) _ _ _;refine aAa (mK hz ho ?_ λh₁ f1' yc il=>?_)
 ·simp only[if_true];refine aAa (aDq ?_);refine aAa (aCL hz rfl (x:=.ref TO) rfl ?_);refine aAa (aBY hz (by simp) λh₁ yc il=>?_);replace yc:Zs h₁ z TI TO .ellipsis f1:=yc;refine aAa ?_;simp only[aEm,aEy,aCR,aDY];refine aAa (aAa<|wpAny_onRaise ?_);show wpAny _ _ (aBM (.ref i1)>>=_) _ _ _;refine aAa (wpAny_nextOf_list_end hh (h1.extBut il.extBut D.i1z) (og.extBut il.extBut D.l1z) hx λir e kn he=>?_);obtain⟨oe,hoe,hce⟩:=he;have hz4:Zs ir z TI TO .ellipsis f1:=kn _ _ D.i1z.symm yc;have hez:e≠z:=λx=>by subst x;rw[hz4]at hoe;cases hoe;simp at hce
  exact aBY hz4 (by simp) λaA _ zc=>hE aA e (λc o c1 _ c3 _ x=>zc.extBut _ _ c1 (kn _ _ c3<|il.extBut _ _ c1 x)) ⟨oe,zc.extBut _ _ hez hoe,hce⟩
 ·simp only[aAt,if_false];refine aAa ?_;show wpAny _ _ (forIn (#[.ref i1,.ref i2]:Array Value) _ _) _ _ _;rw[<-aCo];simp only[aCR,aDY];refine aAa (aAa<|aAJ ?_);show wpAny _ _ (aBM (.ref i1)>>=_) _ _ _;exact aAa (wpAny_nextOf_list_end hh (h1.extBut il.extBut D.i1z) (og.extBut il.extBut D.l1z) hx λir e kn he=>hE ir e (λc o c1 _ c3 _ x=>kn _ _ c3 (il.extBut _ _ c1 x)) he)
end
def JJ (z TI TO i1 i2 l1 l2:Addr)(xs ys:Array Value)(i:Nat)(h:Heap):Prop:=
 (∃f0 f1,Zs h z TI TO f0 f1/\xC f0)/\IsPair h TI (.ref i1) (.ref i2)/\(∃a b,IsPair h TO a b)/\h.IsListIter i1 l1 i/\h.IsListIter i2 l2 i/\h.IsList l1 xs/\h.IsList l2 ys
section
variable{s:Shared}
def JJ.type (h:JJ z TI TO i1 i2 l1 l2 xs ys i s.heap):s.TypeIs (.ref z) "zip":=by obtain⟨⟨f0,f1,hz,_⟩,_⟩:=h;exact⟨_,hz,rfl⟩
def JJ.keeps (x:JJ z TI TO i1 i2 l1 l2 xs ys i h)(k:∀b o,b∈[z,TI,TO,i1,i2,l1,l2]->h.get? b=some o->h'.get? b=some o):JJ z TI TO i1 i2 l1 l2 xs ys i h':=by obtain⟨⟨f0,f1,hz,ho⟩,uh,⟨a,b,sv⟩,h1,h2,og,ki⟩:=x;exact⟨⟨f0,f1,k z _ (by simp) hz,ho⟩,k TI _ (by simp) uh,⟨a,b,k TO _ (by simp) sv⟩,h1.at λo e=>k i1 o (by simp) e,h2.at λo e=>k i2 o (by simp) e,og.at λo e=>k l1 o (by simp) e,ki.at λo e=>k l2 o (by simp) e⟩
def LG {Q:Option Value->Shared->Prop}(D:ZipApart z TI TO i1 i2 l1 l2)(hl:xs.size=ys.size)(st:JJ z TI TO i1 i2 l1 l2 xs ys i s.heap)(hi:i<xs.size)(hQ:∀h' T x y,xs[i]?=some x->ys[i]?=some y->JJ z TI TO i1 i2 l1 l2 xs ys (i+1) h'->s.heap.objs.size<=T->IsPair h' T x y->(∀c o,c∉[z,TO,i1,i2]->s.heap.get? c=some o->h'.get? c=some o)->Q (some (.ref T)) {s with heap:=h'}):
  wpAny (model prog w) A (pyNext (.ref z)) Q E s:=by
 have hT:=st.type;obtain⟨⟨f0,f1,hz,ho⟩,uh,⟨a,b,sv⟩,h1,h2,og,ki⟩:=st;have hx:xs[i]?=some xs[i]:=aAw hi;have hy:ys[i]?=some (ys[i]'(by lia)):=aAw (by lia);unfold pyNext;refine aAa (aDR (aBV (name:=aCw "__next__") hT aDS
  (aBf aDS hT F.entry_zip_next (NE D hz ho uh sv h1 h2 og ki hx hy λh' T f0' f1' a' b' e1 e2 e3 e4 e5 e6 e7 kp=>aAb ?_)<|F.args_zip_next_1 _)))
 refine hQ h' T _ _ hx hy ⟨⟨f0',f1',e1,e2⟩,kp _ _ D.TIz D.TITO D.TIi1 D.TIi2 uh,⟨a',b',e3⟩,e4,e5,og.at λo e=>kp _ o D.l1z D.l1TO D.l1i1 D.l1i2 e,ki.at λo e=>kp _ o D.l2z D.l2TO D.l2i1 D.l2i2 e⟩ e6 e7 λc o hc e=>?_;simp only[aAd,aAE,or_false,not_or]at hc;exact kp c o hc.1 hc.2.1 hc.2.2.1 hc.2.2.2 e
def JS {Q:Option Value->Shared->Prop}(hh:A.handled=none)(D:ZipApart z TI TO i1 i2 l1 l2)(st:JJ z TI TO i1 i2 l1 l2 xs ys xs.size s.heap)
  (hQ:∀h',(∀c o,c∉[z,TO,i1,i2]->s.heap.get? c=some o->h'.get? c=some o)->Q none {s with heap:=h'}):wpAny (model prog w) A (pyNext (.ref z)) Q E s:=by
 have hT:=st.type;obtain⟨⟨f0,f1,hz,ho⟩,uh,⟨a,b,sv⟩,h1,h2,og,ki⟩:=st;unfold pyNext;refine aAa (aDR (aBV (name:=aCw "__next__") hT aDS
  (aBf aDS hT F.entry_zip_next (SX (by simpa using hh) D hz ho uh sv h1 h2 og ki (aBz<|aAh _) λh' e kp he=>?_)<|F.args_zip_next_1 _)))
 obtain⟨o,yg,hc⟩:=he;refine aAa (aCY (T:= "StopIteration") (b:=true) ⟨o,yg,hc⟩ aFU ?_);refine aAb (hQ _ λc o hc e=>?_);simp only[aAd,aAE,or_false,not_or]at hc;exact kp c o hc.1 hc.2.1 hc.2.2.1 hc.2.2.2 e
def Pairs (h0:Heap)(xs ys acc:Array Value)(i:Nat)(h:Heap)(off:List Addr):Prop:=acc.size=i/\∀(j:Nat) (v:Value),acc[j]?=some v->∃T x y,v=.ref T/\xs[j]?=some x/\ys[j]?=some y/\IsPair h T x y/\T∉off/\h0.get? T=none
def MO (hh:A.handled=none)(D:ZipApart z TI TO i1 i2 l1 l2)(hl:xs.size=ys.size)(hn:xs.size<=sizeLine)(S:Addr)(pg:S∉[z,TI,TO,i1,i2,l1,l2])(res:Value)(h0:Heap):
  ∀(k i:Nat) (s:Shared) (acc:Array Value) (c:Nat),xs.size-i=k->i<=xs.size->(∀b o,b∉[z,TO,i1,i2,S]->h0.get? b=some o->s.heap.get? b=some o)->JJ z TI TO i1 i2 l1 l2 xs ys i s.heap->s.heap.get? S=some {cls:=.type "list",dict:=none,data:=.seq acc c,slots:=#[]}->Pairs h0 xs ys acc i s.heap [z,TO,i1,i2,S]->
  (∀h' ic c',(∀b o,b∉[z,TO,i1,i2,S]->s.heap.get? b=some o->h'.get? b=some o)->h'.get? S=some {cls:=.type "list",dict:=none,data:=.seq ic c',slots:=#[]}->Pairs h0 xs ys ic xs.size h' [z,TO,i1,i2,S]->R (.ok (.ret res)) {s with heap:=h'})->
  codeAny (model prog w) A (.builtin "list.extend.loop" ⟨[.ref S,.ref z,res],[]⟩) R s:=by
 have hS4:S∉[z,TO,i1,i2]:=λh=>pg (by simp only[aAd,aAE,or_false]at h⊢;rcases h with h|h|h|h<;>simp[h]);have to5:∀b,b∉[z,TO,i1,i2,S]->b∉[z,TO,i1,i2]:=λb h q=>h (by simp only[aAd,aAE,or_false]at q⊢;rcases q with q|q|q|q<;>simp[q]);intro k;induction k with
 |zero=>
  intro i s acc c hk hi h0k jg hS dc hR;have nc:i=xs.size:=by lia
  subst nc;refine aBr F.entry_extend_loop ?_;rw[aAX aCX _];show wpAny _ A.in1 (pyNext (.ref z)>>=_) _ _ s;refine aAa (JS (by simpa using hh) D jg λh' kp=>?_);refine aAb (hR h' acc c (λb o hb e=>kp b o (to5 b hb) e) (kp S _ hS4 hS) ⟨dc.1,λj v hv=>?_⟩);obtain⟨T,x,y,e1,e2,e3,e4,e5,e6⟩:=dc.2 j v hv;exact⟨T,x,y,e1,e2,e3,kp T _ (to5 T e5) e4,e5,e6⟩
 |succ k ih=>
  intro i s acc c hk hi h0k jg hS dc hR;have ar:i<xs.size:=by lia
  refine aBr F.entry_extend_loop ?_;rw[aAX aCX _];show wpAny _ A.in1 (pyNext (.ref z)>>=_) _ _ s;refine aAa (LG D hl jg ar λh' T x y hx hy kh hT hP kp=>?_);have jd:=kp S _ hS4 hS;have Tne:∀b o,s.heap.get? b=some o->T≠b:=λb o e q=>absurd (aAs (aAf e) hT) (by rw[q];exact aBe _);obtain⟨⟨f0,f1,hz,_⟩,_,⟨a,b,sv⟩,⟨o1,g1,_⟩,⟨o2,g2,_⟩,_⟩:=id jg;have hTo:T∉[z,TO,i1,i2,S]:=by simp only[aAd,aAE,or_false,not_or];exact⟨Tne _ _ hz,Tne _ _ sv,Tne _ _ g1,Tne _ _ g2,Tne _ _ hS⟩
  show wpAny _ A.in1 (updateSeq S (·.push (.ref T))>>=_) _ _ _;refine aAa ?_;have uf:∀b o,b≠S->h'.get? b=some o->(h'.update S (aBA (·.push (.ref T)))).get? b=some o:=λb o hb e=>(aAC _ _<|aCb hb).trans e;have neS:∀b,b∈[z,TI,TO,i1,i2,l1,l2]->b≠S:=λb hb q=>pg (q▸hb);refine aCl jd rfl (aAb ⟨aBO aCX _,ih (i+1) _ (acc.push<|.ref T) _ (by lia) ar (λb o hb e=>uf b o (λq=>hb (by simp[q])) (kp b o (to5 b hb)<|h0k b o hb e)) (kh.keeps λb o hb e=>uf b o (neS b hb) e) (aAY _ jd rfl) ⟨by rw[Array.size_push,dc.1],λj v hv=>?_⟩ λh'' ic c' kp' vp hacc'=>?_⟩)
   (by rw[dc.1];lia) (by show(acc.push<|.ref T).size<=sizeLine+1;rw[Array.size_push,dc.1];lia)
  ·rw[Array.getElem?_push]at hv;split at hv
   ·rename_i q;cases hv;rw[dc.1]at q;subst q;refine⟨T,x,y,rfl,hx,hy,uf T _ (Tne _ _ hS) hP,hTo,?_⟩;cases q0:h0.get? T with
    |none=>rfl
    |some o=>exact absurd rfl (Tne T o<|h0k T o hTo q0)
   ·obtain⟨T',x',y',e1,e2,e3,e4,e5,e6⟩:=dc.2 j v hv;have n5:T'≠S:=λq=>e5 (by simp[q]);exact⟨T',x',y',e1,e2,e3,uf T' _ n5 (kp T' _ (to5 T' e5) e4),e5,e6⟩
  ·refine hR h'' ic c' (λb o hb e=>kp' b o hb (uf b o (λq=>hb (by simp[q]))<|kp b o (to5 b hb) e)) vp hacc'
end
section
def cS {Q:C8}(St:Heap->Prop)(hT:∀s1:Shared,St s1.heap->s1.TypeIs (.ref I) T)(fr:∀h h',St h->(∀b o,b≠s.heap.objs.size->h.get? b=some o->h'.get? b=some o)->St h')(hIS:I≠s.heap.objs.size)
  (n1:(aCm T==aCm "list")=false) (n2:(aCm T==aCm "tuple")=false) (n3:∀{M:Model} {A:Around} {E:C8} {s:Shared} {Q:Fin->Shared->Prop} {a b:Sem Fin},(room=true->wpAny M A a Q E s)->(room=false->wpAny M A b Q E s)->wpAny M A (if(room||["set", "frozenset", "dict", "dict_keys", "dict_values", "dict_items"].any (aCm T==aCm ·))=true then a else b) Q E s)
  (self:∀(s1:Shared) (Q:C8) (E:C8),St s1.heap->Q (.ref I) s1->wpAny (model prog w) A.in1.in1 (pyIter (.ref I)) Q E s1)
  (hint:∀(s1:Shared) (Q:yH) (E:C8),St s1.heap->Q room s1->wpAny (model prog w) A.in1.in1 (aCC (.ref I)) Q E s1) (jg:St s.heap)
  (loop:∀(h1:Heap) (c:Nat) (R:Result->Shared->Prop),(∀b o,s.heap.get? b=some o->h1.get? b=some o)->St h1->h1.get? s.heap.objs.size=some {cls:=.type "list",dict:=none,data:=.seq #[] c,slots:=#[]}->(∀s',Q (.ref s.heap.objs.size) s'->R (.ok (.ret .none)) s')->
   codeAny (model prog w) A.in1 (.builtin "list.extend.loop" ⟨[.ref s.heap.objs.size,.ref I,.none],[]⟩) R {s with heap:=h1}):
  wpAny (model prog w) A (call (.type "list") [.ref I]) Q E s:=by
 refine callType_codes (Q₁:=λobj ae=>obj=.ref s.heap.objs.size/\ae={s with heap:=s.heap.push {cls:=.type "list",data:=.seq #[]}}) F.called_list (F.typeCall_list_1 _) F.entry_list_init
  (code_list_new _ ⟨rfl,rfl⟩) λobj ae h₁=>?_
 obtain⟨rfl,rfl⟩:=h₁;have hS:(s.heap.push {cls:=.type "list",data:=.seq #[]}).get? s.heap.objs.size=some {cls:=.type "list",data:=.seq #[]}:=aAp _ rfl;have ks:∀b o,s.heap.get? b=some o->b≠s.heap.objs.size:=λb o e=>aAi (aAf e);refine⟨⟨_,hS,rfl⟩,F.args_list_init_2 _ _,?_⟩;show wpAny _ A.in1.in1 (do let old<-aCF (.ref s.heap.objs.size);Builtin.List.listUpdate (.ref s.heap.objs.size) (λ_=>#[]);letGo old.toList.reverse;aBZ (.ref s.heap.objs.size) (.ref I) .none) _ _ _;refine aAa ?_;unfold aCF;refine aAa (aBL hS rfl<|aAb ?_);show wpAny _ A.in1.in1 (updateSeq s.heap.objs.size (λ_=>#[])>>=λ_=>letGo (#[]:Array Value).toList.reverse>>=λ_=>aBZ (.ref s.heap.objs.size) (.ref I) .none) _ _ _;refine aAa (aCl hS rfl ?_);have hS3:=aAY (aBA<|λ_=>(#[]:Array Value)) hS rfl;refine aAa (aDX ?_);generalize hh2:(s.heap.push {cls:=.type "list",data:=.seq #[]}).update s.heap.objs.size (aBA<|λ_=>(#[]:Array Value))=h2 at*
 have k2:∀b o,s.heap.get? b=some o->h2.get? b=some o:=λb o e=>by rw[<-hh2];exact(aAC _ _<|aCb<|ks b o e).trans (aAc _ e)
 have ju:St h2:=fr s.heap h2 jg λb o _ e=>k2 b o e;have hSI:aCT (.ref s.heap.objs.size) (.ref I)=false:=by simp[aCT,aCb hIS]
 have hT2:Shared.TypeIs {s with heap:=h2} (.ref I) T:=hT {s with heap:=h2} ju;unfold aBZ;refine aAa (aDH hT2 ?_);simp only[hSI,n1,n2,Bool.or_false,aAt,if_false];refine aAa (self _ _ _ ju ?_);refine aAa (aAJ<|hint _ _ _ ju ?_);refine n3 (λ_=>?_) (λ_=>?_)
 ·show wpAny _ A.in1.in1 (rule "list.extend.makes-room">>=λ_=>aFw (.ref s.heap.objs.size)>>=λ_=>again (.builtin "list.extend.loop" ⟨[.ref s.heap.objs.size,.ref I,.none],[]⟩)) _ _ _;refine aAa (aDq ?_);refine aAa ?_;show wpAny _ A.in1.in1 (updateSeq s.heap.objs.size (·.push .none)>>=λ_=>updateSeq s.heap.objs.size (·.pop)) _ _ _;refine aAa (aCl hS3 rfl ?_);have hS5:=aAY (aBA (·.push Value.none)) hS3 rfl;refine aCl (hz:=by seq_fits) hS5 rfl ?_;have hS6:=aAY (aBA (·.pop)) hS5 rfl;have uf:∀b o,b≠s.heap.objs.size->h2.get? b=some o->((h2.update s.heap.objs.size (aBA (·.push Value.none))).update s.heap.objs.size (aBA (·.pop))).get? b=some o:=
   λb o hb e=>(aAC _ _<|aCb hb).trans ((aAC _ _<|aCb hb).trans e)
  exact aAb ⟨aBO aCX _,loop _ _ _ (λb o e=>uf b o (ks b o e) (k2 b o e)) (fr h2 _ ju uf) hS6 λs' q=>⟨rfl,q⟩⟩
 ·exact aAb ⟨aBO aCX _,loop _ _ _ k2 ju hS3 λs' q=>⟨rfl,q⟩⟩
def FJ:typeLookup (.type "zip") "__len__"=pure none:=by rw[aDn,aCk];kernel_rfl
def BK:typeLookup (.type "zip") "__length_hint__"=pure none:=by rw[aDn,aCk];kernel_rfl
def JQ {Q:C8}(hh:A.handled=none)(D:ZipApart z TI TO i1 i2 l1 l2)(hl:xs.size=ys.size)(hn:xs.size<=sizeLine)(st:JJ z TI TO i1 i2 l1 l2 xs ys 0 s.heap)(hQ:∀h' acc c,(∀b o,b∉[z,TO,i1,i2]->s.heap.get? b=some o->h'.get? b=some o)->h'.get? s.heap.objs.size=some {cls:=.type "list",dict:=none,data:=.seq acc c,slots:=#[]}->Pairs s.heap xs ys acc xs.size h' [z,TO,i1,i2,s.heap.objs.size]->Q (.ref s.heap.objs.size) {s with heap:=h'}):
  wpAny (model prog w) A (call (.type "list") [.ref z]) Q E s:=by
 have lt:∀b∈[z,TI,TO,i1,i2,l1,l2],b≠s.heap.objs.size:=λb hb=>by
  obtain⟨⟨f0,f1,hz,_⟩,uh,⟨a,b',sv⟩,⟨o1,g1,_⟩,⟨o2,g2,_⟩,⟨o3,g3,_⟩,⟨o4,g4,_⟩⟩:=st;simp only[aAd,aAE,or_false]at hb;rcases hb with rfl|rfl|rfl|rfl|rfl|rfl|rfl
  ·exact aAi (aAf hz)
  ·exact aAi (aAf uh)
  ·exact aAi (aAf sv)
  ·exact aAi (aAf g1)
  ·exact aAi (aAf g2)
  ·exact aAi (aAf g3)
  ·exact aAi (aAf g4)
 refine cS (T:= "zip") (room:=true) (JJ z TI TO i1 i2 l1 l2 xs ys 0) (λs1 h=>h.type) (λh h' x k=>x.keeps λb o hb e=>k b o (lt b hb) e) (lt z (by simp)) (by decide) (by decide) (λh1 h2=>by rw[if_pos (by decide)];exact h1 rfl)
  (λs1 Q E x q=>?_) (λs1 Q E x q=>?_) st λh1 c R k1 mR hS hR=>?_
 ·obtain⟨⟨f0,f1,hz,_⟩,_⟩:=id x;refine aDW x.type F.slot_zip_iter (aBf F.slot_zip_iter x.type F.entry_zip_iter ?_ (F.args_zip_iter_1 _));show wpAny _ _ (ret<|.ref z) _ _ s1;exact aAb ⟨_,rfl, "zip",_,x.type,aDS.lookup,q⟩
 ·unfold aCC;refine aAa (aBp x.type FJ ?_);show wpAny _ _ (specialOf (aDj z) (aCw "__length_hint__")>>=_) _ _ _;exact aAa (aBp x.type BK<|aAb q)
 ·refine MO (by simpa using hh) D hl hn s.heap.objs.size (λh=>lt _ h rfl) .none s.heap xs.size 0 _ #[] c (by lia) (aBc _) (λb o _ e=>k1 b o e) mR hS ⟨rfl,λj v h=>by simp at h⟩ λh' ic c' kp jd hP=>hR _ (hQ h' ic c' (λb o hb e=>kp b o ?_ (k1 b o e)) jd hP);have:=aAi (aAf e);simp only[aAd,aAE,or_false,not_or]at hb⊢;exact⟨hb.1,hb.2.1,hb.2.2.1,hb.2.2.2,this⟩
def GK:typeLookup (.type "list_reverseiterator") "__len__"=pure none:=by rw[aDn,aCk];kernel_rfl
def NX:typeLookup (.type "list_reverseiterator") "__length_hint__"=pure (some (.builtin "list_reverseiterator.__length_hint__")):=by rw[aDn,aCk];kernel_rfl
def JX {Q:C8}(hh:A.handled=none)(af:l≠r)(hn:xs.size<=sizeLine)(hr:s.heap.IsRevIter r l ((xs.size:Int)-1))(hl:s.heap.IsList l xs)(hQ:∀h' tk c,(∀b o,b≠r->s.heap.get? b=some o->h'.get? b=some o)->h'.get? s.heap.objs.size=some {cls:=.type "list",dict:=none,data:=.seq xs.reverse c,slots:=#[]}->Q (.ref s.heap.objs.size) {s with heap:=h',toks:=tk}):
  wpAny (model prog w) A (call (.type "list") [.ref r]) Q E s:=by
 have lr:r≠s.heap.objs.size:=by obtain⟨o,g,_⟩:=hr;exact aAi (aAf g)
 have ll:l≠s.heap.objs.size:=by obtain⟨o,g,_⟩:=hl;exact aAi (aAf g)
 refine cS (T:= "list_reverseiterator") (room:=false) (λh=>h.IsRevIter r l ((xs.size:Int)-1)/\h.IsList l xs) (λs1 h=>h.1.typeIs) (λh h' x k=>⟨x.1.at λo e=>k r o lr e,x.2.at λo e=>k l o ll e⟩) lr (by decide) (by decide)
  (λh1 h2=>by rw[if_neg (by decide)];exact h2 rfl) (λs1 Q E x q=>wpAny_pyIter_revIter x.1 q) (λs1 Q E x q=>?_) ⟨hr,hl⟩ λh1 c R k1 mR hS hR=>?_
 ·have hT:=x.1.typeIs;unfold aCC;refine aAa (aBp hT GK ?_);show wpAny _ _ (specialOf (aDj r) (aCw "__length_hint__")>>=_) _ _ _;refine aAa (aBp hT NX ?_)
  (generalize hid:("list_reverseiterator.__length_hint__":String)=id0;(fail_if_success (clear hid id0));wp_delta;rw[show splitId id0=some ("list_reverseiterator", "__length_hint__")from by subst hid;decide+kernel];subst hid)
  refine aAa (aCY (b:=true) hT (by rw[aEU];kernel_rfl) ?_);exact aAb q
 ·have W:=(Walks.listRev (prog:=prog) (w:=w) (A:=A.in1.in1) (by simp[hh]) r l af xs).toS;refine codeAny_extend_loopS W hn s.heap.objs.size (by simp only[aAd,aAE,or_false,not_or];exact⟨aCb lr,aCb ll⟩) .none xs.size 0 _ #[] c (by lia) (aBc _) ⟨aBc _,by simpa using mR.1,mR.2⟩ hS (ItemsOf.nil _) λs' ic c' hm jd dc=>hR _ ?_;have ea:ic=xs.reverse:=by
   apply Array.ext';apply aDs;intro i;rw[aAB,aAB];by_cases hi:i<xs.size
   ·have ue:i<ic.size:=by rw[dc.1];exact hi
    have:=dc.2 i _ (aAw ue);rw[aAw ue,Array.getElem?_reverse hi,this]
   ·rw[aBz (by rw[dc.1];lia),aBz (by simp;lia)]
  subst ea;have g0:s'.gens=s.gens:=hm.gens;have d0:s'.drawn=s.drawn:=hm.drawn;have o0:s'.os=s.os:=hm.os;obtain⟨h',g',d',xu,os'⟩:=s';subst g0 d0 o0;refine hQ h' xu c' (λb o hb e=>?_) jd;exact hm.heap b o (by simp only[aAd,aAE,or_false,not_or];exact⟨aAi (aAf e),hb⟩) (k1 b o e)
end
end SZ
namespace DL
open PySem PySem.Spec L2
open PyProof.Rows hiding St
variable [Tabs]
def _root_.L2.ObjOk.live (x:ObjOk P w H h a o):h.get? a≠none:=by
 intro z;have key:∀{u:Obj},h.get? a=some u->False:=λq=>by rw[z]at q;cases q
 cases o with
 |lst xs=>obtain⟨_,_,_,_,e⟩:=x;exact key e
 |tup xs=>obtain⟨_,_,_,o,e,_⟩:=x;exact key e
 |dK kvs=>obtain⟨_,_,_,_,o,_,_,e,_⟩:=x;exact key e
 |dT kvs=>obtain⟨_,_,_,_,o,_,_,e,_⟩:=x;exact key e
 |set S n=>obtain⟨o,_,_,_,e,_⟩:=x;exact key e
 |ins C dx fs=>obtain⟨_,_,_,e,_⟩:=x;exact key e
 |own y=>obtain⟨_,e⟩:=x;exact key e
 |xd fs=>obtain⟨_,⟨_,_,_,e,_⟩,_⟩:=x;exact key e
 |rng lo hi=>obtain⟨_,_,_,e⟩:=x;exact key e
 |frz ob u=>obtain⟨e,_⟩:=x;exact key e
 |tbl tb=>obtain⟨_,e,_⟩:=x;exact key e
 |met f y=>exact key (show h.get? a=some _ from x)
 |ext φ=>obtain⟨_,⟨_,e⟩,_⟩:=x;exact key e
section
end
end DL
namespace DL
open PySem PySem.Spec L2
open PyProof.Rows hiding St
variable [Tabs]
section
def fj:D->R (List D)
 |.lst xs=>.ok xs.reverse
 |_=>.bad
def BX (ha:PB X e f)(hh:X.calm=true)(hg:Gl X "reversed":=by rfl)(hm:X.mg "reversed"=none:=by assumption)(hg2:Gl X "list":=by rfl)(kg:X.mg "list"=none:=by assumption)(hv:bootBuiltins "reversed"=some (.type "reversed"):=by decide+kernel)(hv2:bootBuiltins "list"=some (.type "list"):=by decide+kernel)(he:starEach [e] X.env=(false,eval e X.env)::starEach [] X.env:=by rfl)(bf:(backTo fu (starEach [] X.env)).any (·.1)=false:=by rfl)(km:starEach [.Call (.Name "reversed" p2) [e] [] fu] X.env=(false,eval (.Call (.Name "reversed" p2) [e] [] fu) X.env)::starEach [] X.env:=by rfl)(vv:(backTo pos (starEach [] X.env)).any (·.1)=false:=by rfl)(hnl:backTo pos (starEach [] X.env)=[]:=by rfl):
  PF X (.Call (.Name "list" p) [.Call (.Name "reversed" p2) [e] [] fu] [] pos) (λρ=>(f ρ).bind fj):=by
 refine vU λpins s σ H Q I H9 O0 O ρ E q=>?_;dsimp only at q;refine aAM (N0 I hg2 kg hv2 ?_ (by decide) (by decide));refine aBb ?_ km vv;rw[km];show wpAny _ _ (spliced ((false,eval (.Call (.Name "reversed" p2) [e] [] fu) X.env)::backTo pos (starEach [] X.env))) _ _ s;refine aEK (aAM (N0 I hg hm hv ?_ (by decide) (by decide)));have mo:PA X [e] _:=J9 ha aV he;refine aBb (D9 (mo fu pins s σ H (λvs H1=>∃v ds,vs=[v]/\f ρ=.ok (.lst ds)/\Same H H1/\A9 X.K H1 O v (.lst ds)) I ⟨H9,O0,O,ρ,E,?_⟩) λus s1 ⟨vs,H1,I1,r1,v,ds,ev,ef,sm,rb⟩=>?_) he bf
 ·cases e1:f ρ with
  |ex z=>rw[e1]at q;exact q
  |bad=>rw[e1]at q;exact q.elim
  |ok d=>
   rw[e1,R.aa0]at q;cases d with
   |lst ds=>exactλv H1 s1 r1=>⟨v,ds,rfl,rfl,s1,r1⟩
   |_=>exact aAm q
 ·subst ev;rw[ef,R.aa0]at q;obtain⟨a,ws,rfl,hS,rr⟩:=rb.aa5;obtain⟨u,rfl,ru⟩:=vals1 r1;cases ru;obtain⟨its,rv,⟨oL,nL,gL,cL,dL,sL⟩,zL⟩:=I1.list hS;have hl:s1.heap.IsList a its.toArray:=⟨oL,gL,cL,nL,sL⟩;refine call_reversed_list hl ?_;rw[hnl];refine aEZ ?_;have ge:a≠s1.heap.objs.size:=aAi (aAf gL);have I2:=I1.kept (h':=s1.heap.push (revObj a<|(its.toArray.size:Int)-1)) (t':=s1.toks) λb u e=>aAc _ e;refine SZ.JX (s:={s1 with heap:=s1.heap.push (revObj a<|(its.toArray.size:Int)-1)}) (I1.ok.hd hh) ge (by rw[aAq,<-rv.length];exact zL) ⟨_,aAp _ rfl,rfl,rfl⟩ (hl.push _) λh' tk c kp gl=>?_;have kk:∀b u,s1.heap.get? b=some u->h'.get? b=some u:=λb u e=>kp b u (aAi<|aAf e) (aAc _ e);have hle:s1.heap.objs.size<=(s1.heap.push<|revObj a<|(its.toArray.size:Int)-1).objs.size:=by rw[aBv];lia
  have vrev:n8 ws.reverse its.reverse:=by
   have:∀{vs:List V} {us:List Value},n8 vs us->n8 vs.reverse us.reverse:=λ{vs us} r=>by
    induction r with
    |nil=>exact .nil
    |cons r t ih=>rw[aAH,aAH];exact ih.append (.cons r .nil)
   exact this rv
  have I3:=I1.laid (a:=(s1.heap.push<|revObj a<|(its.toArray.size:Int)-1).objs.size) (o:=.lst ws.reverse) (h':=h') (t':=tk) kk hle ⟨by rw[aCD];exact zL,its.reverse,c,vrev,by rw[gl];simp⟩;exact⟨.ref _,_,I3,rfl,q ws.reverse H1 _ sm (I1.hok.fresh hle) rr.reverse⟩
def _root_.L2.Inv.ae0 (I:Inv X pins σ H s)(k:∀b u,s.heap.get? b=some u->h'.get? b=some u)(sm:Same H Hn)(mi:∀b u,H b=none->Hn b=some u->s.heap.get? b=none/\ObjOk X.prog X.w Hn h' b u):
  Inv X pins σ Hn {s with heap:=h',toks:=t'}:=by
 refine I.un ⟨λb o e _ _ _=>k b o e,λb o e _ _ _=>⟨o.slots,k b o e⟩,λb o e n _=>?_,λb o e _=>⟨o,k b o e⟩,λb xs e=>sm _ _ e,λb o u e=>sm _ _ e,λb tb e=>sm _ _ e⟩ λb u e=>?_
 ·cases q:Hn b with
  |none=>rfl
  |some u=>rw[(mi b u n q).1]at e;cases e
 ·cases q:H b with
  |none=>exact(mi b u q e).2
  |some u'=>have:=sm b u' q;rw[e]at this;cases this;exact(I.hok b u q).ab7 (λc v _ z=>k c v z) (λc z=>sm _ _ z) λc u _ z=>sm _ _ z
def kA (xs ys:List D):List D:=List.zipWith (λa b=>D.tup [a,b]) xs ys
def QX:List D->R (List D)
 |[.lst xs,.lst ys]=>if xs.length=ys.length then .ok (kA xs ys)else .bad
 |_=>.bad
def FP {K:PySem.W.Frag}{H1:Hp}{O:Addr->Prop}{h0 h':Heap}{l:Addr}(hf:∀b,h0.get? b=none->H1 b=none):∀{xs ys:List D} {ux uy acc:List Value},w9 K H1 O ux xs->w9 K H1 O uy ys->xs.length=ys.length->
  (∀(j:Nat) (v:Value),acc[j]?=some v->∃T x y,v=.ref T/\ux[j]?=some x/\uy[j]?=some y/\IsPair h' T x y/\T≠l/\h0.get? T=none)->acc.length=xs.length->
  ∃(vs:List V) (Hn:Hp),n8 vs acc/\Same H1 Hn/\(∀b u,H1 b=none->Hn b=some u->h0.get? b=none/\b≠l/\∃ws its,u=.tup ws/\ws.length<=2/\n8 ws its/\IsTup h' b its.toArray)/\Reps K Hn O vs (kA xs ys):=by
 intro xs ys ux uy acc;induction acc generalizing xs ys ux uy with
 |nil=>
  intro sx sy hl _ hz;cases xs with
  |nil=>cases ys with
   |nil=>exact⟨[],H1,.nil,Same.refl _,λb u n q=>(by rw[n]at q;cases q),.nil⟩
   |cons _ _=>cases hl
  |cons _ _=>cases hz
 |cons v acc ih=>
  intro sx sy hl hP hz;cases sx with
  |nil=>cases hz
  |@cons u d ux xs rx sx=>
   cases sy with
   |nil=>cases hl
   |@cons u' d' uy ys ry sy=>
    obtain⟨T,x,y,rfl,ex,ey,hp,nl,h0T⟩:=hP 0 v rfl;cases ex;cases ey;obtain⟨vs,Hn,r1,sm,mi,rr⟩:=ih sx sy (by simpa using hl) (λj v hj=>by obtain⟨T,x,y,e1,e2,e3,e4⟩:=hP (j+1) v (by simpa using hj);exact⟨T,x,y,e1,by simpa using e2,by simpa using e3,e4⟩) (by simpa using hz)
    obtain⟨vx,rvx,repx⟩:=rx;obtain⟨vy,rvy,repy⟩:=ry;have v2:n8 [vx,vy] [u,u']:=.cons rvx (.cons rvy .nil);cases q:Hn T with
    |none=>
     have s2:Same Hn (upd Hn T<|.tup [vx,vy]):=j7 q _;refine⟨.ref T::vs,upd Hn T (.tup [vx,vy]),.cons rfl r1,sm.trans s2,λb w n qb=>?_,.cons (.tup (W2.of j6) (.cons ((repx.same sm).same s2) (.cons ((repy.same sm).same s2) .nil))) (rr.same s2)⟩;by_cases hb:b=T
     ·subst hb;rw[j6]at qb;cases qb;exact⟨h0T,nl,_,_,rfl,by simp,v2,⟨_,hp,rfl,0,rfl⟩⟩
     ·rw[l5 hb]at qb;exact mi b w n qb
    |some w=>
     obtain⟨_,_,ws,its,rfl,_,vw,⟨o,g,_,n,dd⟩⟩:=mi T w (hf T h0T) q;have hp':h'.get? T=some {cls:=.type "tuple",data:=.seq #[u,u']}:=hp;rw[hp']at g;cases g;have e2:its=[u,u']:=by have:=congrArg (λd=>match d with|Data.seq a _=>a.toList|_=>[]) dd;simpa using this.symm
     subst e2;have:ws=[vx,vy]:=vw.inj v2;subst this;exact⟨.ref T::vs,Hn,.cons rfl r1,sm,mi,.cons (.tup (W2.of q) (.cons (repx.same sm) (.cons (repy.same sm) .nil))) rr⟩
def AU {e1 e2:Expr}{p p2 fu:Pos}{f1 f2:Ev->R D}(ha1:PB X e1 f1)(ha2:PB X e2 f2)(hh:X.calm=true)(hg:Gl X "zip":=by rfl)(hm:X.mg "zip"=none:=by assumption)(hg2:Gl X "list":=by rfl)(kg:X.mg "list"=none:=by assumption)
  (hv:bootBuiltins "zip"=some (.type "zip"):=by decide+kernel) (hv2:bootBuiltins "list"=some (.type "list"):=by decide+kernel)
  (he1:starEach [e2] X.env=(false,eval e2 X.env)::starEach [] X.env:=by rfl) (he:starEach [e1,e2] X.env=(false,eval e1 X.env)::starEach [e2] X.env:=by rfl) (bf:(backTo fu (starEach [e2] X.env)).any (·.1)=false:=by rfl)
  (km:starEach [.Call (.Name "zip" p2) [e1,e2] [] fu] X.env=(false,eval (.Call (.Name "zip" p2) [e1,e2] [] fu) X.env)::starEach [] X.env:=by rfl) (vv:(backTo pos (starEach [] X.env)).any (·.1)=false:=by rfl) (hnl:backTo pos (starEach [] X.env)=[]:=by rfl):
  PF X (.Call (.Name "list" p) [.Call (.Name "zip" p2) [e1,e2] [] fu] [] pos) (λρ=>(p8 f1 (p8 f2 Q7) ρ).bind QX):=by
 refine vU λpins s σ H Q I H9 O0 O ρ E q=>?_;dsimp only at q;refine aAM (N0 I hg2 kg hv2 ?_ (by decide) (by decide));refine aBb ?_ km vv;rw[km];show wpAny _ _ (spliced ((false,eval (.Call (.Name "zip" p2) [e1,e2] [] fu) X.env)::backTo pos (starEach [] X.env))) _ _ s;refine aEK (aAM (N0 I hg hm hv ?_ (by decide) (by decide)));have mo:VM X [e1,e2] (p8 f1<|p8 f2 Q7):=j3 ha1 (j3 ha2 l9 he1) he;refine aBb (D9 (mo fu pins s σ H (λvs H1=>∃v1 v2 xs ys,vs=[v1,v2]/\p8 f1 (p8 f2 Q7) ρ=.ok [.lst xs,.lst ys]/\xs.length=ys.length/\Same H H1/\A9 X.K H1 O v1 (.lst xs)/\A9 X.K H1 O v2 (.lst ys)) I ⟨H9,O0,O,ρ,E,?_⟩) λus s1 ⟨vs,H1,I1,r1,v1,v2,xs,ys,ev,ef,hxy,sm,rb1,rb2⟩=>?_) he bf
 ·cases e1:p8 f1 (p8 f2 Q7) ρ with
  |ex z=>rw[e1]at q;exact q
  |bad=>rw[e1]at q;exact q.elim
  |ok ds=>
   rw[e1,R.aa0]at q;match ds,q with
   |[.lst xs,.lst ys],q=>
    simp only[QX]at q;by_cases hc:xs.length=ys.length
    ·intro vs H1 s1 r1;cases r1 with
     |cons ra r1=>cases r1 with
      |cons rb r1=>cases r1 with
       |nil=>exact⟨_,_,xs,ys,rfl,rfl,hc,s1,ra,rb⟩
    ·rw[if_neg hc]at q;exact aAm q
 ·subst ev;rw[ef,R.aa0]at q;simp only[QX]at q;rw[if_pos hxy]at q;obtain⟨a,wx,rfl,hSx,rx⟩:=rb1.aa5;obtain⟨b,wy,rfl,hSy,ry⟩:=rb2.aa5;obtain⟨u1,u2,rfl,ru1,ru2⟩:=vals2 r1;cases ru1;cases ru2;obtain⟨itx,rvx,⟨oX,nX,gX,cX,dX,sX⟩,zX⟩:=I1.list hSx;obtain⟨ity,rvy,⟨oY,nY,gY,cY,dY,sY⟩,zY⟩:=I1.list hSy;have hlx:s1.heap.IsList a itx.toArray:=⟨oX,gX,cX,nX,sX⟩;have hly:s1.heap.IsList b ity.toArray:=⟨oY,gY,cY,nY,sY⟩;refine call_zip_2 hlx hly λh1 z1 z2 z3 z4 z5 zsz k1=>?_;rw[hnl];refine aEZ ?_;have lx:itx.length=xs.length:=by rw[<-rvx.length,rx.length]
  have ly:ity.length=ys.length:=by rw[<-rvy.length,ry.length]
  have I2:=I1.kept (h':=h1) (t':=s1.toks) k1;have D:=zipApart_new (n:=s1.heap.objs.size) (aAf gX) (aAf gY);refine SZ.JQ (s:={s1 with heap:=h1}) (I1.ok.hd hh) D (by rw[aAq,aAq,lx,ly,hxy]) (by rw[aAq,<-rvx.length];exact zX) ⟨⟨_,_,z1,.inl rfl⟩,z2,⟨_,_,z3⟩,z4,z5,hlx.at λo e=>k1 _ o e,hly.at λo e=>k1 _ o e⟩ λh' acc c kp gl hP=>?_;have k12:∀b u,s1.heap.get? b=some u->h'.get? b=some u:=λb u e=>kp b u (by have hb:=aAf e;simp only[aAd,aAE,or_false,not_or];exact⟨aAi (aAs hb<|aFr _ _),aAi (aAs hb<|aFr _ _),aAi hb,aAi (aAs hb<|aFr _ _)⟩) (k1 b u e)
  have sx:w9 X.K H1 O itx xs:=w9.of rvx rx;have sy:w9 X.K H1 O ity ys:=w9.of rvy ry;obtain⟨vs,Hn,rva,smn,mi,rr⟩:=FP (h0:=h1) (h':=h') (l:=h1.objs.size) (λb hb=>by
   cases q:H1 b with
   |none=>rfl
   |some u=>exact absurd hb ((I2.hok b u q).live)) (acc:=acc.toList) sx sy hxy (λj v hj=>by
   obtain⟨T,x,y,e1,e2,e3,e4,e5,e6⟩:=hP.2 j v (by rw[<-aAB];exact hj);exact⟨T,x,y,e1,by simpa using e2,by simpa using e3,e4,λz=>e5 (by simp[z]),e6⟩) (by rw[aBa,hP.1,aAq,lx])
  have hls:Hn h1.objs.size=none:=by
   cases q:Hn h1.objs.size with
   |none=>rfl
   |some u=>have:=(mi _ u (I2.hok.fresh<|aAh _) q).2.1;exact absurd rfl this
  have hlen:vs.length<=sizeLine:=by rw[rva.length,aBa,hP.1,aAq,<-rvx.length];exact zX
  have s3:Same Hn (upd Hn h1.objs.size<|.lst vs):=j7 hls _;have I3:=I1.ae0 (Hn:=upd Hn h1.objs.size (.lst vs)) (h':=h') (t':=s1.toks) k12 (smn.trans s3) (λb u n qb=>by
   by_cases hb:b=h1.objs.size
   ·subst hb;rw[j6]at qb;cases qb;refine⟨aEo (by rw[zsz];lia),hlen,acc.toList,c,rva,by rw[gl]⟩
   ·rw[l5 hb]at qb;obtain⟨h0b,_,ws,its,rfl,l2,vw,tt⟩:=mi b u n qb;refine⟨?_,aAr l2 (by decide),its,vw,tt⟩;cases z:s1.heap.get? b with
    |none=>rfl
    |some o=>rw[k1 b o z]at h0b;cases h0b)
  exact⟨.ref _,_,I3,rfl,q vs Hn _ (sm.trans smn) hls rr⟩
end
mutual
def jZ:D->Nat
 |.tup xs=>K0 xs+1
 |_=>1
def K0:List D->Nat
 |[]=>0
 |x::xs=>jZ x+K0 xs
end
theorem dN:∀xs ys:List D,K0 (xs++ys)=K0 xs+K0 ys
 |[],ys=>by simp[K0]
 |x::xs,ys=>by rw[aBq,K0,K0,dN xs ys];lia
section
variable{prog:Program} {w:World}
def qw (prog:Program)(w:World)(h:Heap)(v:Value)(d:D):Prop:=∀(A:Around) (E:C8) (s:Shared) (Q:Int->Shared->Prop),s.heap=h->A.units+8*E6 d<cLine->Q (o7 d) {s with toks:=s.toks+jZ d}->wpAny (model prog w) A (pyHash v) Q E s
mutual
theorem LD:∀{v:Value} {d:D},HV h v d->qw prog w h v d
 |_,_,.int i t=>λA E s Q hs hu q=>(intKind prog w).pyHash (k:=i) (intKind_is _ _ _ _) q
 |_,_,.tup (a:=a) (items:=items) (ds:=ds) p r=>λA E s Q hs hu q=>by
  have fs:=FC r;subst hs;obtain⟨o,ho,hc,n,hd⟩:=p;have hT:s.TypeIs (.ref a) "tuple":=⟨o,ho,hc⟩;have vh:A.units<cLine:=by lia
  rw[E6]at hu;unfold pyHash;first|unfold pyHashByItsType|skip
  first|refine aAa (wpAny_cRoomFor_or (.inr vh) ?_)|skip
  refine aAa (aBp hT PySem.F.slot_tuple_hash.lookup ?_);show wpAny _ _ (if(some (aGg "tuple.__hash__")==some Value.none)=true then _ else _) Q E s;rw[if_neg (by rw[aFp];exact aBg)];refine aAa (aBp hT PySem.F.slot_tuple_hash.lookup ?_);show wpAny _ _ (callSpecialIfBoundUnlessNone? (.ref a) "__hash__" _>>=_) Q E s;refine aAa (aDi hT PySem.F.slot_tuple_hash<|aBf PySem.F.slot_tuple_hash hT PySem.F.entry_tuple_hash ?_ (PySem.F.args_tuple_hash_1 _));show wpAny _ _ (aDt (.ref a)>>=_) _ _ s;refine aAa (wpAny_tupleItemsOf ho hd ?_);refine aAa ?_;rw[<-aCo];refine aCp _
   (λrest (b:Array Int) s'=>∃done left,ds=done++left/\Paired (qw prog w s.heap) rest left/\b.toList=done.map o7/\s'={s with toks:=s.toks+K0 done})
   _ ?_ ?_ _ _ ⟨[],ds,rfl,fs,rfl,rfl⟩
  ·rintro x rest b s' ⟨done,left,e1,hl,hb,rfl⟩;cases hl with
   |@cons _ d _ left' h1 ie=>
    refine aAa (h1 _ _ _ _ rfl ?_ ?_)
    ·have:E6 d<=J7 ds:=by rw[e1];exact tY (j:=done.length) (by simp)
     rw[v7];lia
    have e3:s.toks+K0 done+jZ d=s.toks+K0 (done++[d]):=by rw[dN];simp[K0];lia
    first
     |exact aAb ⟨done++[d],left',by simp[e1],ie,by simp[hb],by rw[<-e3]⟩
     |exact aAa (aAb (aAb ⟨done++[d],left',by simp[e1],ie,by simp[hb],by rw[<-e3]⟩))
  ·rintro b s' ⟨done,left,e1,hl,hb,rfl⟩;cases hl;rw[aCB]at e1;subst e1;show wpAny _ _ (retInt<|aAI b.toList) _ _ _;rw[hb];refine wpAny_ret_mkInt ?_;show wpAny _ _ (if(decide (-(2:Int)^63<=aAI (ds.map o7))&&decide (aAI (ds.map o7)<2^63))=true then _ else _) Q E _;have q':=q;rw[o7,fZ,jZ]at q';unfold reduceHash at q';by_cases hr:(decide (-(2:Int)^63<=aAI (ds.map o7))&&decide (aAI (ds.map o7)<2^63))=true
   ·rw[if_pos hr];rw[if_pos hr]at q';exact aAb q'
   ·rw[if_neg hr];rw[if_neg hr]at q';exact aAa (aDq<|aAb q')
theorem FC:∀{v:List Value} {d:List D},HVs h v d->Paired (qw prog w h) v d
 |_,_,.nil=>.nil
 |_,_,.cons r t=>.cons (LD r) (FC t)
end
end
theorem mQ:∀{n:Nat} {d:D},R5 n d=true->qI d=true/\E6 d<=n
 |n,.int i,_=>⟨rfl,by simp[E6]⟩
 |0,.tup xs,h=>by simp[R5]at h
 |n+1,.tup xs,h=>by
  have h':xs.all (R5 n)=true:=by simpa[R5]using h
  have key:∀ys:List D,ys.all (R5 n)=true->fO ys=true/\J7 ys<=n:=λys=>by
   induction ys with
   |nil=>intro _;exact⟨rfl,aBc _⟩
   |cons y ys ih=>intro hy;simp only[aGf,aAK]at hy;obtain⟨a1,a2⟩:=mQ hy.1;obtain⟨b1,b2⟩:=ih hy.2;exact⟨by show(qI y&&fO ys)=true;rw[a1,b1];rfl,by show max (E6 y) (J7 ys)<=n;lia⟩
  obtain⟨c1,c2⟩:=key xs h';exact⟨c1,by show J7 xs+1<=n+1;lia⟩
 |n,.non,h=>by cases n<;>simp[R5]at h
 |n,.dct,h=>by cases n<;>simp[R5]at h
 |n,.bl b,h=>by cases n<;>simp[R5]at h
 |n,.str x,h=>by cases n<;>simp[R5]at h
 |n,.lst xs,h=>by cases n<;>simp[R5]at h
mutual
theorem HV.ab9 (k:∀b o,h.get? b=some o->(∃its n,o.data=.seq its n)->h'.get? b=some o):∀{v:Value} {d:D},HV h v d->HV h' v d
 |_,_,.int i t=>.int i t
 |_,_,.tup p r=>.tup (by obtain⟨o,e,c,n,d⟩:=p;exact⟨o,k _ _ e ⟨_,n,d⟩,c,n,d⟩) (HVs.ab9 k r)
theorem HVs.ab9 (k:∀b o,h.get? b=some o->(∃its n,o.data=.seq its n)->h'.get? b=some o):∀{v:List Value} {d:List D},HVs h v d->HVs h' v d
 |_,_,.nil=>.nil
 |_,_,.cons r t=>.cons (HV.ab9 k r) (HVs.ab9 k t)
end
instance decD:DecidableEq D:=λa b=>aDQ _
def rH (prog:Program) (w:World):HeapKind prog w D where
 is:=λh d a=>HV h (.ref a) d/\E6 d<8
 hash:=o7
 draws:=jZ
 room:=λA=>A.units+128<cLine
 inj:=λx y=>HV.inj x.1 y.1
 keeps:=λ{h h' k a d o es ep} x ho hd hs=>⟨x.1.ab9 λb ob e ⟨its,n,q⟩=>(hs.2 b (λz=>by subst z;rw[ho]at e;cases e;rw[hd]at q;cases q)).trans e,x.2⟩
 pyHash:=λ{A E s k a Q} hu hk q=>LD hk.1 A E s Q rfl (by have:=hk.2;lia) q
 eqBool:=λ{A E s x y a b Q} hu hx hy q=>by
  have h1:=DE (A:=A) hx.1 hy.1 (by have:=hx.2;lia);refine h1 prog w E Q ?_;have e:w6 x y=decide (x=y):=by
   by_cases h:x=y
   ·subst h;rw[V0,decide_eq_true rfl]
   ·rw[decide_eq_false h];cases z:w6 x y with
    |false=>rfl
    |true=>exact absurd (gR hx.1.ok hy.1.ok z) h
  rw[e];exact q
 quiet:=λ{A E s k a Q} hk q=>gT 8 hk.1 hk.2 _ A E s Q rfl q
open Classical in
def W9 (kvs:List (D×D)) (k v:D):List (D×D):=if k∈kvs.map (·.1)then kvs.map (λp=>if p.1=k then(p.1,v)else p)else kvs++[(k,v)]
def rA (kvs:List (D×D))(k v:D)(h:(kvs.map (·.1)).Nodup):((W9 kvs k v).map (·.1)).Nodup:=by
 unfold W9;split
 ·rw[aBi];have:((λx=>x.1)∘λp:D×D=>if p.1=k then(p.1,v)else p)=λp=>p.1:=by funext p;simp only[aGi];split<;>rfl
  rw[this];exact h
 ·rename_i n;rw[aCE,aCS];refine⟨h,by simp,λa ha b hb=>?_⟩;simp at hb;subst hb;exactλe=>n (e▸ha)
section
theorem EN (I:Inv X pins σ H s):∀{es:List DictEntry} {kvs:List (D×D)},lY X.K H O es kvs->∃xs:List (D×Addr×Value),es=xs.map (entryOfKey (rH X.prog X.w))/\xs.map (·.1)=kvs.map (·.1)/\(∀x∈xs,(rH X.prog X.w).is s.heap x.1 x.2.1)/\
  Paired (λ(x:D×Addr×Value) (p:D×D)=>x.1=p.1/\Rep X.K H O (.ref x.2.1) p.1/\(∃v,RelV v x.2.2/\Rep X.K H O v p.2)/\R5 7 p.1=true) xs kvs
 |_,_,.nil=>⟨[],rfl,rfl,λx h=>(by cases h),.nil⟩
 |e::_,p::_,.cons ⟨⟨a,e1,r1⟩,r2,e3,k⟩ t=>by
  obtain⟨xs,h1,h2,h3,h4⟩:=EN I t;obtain⟨ok,dp⟩:=mQ k;refine⟨(p.1,a,e.val)::xs,?_,by rw[aAy,aAy,h2],λx hx=>?_,.cons ⟨rfl,r1,r2,k⟩ h4⟩
  ·rw[aAy,<-h1];congr 1;obtain⟨hsh,ky,vl⟩:=e;simp only at e1 e3;subst e1 e3;rfl
  ·rcases aAd.mp hx with rfl|hx
   ·exact⟨Y9 I r1 ok rfl,by show E6 p.1<8;lia⟩
   ·exact h3 x hx
theorem CT {P:Program}{w:World}{K:PySem.W.Frag}{H:Hp}{O:Addr->Prop}:∀{xs:List (D×Addr×Value)} {kvs:List (D×D)},Paired (λ(x:D×Addr×Value) (p:D×D)=>x.1=p.1/\Rep K H O (.ref x.2.1) p.1/\(∃v,RelV v x.2.2/\Rep K H O v p.2)/\R5 7 p.1=true) xs kvs->lY K H O (xs.map (entryOfKey (rH P w))) kvs
 |_,_,.nil=>.nil
 |_,_,.cons ⟨e,r1,r2,k⟩ t=>.cons ⟨⟨_,rfl,r1⟩,r2,by rw[<-e];rfl,k⟩ (CT t)
def aX {xs:List (D×Addr×Value)}{k:D}:(atKey xs k).isSome=true↔k∈xs.map (·.1):=by unfold atKey;rw[Option.isSome_map,List.find?_isSome];simp only[decide_eq_true_eq,aAo]
def DH (I:Inv X pins σ H s)(h:H a=some (.ext λh=>h.get? a=some o))(d:JA a o es)(r:lY X.K H O es kvs)(nd:(kvs.map (·.1)).Nodup):
  ∃xs,s.heap.DictOfH (rH X.prog X.w) a xs/\xs.map (·.1)=kvs.map (·.1)/\Paired (λ(x:D×Addr×Value) (p:D×D)=>x.1=p.1/\Rep X.K H O (.ref x.2.1) p.1/\(∃v,RelV v x.2.2/\Rep X.K H O v p.2)/\R5 7 p.1=true) xs kvs:=by
 obtain⟨xs,h1,h2,h3,h4⟩:=EN I r;obtain⟨_,ex,ea,ep,hd,he⟩:=d;have g:s.heap.get? a=some o:=(I.hok a _ h).1;exact⟨xs,⟨o,ea,ep,g,ex,hd,by rw[he,h1],h3,by rw[h2];exact nd⟩,h2,h4⟩
def HA {K:PySem.W.Frag}{xs:List (D×Addr×Value)}{kvs:List (D×D)}{k d:D}{b:Addr}{u:Value}{v:V}(hp:Paired (λ(x:D×Addr×Value) (p:D×D)=>x.1=p.1/\Rep K H O (.ref x.2.1) p.1/\(∃v,RelV v x.2.2/\Rep K H O v p.2)/\R5 7 p.1=true) xs kvs)(hk:xs.map (·.1)=kvs.map (·.1))
  (rk:Rep K H O (.ref b) k) (kk:R5 7 k=true) (ru:RelV v u) (rv:Rep K H O v d):
  Paired (λ(x:D×Addr×Value) (p:D×D)=>x.1=p.1/\Rep K H O (.ref x.2.1) p.1/\(∃v,RelV v x.2.2/\Rep K H O v p.2)/\R5 7 p.1=true) (storedH xs k b u) (W9 kvs k d):=by
 unfold storedH W9;by_cases h:k∈kvs.map (·.1)
 ·rw[if_pos h,if_pos (aX.mpr (by rw[hk];exact h))];clear hk h;induction hp with
  |nil=>exact .nil
  |@cons x p xs kvs r t ih=>
   rw[aAy,aAy];refine .cons ?_ ih;unfold putAt;by_cases e:p.1=k
   ·rw[if_pos (r.1.trans e),if_pos e];exact⟨r.1,r.2.1,⟨v,ru,rv⟩,r.2.2.2⟩
   ·rw[if_neg (λz=>e (r.1.symm.trans z)),if_neg e];exact r
 ·rw[if_neg h,if_neg (λz=>h (by rw[<-hk];exact aX.mp z))];clear hk h;induction hp with
  |nil=>exact .cons ⟨rfl,rk,⟨v,ru,rv⟩,kk⟩ .nil
  |cons r t ih=>exact .cons r ih
end
section
variable{K:Type} [DecidableEq K] {knd:HeapKind prog w K}
def pQ {Q:yH}(hu:knd.room A.in1)(hkey:knd.is s.heap k a)(hd:(d==sysModules)=false)(hm:s.heap.DictOfH knd d xs)
  (h:Q (atKey xs k).isSome {s with toks:=s.toks+knd.draws k}):wpAny (model prog w) A (contains (.ref d) (.ref a)) Q E s:=by
 unfold contains;try with_reducible refine aAJ ?_
 refine aAa (aBp hm.typeIs aES.lookup ?_);show wpAny _ _ (if(some (aGg "dict.__contains__")==some Value.none)=true then _ else _) _ E s;rw[if_neg (by rw[aFp];exact aBg)];refine aAa (wpAny_callSpecialUnlessNone?_slot (name:=aCw "__contains__") hm.typeIs aES
  (aBf aES hm.typeIs entry_dict_contains ?_ (args_dict_contains _ _)))
 show wpAny _ _ (dictGet d (.ref a)>>=_) _ _ s;refine aAa (wpAny_dictGet_heap hu hkey hm ?_);cases hf:atKey xs k with
 |some p=>rw[hf]at h;show wpAny _ _ (ret<|.bool true) _ _ _;exact aAb ⟨_,rfl,aBQ h⟩
 |none=>rw[hf]at h;show wpAny _ _ (Builtin.Dict.pendingKey? d (.ref a)>>=_) _ _ _;exact aAa (wpAny_pendingKey_other hd<|aAb ⟨_,rfl,aBQ h⟩)
end
def GW:D->Bool
 |.tup _=>true
 |_=>false
open Classical in
def oA (i:Nat) (ρ:Ev) (k:D):R Bool:=match ρ[i]? with
 |some (.d kvs)=>if R5 7 k=true/\GW k=true then .ok (!decide (k∈kvs.map (·.1)))else .bad
 |_=>.bad
section
def nM {K:PySem.W.Frag}{H:Hp}{O:Addr->Prop}{v:V}{k:D}(r:Rep K H O v k)(h:GW k=true):∃a,v=.ref a:=by
 cases r with
 |tup h r=>exact⟨_,rfl⟩
 |_=>cases h
def IF (i:Nat){x:Str}{p:Pos}{f:Ev->R D}(ha:PD X e f)(hu:X.A.units+130<cLine)(hN:X.N[i]?=some x:=by rfl)(hv:zJ X.env.scope x:=by first|exact aCM rfl|exact aBW (aCM rfl)|exact aBW (aBW rfl))
  (hd:(x==("__debug__":Str))=false:=by decide) (gg:(x==("__classdict__":Str))=false:=by decide) (hm:behindInMarks .NotIn (.Name x p)=false:=by first|rfl|with_unfolding_all rfl):
  EC X (.Compare e [.NotIn] [.Name x p] pos) (λρ=>(f ρ).bind (oA i ρ)):=by
 refine vU λpins s σ H Q I H9 O0 O ρ E q=>?_;dsimp only at q;refine wpAny_isTrue_Compare1 (MQ (ta:=tD X f) (tb:=ZG i) ha (R3 hN hv hd gg) (R:=λy x H2=>∃a b o es kvs k,x=.ref a/\y=.ref b/\H2 a=some (.ext λh=>h.get? a=some o)/\JA a o es/\lY X.K H2 O es kvs/\(kvs.map (·.1)).Nodup/\Rep X.K H2 O (.ref b) k/\R5 7 k=true/\Q (!(open Classical in decide (k∈kvs.map (·.1)))) H2) I ⟨H9,O0,O,ρ,E,?_⟩ λu w s2 y x H2 I2 ry rx h=>?_) hm
 ·cases e1:f ρ with
  |ex z=>rw[e1]at q;exact q
  |bad=>rw[e1]at q;exact q.elim
  |ok k=>
   rw[e1,R.aa0]at q;intro v H1 sm r;unfold oA at q;cases e2:ρ[i]? with
   |none=>rw[e2]at q;exact aAm q
   |some sl=>
    rw[e2]at q;cases sl with
    |d kvs=>
     dsimp only at q;by_cases hk:R5 7 k=true/\GW k=true
     ·rw[if_pos hk]at q;obtain⟨a,o,es,h1,_,_,h4,h5,h6,h7⟩:=(E.grow sm).slot i _ e2;obtain⟨b,rfl⟩:=nM r hk.2;exact⟨_,h1,a,b,o,es,kvs,k,rfl,rfl,h4,h5,h6,h7,r,hk.1,q H1 sm⟩
     ·rw[if_neg hk]at q;exact aAm q
    |_=>exact aAm q
 ·obtain⟨a,b,o,es,kvs,k,rfl,rfl,h4,h5,h6,h7,rk,hk,qq⟩:=h;cases ry;cases rx;obtain⟨xs,hD,qp,hp⟩:=DH I2 h4 h5 h6 h7;obtain⟨ok,dp⟩:=mQ hk;show wpAny _ _ (contains (.ref a) (.ref b)>>=λc=>pure (aDp (!c))) _ _ s2;refine aAa (pQ (knd:=rH X.prog X.w) (by show X.A.in1.units+128<cLine;rw[v7];lia) ⟨Y9 I2 rk ok rfl,by lia⟩ h5.1 hD (aAb ?_));refine aBQ ⟨H2,I2.tok _,?_⟩;have e3:(atKey xs k).isSome=(open Classical in decide (k∈kvs.map (·.1))):=by
   by_cases nc:k∈kvs.map (·.1)
   ·rw[decide_eq_true nc];exact aX.mpr (by rw[qp];exact nc)
   ·rw[decide_eq_false nc];cases z:(atKey xs k).isSome with
    |false=>rfl
    |true=>exact absurd (by rw[<-qp];exact aX.mp z) nc
  rw[e3];exact qq
def xH (i:Nat)(hN:X.N.Nodup)(hi:X.N[i]?=some x:=by rfl)(hx:Loc X.env.scope x:=by first|exact aCM rfl|exact aBW rfl)(hs:swapsWith (.Dict [] [] dpos) (some (.Name x pos')) pos.line X.env=pure false:=by rfl)(hf:X.fn x=true\/X.env.scope.names.lookup x=some .local:=by first|exact .inl rfl|exact .inr rfl|assumption):pL X (.Assign [.Name x pos'] (.Dict [] [] dpos) pos) (λρ=>.ok (.nx (ρ.set i (.d [])))):=by
 intro H9 O0 pins s σ H D I ⟨O,ρ,E,fk,q⟩;refine aEY (wpAny_Dict_empty ?_) hs;have gn:(s.heap.push {cls:=.type "dict",data:=.dict #[]}).get? s.heap.objs.size=some {cls:=.type "dict",data:=.dict #[]}:=aAp _ rfl;have hn:=I.hok.fresh (aAh s.heap.objs.size);have I1:=I.laid (a:=s.heap.objs.size) (o:=.ext λh=>h.get? s.heap.objs.size=some {cls:=.type "dict",data:=.dict #[]}) (h':=s.heap.push {cls:=.type "dict",data:=.dict #[]}) (t':=s.toks) (λ_ _ q=>aAc _ q) (aAh _)
  ⟨gn,⟨_,gn⟩,λh1 h2 e k=>k _ e⟩
 have hk:=MA I1 (j6 (H:=H) (a:=s.heap.objs.size));have big:sysModules<s.heap.objs.size:=aGt (by decide) (I.mod.glob.keeps I.bk).lt;refine Q5 I1 hN hi hx (show RelV (.ref s.heap.objs.size) _ from rfl) (λs3 I3=>⟨_,_,I3,?_⟩) hf;have E2:=E.ad9 (u:=.ext λh=>h.get? s.heap.objs.size=some {cls:=.type "dict",data:=.dict #[]}) (sl:=.d []) i hn hk trivial λh0=>⟨s.heap.objs.size,_,[],rfl,.inr rfl,h0,j6,⟨by simp[aCh big],⟨rfl,rfl,rfl⟩,#[],0,rfl,rfl⟩,.nil,aDb⟩;exact q _ _ _ E2 (oQ I1 _ E2.trk) λb o hb n=>⟨by rw[l5 (t9 hb hn)];exact hb,λz=>z.elim n (t9 hb hn)⟩
def sj (X:Cx):RO:=λx y v H Q=>∃O a b o es kvs k d,x=.ref a/\y=.ref b/\H a=some (.ext λh=>h.get? a=some o)/\JA a o es/\lY X.K H O es kvs/\(kvs.map (·.1)).Nodup/\es.length<=sizeLine/\Rep X.K H O (.ref b) k/\R5 7 k=true/\Rep X.K H O v d/\
 ∀o' es',JA a o' es'->lY X.K H O es' (W9 kvs k d)->Q (upd H a<|.ext λh=>h.get? a=some o')
def SH (hu:X.A.units+130<cLine):XE X (sj X):=by
 intro pins s σ H x y v ov iv u Q I rx ry ru z;obtain⟨O,a,b,o,es,kvs,k,d,ex,ey,h4,h5,h6,h7,hz,rk,hk,rv,q⟩:=z;subst ex ey;cases rx;cases ry;obtain⟨xs,hD,qp,hp⟩:=DH I h4 h5 h6 h7;obtain⟨ok,dp⟩:=mQ hk;have hlen:xs.length<=sizeLine:=by
  obtain⟨_,ex,ea,ep,hd,he⟩:=h5;obtain⟨o2,pf,ep2,g2,_,hd2,km,_⟩:=hD;have g:s.heap.get? a=some o:=(I.hok a _ h4).1;rw[g]at g2;cases g2;rw[hd]at hd2;cases hd2;have:=congrArg aFW (he.symm.trans km);rw[aAk]at this
  lia
 refine wpAny_setItem_heap (knd:=rH X.prog X.w) (by show X.A.in1.units+128<cLine;rw[v7];lia) ⟨Y9 I rk ok rfl,by lia⟩ hD (λh' hD' hs=>?_) hlen;obtain⟨o',es',ep',g',ex',ng,xt,is',nd'⟩:=hD';have I1:=I.write (x:=a) (e:=a) (o:=.ext λh=>h.get? a=some o') (h':=h') (t':=s.toks+jZ k) (by rw[h4];trivial) (.inl rfl) (λb u hb e=>(hs.2 b hb).trans e) ⟨o',g'⟩ ⟨g',⟨o',g'⟩,λh1 h2 e k=>k _ e⟩;exact⟨_,I1,q o' _ ⟨h5.1,ex',es',ep',ng,rfl⟩ (by rw[xt];exact CT (HA hp qp rk hk ru rv))⟩
def rE (i:Nat) (ρ:Ev) (k d:D):R Out:=match ρ[i]? with
 |some (.d kvs)=>if R5 7 k=true/\GW k=true/\kvs.length<=sizeLine then .ok (.nx (ρ.set i<|.d (W9 kvs k d)))else .bad
 |_=>.bad
def fU (i:Nat){x:Str}{k:Expr}{f g:Ev->R D}{p ps:Pos}(he:PD X e f)(hk:PD X k g)(hu:X.A.units+130<cLine)(hN:X.N[i]?=some x:=by rfl)(hv:zJ X.env.scope x:=by first|exact aCM rfl|exact aBW (aCM rfl)|exact aBW (aBW rfl))(hd:(x==("__debug__":Str))=false:=by decide)
  (gg:(x==("__classdict__":Str))=false:=by decide) (ha:∀v,assign (.Subscript (.Name x p) k ps) X.env v=(do
   let ov<-holding [v] (eval (.Name x p) X.env)
   let iv<-holding [v,ov] (eval k X.env)
   standAt ps
   holding [v,ov,iv] (setItem ov iv v)
   release [v,ov,iv] []):=by intro _;rfl)
  (hs:swapsWithSole [.Subscript (.Name x p) k ps] e pos.line X.env=pure false:=by rfl) (hw:swappedStores [.Subscript (.Name x p) k ps] e X.env=pure none:=by rfl) (h1:(assignEach [.Subscript (.Name x p) k ps] X.env).map (·.2)=[assign (.Subscript (.Name x p) k ps) X.env]:=by rfl):
  pL X (.Assign [.Subscript (.Name x p) k ps] e pos) (λρ=>(f ρ).bind λd=>(g ρ).bind λkd=>rE i ρ kd d):=λH9 O0=>
 CU (AF he (IW (R3 hN hv hd gg) hk (SH hu) ha) hs hw h1) λD σ H O ρ E fk q=>⟨H9,O0,O,ρ,E,by
  cases e1:f ρ with
  |ex z=>rw[e1]at q;exactλH' s=>q H' (E.same.trans s)
  |bad=>rw[e1]at q;exact q
  |ok d=>
   rw[e1,R.aa0]at q;intro v H1 s1 r1;have E1:=E.grow s1;cases e2:g ρ with
   |ex z=>rw[e2]at q;exact(q H<|E.same.trans<|Same.refl _).elim
   |bad=>rw[e2]at q;exact aAm q
   |ok kd=>
    rw[e2,R.aa0]at q;unfold rE at q;cases e3:ρ[i]? with
    |none=>rw[e3]at q;exact aAm q
    |some sl=>
     rw[e3]at q;cases sl with
     |d kvs=>
      dsimp only at q;by_cases hk:R5 7 kd=true/\GW kd=true/\kvs.length<=sizeLine
      ·rw[if_pos hk]at q;obtain⟨a,o,es,h1,h2,h3,h4,h5,h6,h7⟩:=E1.slot i _ e3;refine⟨_,h1,H9,O0,O,ρ,E1,?_⟩;rw[e2];intro kv H2 s2 r2;have E2:=E1.grow s2;obtain⟨b,rfl⟩:=nM r2 hk.2.1;have h6':lY X.K H2 O es kvs:=h6.mono λr=>r.same s2;refine⟨O,a,b,o,es,kvs,kd,d,rfl,rfl,s2 _ _ h4,h5,h6',h7,by rw[h6.length];exact hk.2.2,r2,hk.1,r1.same s2,λo' es' d' r'=>?_⟩;obtain⟨E3,k3⟩:=E2.ae1 (sl':=.d (W9 kvs kd d)) (u':=.ext λh=>h.get? a=some o') e3 trivial h1 (s2 _ _ h4) trivial trivial λhO h0 m=>⟨a,o',es',rfl,h2,h3,j6,d',r'.mono λr=>r.upd (s2 _ _ h4) trivial h2,rA kvs kd d h7⟩;exact q _ _ _ E3 fk (((Kp.of s1).trans (Kp.of s2)).trans k3)
      ·rw[if_neg hk]at q;exact aAm q
     |_=>exact aAm q⟩
end
end DL
namespace MM
open PySem
def LW (prog:Program)(w:World)(A:Around)(op:CmpOp)(Hs:Heap->Prop)(P:Nat->Value->Prop)(bt:Nat->Nat->Bool):Prop:=
 ∀i j vi vj (s:Shared) (Q:C8) (E:C8),Hs s.heap->P i vi->P j vj->Q (.bool (bt i j)) s->wpAny (model prog w) A (richCompare op vi vj) Q E s
section
def FX (W:WalksS prog w A.in1 I fp wr G n P St){Hs:Heap->Prop}(hH:∀i s,St i s->Hs s.heap)(bt:Nat->Nat->Bool)(wo:LW prog w A.in1 .Lt Hs P bt)(S:Addr)(pg:S∉fp):
  ∀(k j:Nat) (s:Shared) (vb:Value) (c:Nat),n-(j+1)=k->j+1<=n->St (j+1) s->P (argBest bt j) vb->
  s.heap.get? S=some {cls:=.type "list",dict:=none,data:=.seq #[vb,vb] c,slots:=#[]}->
  (∀v s',P (argBest bt (n-1)) v->Moved (S::wr) G s s'->R (.ok (.ret v)) s')->codeAny (model prog w) A (.builtin "min.loop" ⟨[.ref I,.none,.ref S],[]⟩) R s:=by
 have hSw:S∉wr:=λh=>pg (W.sub _ h);have jn:∀b∈wr,b∈S::wr:=λb hb=>aAe _ hb;have ko:(toString "min"++toString ".loop":String)= "min.loop":=by decide
 have zf:∀{b:Addr},b∉S::wr->S≠b:=λhb h=>hb (by rw[h];exact aAL);intro k;induction k with
 |zero=>
  intro j s vb c hk hj jg hPb hS hR;have nc:j+1=n:=by omega
  refine aBr aFs ?_;rw[aAX aCH _];show wpAny _ A.in1 (seqItems? (.ref S)>>=_) _ _ s;refine aAa (aBL hS rfl ?_);show wpAny _ A.in1 (tryCatch (pyNext<|.ref I) _>>=_) _ _ s;refine aAa (aEV<|W.done s _ _ (nc▸jg) λs' hm=>?_);have jd:=hm.heap S _ hSw hS;show wpAny _ A.in1 (updateSeq S (λ_=>#[])>>=_) _ _ _;refine aAa ?_;refine aCl jd rfl (aAa<|aDX<|aAb ?_);exact hR vb _ (by rw[<-nc];exact hPb) ((hm.mono jn).then_heap (tk:=s'.toks) (aAh _) λb o hb e=>(aAC _ _<|zf hb).trans e)
 |succ k ih=>
  intro j s vb c hk hj jg hPb hS hR;have ar:j+1<n:=by omega
  refine aBr aFs ?_;rw[aAX aCH _];show wpAny _ A.in1 (seqItems? (.ref S)>>=_) _ _ s;refine aAa (aBL hS rfl ?_);show wpAny _ A.in1 (tryCatch (pyNext<|.ref I) _>>=_) _ _ s;refine aAa (aEV<|W.item (j+1) s _ _ ar jg λv s' hP kh hm=>?_);have jd:=hm.heap S _ hSw hS;show wpAny _ A.in1 (tryCatch (holding [v,v]<|richCompare .Lt v vb>>=_) _>>=_) _ _ _;refine aAa (aEV<|aAJ<|aAa<|wo (j+1) (argBest bt j) v vb _ _ _ (hH _ _ kh) hP hPb ?_);refine aAa (aAJ<|aBQ ?_);refine aAa (aDX<|aAb ?_);cases hb:bt (j+1) (argBest bt j)with
  |true=>
   simp only[if_true];refine aAa ?_;refine aCl jd rfl (aAa<|aDX ?_);rw[ko];refine aAb ⟨aBO aCH _,ih (j+1) _ v _ (by omega) ar (W.frame _ s' _ s'.toks kh (aAh _) λb hbf o e=>?_) (by simp only[argBest,hb,if_true];exact hP) (aAY _ jd rfl)
    λv' s'' hP' mh=>?_⟩
   ·exact(aAC _ _ (λh:S=b=>pg (by rw[h];exact hbf))).trans e
   ·exact hR v' s'' hP' (aFj W.gtrans ((hm.mono jn).then_heap (aAh _) λb o hb e=>(aAC _ _<|zf hb).trans e) mh)
  |false=>simp only[aAt,if_false];refine aAa (aDX ?_);rw[ko];refine aAb ⟨aBO aCH _,ih (j+1) _ vb c (by omega) ar kh (by simp only[argBest,hb,aAt,if_false];exact hPb) jd λv' s'' hP' mh=>?_⟩;exact hR v' s'' hP' (aFj W.gtrans (hm.mono jn) mh)
def zA (W:WalksS prog w A.in1 I fp wr G n P St){Hs:Heap->Prop}(hH:∀i s,St i s->Hs s.heap)(bt:Nat->Nat->Bool)(wo:LW prog w A.in1 .Lt Hs P bt)(S:Addr)(pg:S∉fp)(hn:0<n)(jg:St 0 s)(hS:s.heap.get? S=some {cls:=.type "list",dict:=none,data:=.seq #[] c,slots:=#[]})(hR:∀v s',P (argBest bt (n-1)) v->Moved (S::wr) G s s'->R (.ok (.ret v)) s'):codeAny (model prog w) A (.builtin "min.loop" ⟨[.ref I,.none,.ref S],[]⟩) R s:=by
 have hSw:S∉wr:=λh=>pg (W.sub _ h);have jn:∀b∈wr,b∈S::wr:=λb hb=>aAe _ hb;have ko:(toString "min"++toString ".loop":String)= "min.loop":=by decide
 have zf:∀{b:Addr},b∉S::wr->S≠b:=λhb h=>hb (by rw[h];exact aAL);refine aBr aFs ?_;rw[aAX aCH _];show wpAny _ A.in1 (seqItems? (.ref S)>>=_) _ _ s;refine aAa (aBL hS rfl ?_);show wpAny _ A.in1 (tryCatch (pyNext<|.ref I) _>>=_) _ _ s;refine aAa (aEV<|W.item 0 s _ _ hn jg λv s' hP kh hm=>?_);have jd:=hm.heap S _ hSw hS;show wpAny _ A.in1 (updateSeq S (λ_=>#[v,v])>>=_) _ _ _;refine aAa ?_;refine aCl jd rfl ?_;rw[ko];refine aAb ⟨aBO aCH _,FX W hH bt wo S pg _ 0 _ v _ rfl hn (W.frame _ s' _ s'.toks kh (aAh _) λb hbf o e=>?_) hP (aAY _ jd rfl) λv' s'' hP' mh=>?_⟩
 ·exact(aAC _ _ (λh:S=b=>pg (by rw[h];exact hbf))).trans e
 ·exact hR v' s'' hP' (aFj W.gtrans ((hm.mono jn).then_heap (aAh _) λb o hb e=>(aAC _ _<|zf hb).trans e) mh)
def call_minH {E:C8}{Q:C8}(h:wpAny (model prog w) A.in1 (pyIter x) (λit gh=>∃I fp wr G n P St Hs bt,it=.ref I/\WalksS prog w A.in1 I fp wr G n P St/\St 0 gh/\(∀b∈fp,b<gh.heap.objs.size)/\0<n/\(∀i s,St i s->Hs s.heap)/\LW prog w A.in1 .Lt Hs P bt/\
   ∀v s',P (argBest bt (n-1)) v->Moved wr G gh s'->Q v s') E s):
  wpAny (model prog w) A (call (.builtin "min") [x]) Q E s:=by
 have ko:(toString "min"++toString ".loop":String)= "min.loop":=by decide
 refine call_function_tree F.kind_min F.plain_min F.entry_min (F.args_min1 _) ?_;show wpAny _ A.in1 (aEz "min" ["key", "default"] 0 ⟨[],[]⟩>>=_) _ _ s;refine aAa (aFZ (show aEz "min" ["key", "default"] 0 ⟨[],[]⟩=pure [none,none]from rfl) ?_);refine aAa (aAb ?_);refine aAa (aCn h (λit gh ir=>?_) λ_ _ e=>e);obtain⟨I,fp,wr,G,n,P,St,Hs,bt,rfl,W,jg,ve,hn,hH,wo,hQ⟩:=ir;refine aAa (aAS ?_);have pg:gh.heap.objs.size∉fp:=λhm=>aBe _ (ve _ hm);rw[ko];refine aAb ⟨aBO aCH _,zA W hH bt wo gh.heap.objs.size pg hn (W.frame 0 gh _ gh.toks jg (aAh _) λb _ o e=>aAc _ e) (aAp _ rfl) λv s' hP hm=>?_⟩;exact hQ v s' hP (Moved.drop_new (tk:=gh.toks) hm<|aAh _)
end
def walks_more {P:Nat->Value->Prop}{St:Nat->Heap->Prop}(W:Walks prog w A I fp wr n P St)(more:N5)(hd:∀p∈more,p.1∉wr):
  Walks prog w A I (fp++more.map (·.1)) wr n P (λi h=>St i h/\∀p∈more,h.get? p.1=some p.2)where
 sub:=λb hb=>aBE _ (W.sub b hb)
 frame:=λi h h' st k=>⟨W.frame i h h' st.1 λb hb o e=>k b (aBE _ hb) o e,λp hp=>k p.1 (aAF _<|aBk hp) _ (st.2 p hp)⟩
 item:=λi s Q E hi st hQ=>W.item i s Q E hi st.1 λv h' tk hP jg kp=>hQ v h' tk hP ⟨jg,λp hp=>kp p.1 p.2 (hd p hp) (st.2 p hp)⟩ kp
 done:=λs Q E st hQ=>W.done s Q E st.1 hQ
 self:=λi s Q E st hQ=>W.self i s Q E st.1 hQ
end MM
namespace DL
open PySem PySem.Spec L2
open PyProof.Rows hiding St
variable [Tabs]
section
def GL {x:Str}{a:Addr}{dd:Option Addr}{its:Array Value}{n:Nat}{sl:Array (Option Value)}{ns:List Int}(hm:X.mg x=some (.ref a))(hk:X.K.lookup a=some ⟨.type "tuple",dd,.seq its n,sl⟩)(hi:n8 (ns.map V.int) its.toList)(hz:its.size<=sizeLine)(hg:Gl X x:=by rfl)(ia:(x==("__debug__":Str))=false:=by decide):
 PD X (.Name x pos) (UO (.tup (ns.map D.int))):=tW (RV hg hm (show RelV (.ref a) _ from rfl) ia) λH O=>.tup (.inr ⟨_,its,n,hk,rfl,rfl,hz,hi⟩) (Reps.ints ns)
def IV:D->D->R D
 |.non,.non=>.ok (.bl true)
 |_,.non=>.ok (.bl false)
 |_,_=>.bad
def OH:mB X (compareOp .Is) IV:=by
 intro H O x y dx dy Q fr rx ry q;refine⟨_,WA,?_⟩;cases dy with
 |non=>
  refine⟨ry.ac0,?_⟩;cases dx with
  |non=>rw[rx.ac0];exact q _ H (Same.refl _) .bl
  |bl b=>rw[rx.blI];exact q _ H (Same.refl _) .bl
  |int i=>rw[rx.aa6];exact q _ H (Same.refl _) .bl
  |str z=>rw[rx.ac5];exact q _ H (Same.refl _) .bl
  |tup ds=>obtain⟨a,_,rfl,_⟩:=rx.tupI;exact q _ H (Same.refl _) .bl
  |lst ds=>obtain⟨a,_,rfl,_⟩:=rx.aa5;exact q _ H (Same.refl _) .bl
  |dct=>obtain⟨a,_,rfl,_⟩:=rx.af8;exact q _ H (Same.refl _) .bl
 |_=>cases dx<;>exact aAm q
def OC (he:PD X e f)(hs:swapsWith e none pos.line X.env=pure false:=by rfl):pL X (.Expr e pos) (λρ=>(f ρ).bind λ_=>.ok (.nx ρ)):=λH9 O0=>
 CU (tV he hs) λD σ H O ρ E fk q=>⟨H9,O0,O,ρ,E,by
  cases e1:f ρ with
  |ok d=>rw[e1]at q;exactλv H' s r=>q _ H' O (E.grow s) fk (Kp.of s)
  |ex x=>rw[e1]at q;exactλH' s=>q H' (E.same.trans s)
  |bad=>rw[e1]at q;exact q⟩
def cP:List D->Option (List Bool)
 |[]=>some []
 |.bl b::ds=>(cP ds).map (b::·)
 |_::_=>none
theorem oU:∀{ds:List D} {bs:List Bool},cP ds=some bs->ds=bs.map D.bl
 |[],bs,h=>by cases h;rfl
 |.bl b::ds,bs,h=>by
  unfold cP at h;cases e:cP ds with
  |none=>rw[e]at h;cases h
  |some l=>rw[e]at h;have h':b::l=bs:=aAj h;subst h';rw[oU e];rfl
 |.non::_,_,h|.int _::_,_,h|.str _::_,_,h|.tup _::_,_,h|.lst _::_,_,h|.dct::_,_,h=>by cases h
def anyR:List D->R D
 |[.lst ds]=>match cP ds with
  |some bs=>.ok (.bl (bs.any id))
  |none=>.bad
 |_=>.bad
def zH {K:PySem.W.Frag}{H:Hp}{O:Addr->Prop}{ws:List V}{bs:List Bool}{its:List Value}(r:Reps K H O ws (bs.map D.bl))(v:n8 ws its):its=bs.map aDp:=by
 induction bs generalizing ws its with
 |nil=>cases r;cases v;rfl
 |cons b bs ih=>
  cases r with
  |cons r t=>
   cases v with
   |cons rv tv=>cases r;have:_=aDp b:=rv;rw[this,ih t tv];rfl
def GE (bs:List Bool):(aBu bs.length).any (λi=>bs.getD i false)=bs.any id:=by
 rw[aCQ,aEk,aEk];constructor
 ·rintro⟨i,hi,e⟩;have fo:i<bs.length:=by simpa using hi
  refine⟨bs[i],aBs fo,?_⟩;simpa[aAn,aAg fo]using e
 ·rintro⟨b,hb,e⟩;obtain⟨i,hi,rfl⟩:=aBd hb;exact⟨i,by simpa using hi,by simpa[aAn,aAg hi]using e⟩
def YL (hc:X.calm=true):aG X (.builtin "any") anyR:=by
 intro H O vs ds Q fr r q;match ds,q with
 |[.lst xs],q=>
  obtain⟨v,rfl,z⟩:=BQ r;obtain⟨p,ws,rfl,h1,h2⟩:=z.aa5;simp only[anyR]at q;cases e:cP xs with
  |none=>rw[e]at q;exact q.elim
  |some bs=>
   rw[e]at q;rw[oU e]at h2;refine⟨λvs H' Q'=>vs=[.ref p]/\H'=H/\Q'=Q,λpins s σ H' xs us Q' I rv ⟨e1,e2,e3⟩=>?_,rfl,rfl,rfl⟩;subst e1 e2 e3;obtain⟨u,rfl,ru⟩:=vals1 rv;cases ru;obtain⟨its,rv2,⟨oL,nL,gL,cL,dL,sL⟩,zL⟩:=I.list h1;have ei:=zH h2 rv2;have hl:s.heap.IsList p its.toArray:=⟨oL,gL,cL,nL,sL⟩;refine call_any_walk (aDr hl ⟨s.heap.objs.size,_,_,its.toArray.size,_,_,λi=>bs.getD i false,rfl,Walks.list (by simp[I.ok.hd hc]) s.heap.objs.size p (aAi<|aAf gL) its.toArray,⟨⟨_,aAp _ rfl,rfl,rfl⟩,hl.push _⟩,λi v s' Q E hP hq=>?_,λh' tk kp=>?_⟩)
   ·have hP:its.toArray[i]?=some v:=hP;have hq:Q (bs.getD i false) s':=hq;rw[aCI,ei,aAD]at hP;cases eb:bs[i]? with
    |none=>rw[eb]at hP;cases hP
    |some b=>rw[eb]at hP;have:aDp b=v:=aAj hP;subst this;rw[aAn,eb]at hq;exact aBQ hq
   ·have I2:=I.kept (h':=h') (t':=tk) λb o e=>kp b o (by simp only[aBm];exact aAi (aAf e)) (aAc _ e);refine⟨.bl (bs.any id),_,I2,?_,q _ _ (Same.refl _) .bl⟩;show aDp _=aDp _;rw[aAq,ei,aAk,GE]
end
end DL
namespace DL
open PySem PySem.Spec L2
open PyProof.Rows hiding St
variable [Tabs]
def WO (ds:List D)(i j:Nat):Bool:=HT.lexLt (flat<|ds.getD i .non) (flat<|ds.getD j .non)
def NT:List D->R D
 |[.lst ds]=>if ds≠[]/\ds.all X8=true then .ok (ds.getD (argBest (WO ds) (ds.length-1)) .non)else .bad
 |_=>.bad
def uK (h:Heap)(its:List Value):List (Addr×Obj):=its.filterMap λv=>match v with
 |.ref b=>(h.get? b).map λo=>(b,o)
 |_=>none
def zR (hb:aDj b∈its)(e:h.get? b=some o):(b,o)∈uK h its:=
 aBS.mpr ⟨_,hb,by show(h.get? b).map _=_;rw[e];rfl⟩
def gG (hp:p∈uK h its):h.get? p.1=some p.2:=by
 obtain⟨v,_,e⟩:=aBS.mp hp;cases v with
 |ref b=>
  have e:(h.get? b).map (λo=>(b,o))=some p:=e;cases q:h.get? b with
  |none=>rw[q]at e;cases e
  |some o=>rw[q]at e;cases e;exact q
 |_=>cases e
section
def SL (hc:X.calm=true)(hu:X.A.units+300<cLine):aG X (.builtin "min") NT:=by
 intro H O vs ds Q fr r q;match ds,q with
 |[.lst xs],q=>
  obtain⟨v,rfl,z⟩:=BQ r;obtain⟨p,ws,rfl,h1,h2⟩:=z.aa5;simp only[NT]at q;by_cases hp:xs≠[]/\xs.all X8=true
  ·rw[if_pos hp]at q;obtain⟨af,hp⟩:=hp;have pt:∀d∈xs,X8 d=true:=aBC.mp hp;refine⟨λvs H' Q'=>vs=[.ref p]/\H'=H/\Q'=Q,λpins s σ H' xs' us Q' I rv ⟨e1,e2,e3⟩=>?_,rfl,rfl,rfl⟩;subst e1 e2 e3;obtain⟨u,rfl,ru⟩:=vals1 rv;cases ru;obtain⟨its,rv2,⟨oL,nL,gL,cL,dL,sL⟩,zL⟩:=I.list h1;have hl:s.heap.IsList p its.toArray:=⟨oL,gL,cL,nL,sL⟩;have st:w9 X.K H' O its xs:=w9.of rv2 h2;have hlen:its.toArray.size=xs.length:=by rw[aAq,<-rv2.length,h2.length]
   have rf:0<xs.length:=aDE.mpr af;have W:=MM.walks_more (Walks.list (prog:=X.prog) (w:=X.w) (A:=X.A.in1) (by simp[I.ok.hd hc]) s.heap.objs.size p (aAi<|aAf gL) its.toArray) (uK s.heap its)
    (λq hq=>by simp only[aBm];exact aAi (aAf<|gG hq))
   refine MM.call_minH (aDr hl ⟨s.heap.objs.size,_,_,_,its.toArray.size,_,_,λh=>∀q∈uK s.heap its,h.get? q.1=some q.2,WO xs,rfl,W.toS,⟨⟨⟨_,aAp _ rfl,rfl,rfl⟩,hl.push _⟩,λq hq=>aAc _ (gG hq)⟩,λb hb=>?_,by rw[hlen];exact rf,λi s h=>h.2,λi j vi vj s' Q2 E2 hh hi hj hq=>?_,λv s' hP hm=>?_⟩)
   ·rw[aBv];rcases aAP.mp hb with hb|hb
    ·rcases aAd.mp hb with rfl|hb
     ·exact aDD _
     ·rcases aAd.mp hb with rfl|hb
      ·exact aBw (aAf gL)
      ·cases hb
    ·obtain⟨q,hq,rfl⟩:=aAo.mp hb;exact aBw (aAf<|gG hq)
   ·have one:∀i v,its.toArray[i]?=some v->∃b items,v=.ref b/\IsTup s'.heap b items/\IntsAre items.toList (flat<|xs.getD i .non):=λi v hi=>by
     rw[aCI]at hi;obtain⟨d,hd,w,ph,rp⟩:=F5 st hi;have ng:xs.getD i .non=d:=by rw[aAn,hd];rfl
     rw[ng];have hpt:=pt d (aAl hd);obtain⟨b,items,rfl,⟨o,g,c,n,dd⟩,hia⟩:=bB hpt (Y9 I rp (L7 hpt) ph);exact⟨b,items,rfl,⟨o,hh _ (zR (aAl hi) g),c,n,dd⟩,hia⟩
    obtain⟨b,items,rfl,t1,i1⟩:=one i vi hi;obtain⟨b',vt,rfl,t2,i2⟩:=one j vj hj;exact HT.lt_tupInts t1 t2 i1 i2 (by rw[v7];lia) hq
   ·have hP:its.toArray[argBest (WO xs) (its.toArray.size-1)]?=some v:=hP;rw[aCI,hlen]at hP;obtain⟨d,hd,w,ph,rp⟩:=F5 st hP;have ng:xs.getD (argBest (WO xs)<|xs.length-1) .non=d:=by rw[aAn,hd];rfl
    rw[ng]at q;have I2:=I.kept (h':=s'.heap) (t':=s'.toks) λb o e=>hm.heap b o (by simp only[aBm];exact aAi (aAf e)) (aAc _ e);have es:s'={s with heap:=s'.heap,toks:=s'.toks}:=by have g1:=hm.gens;have g2:=hm.drawn;have g3:=hm.os;cases s';simp only at g1 g2 g3;subst g1 g2 g3;rfl
    rw[es];exact⟨w,_,I2,ph,q _ _ (Same.refl _) rp⟩
  ·rw[if_neg hp]at q;exact q.elim
def SM (h:ND ds)(n:Nat)(hn:n<ds.length):argBest (WO ds) n=0:=by
 induction n with
 |zero=>rfl
 |succ k ih=>
  have e:=ih (by lia);unfold argBest;rw[e];have:WO ds (k+1) 0=false:=by
   unfold WO;rw[aAn,aAn,aAg hn,aAg (by lia:0<ds.length)];have:=aCf.mp h 0 (k+1) (by lia) hn (by lia);cases q:HT.lexLt (flat<|(some ds[k+1]).getD .non) (flat ((some (ds[0]'(by lia))).getD .non))with
   |false=>rfl
   |true=>have z:HT.lexLt (flat (ds[0]'(by lia))) (flat (ds[0]'(by lia)))=true:=TS.lex_trans _ _ _ this q;rw[TS.lex_irrefl]at z;cases z
  rw[this];rfl
end
end DL
namespace DL
open PySem PySem.Spec L2
open PyProof.Rows hiding St sub_tuple_tuple sub_list_list sub_tuple_list sub_list_tuple
section
open PySem.MeetsSeq PySem.MeetsSeq2 PySem.MeetsSeq3 PySem.AutoSeq1
end
section
end
variable [Tabs]
section
end
end DL
namespace TS
open PySem PyProof.Rows HT
section
def CM (A:Around)(s:Shared)(x y:Value)(b:Bool):Prop:=∀(prog:Program) (w:World) (E:C8) (Q:yH),Q b s->wpAny (model prog w) A (oneLt' false x y) Q E s
def lt_two {Q:yH}(hl:IsTup s.heap l #[p,r])(hb:IsTup s.heap b #[p',r'])(hf:f=false)(h1:SeqAt.EqAt A s p p' e1)(h2:e1=false->CM A s p p' b1)(h3:e1=true->SeqAt.EqAt A s r r' e2)(h4:e1=true->e2=false->CM A s r r' b2)(q:Q (bif e1 then(bif e2 then false else b2)else b1) s):wpAny (model prog w) A (keyLt' (tupK f) (.ref l) (.ref b)) Q E s:=by
 obtain⟨o,ho,hc,n,hd⟩:=hl;obtain⟨o2,jv,jm,n2,hd2⟩:=hb;subst hf;rw[qW];refine aAa (aEg ho hd<|aAa<|aEg jv hd2 ?_);show wpAny _ _ (forIn [((p,p'),0),((r,r'),1)] _ _>>=_) _ _ _;rw[aCR];refine aAa (aAa ?_);refine aAa (h1 _ _ _ _ ?_);cases e1 with
 |false=>refine aAa (h2 rfl _ _ _ _ ?_);exact aAb (aAb<|aAb q)
 |true=>
  refine aAb ?_;dsimp only;rw[aCR];refine aAa ?_;refine aAa (h3 rfl _ _ _ _ ?_);cases e2 with
  |false=>refine aAa (h4 rfl rfl _ _ _ _ ?_);exact aAb (aAb<|aAb q)
  |true=>refine aAb ?_;dsimp only;rw[aDY];exact aAb (aAb q)
def IY (h:∀(prog:Program) (w:World) (E:C8) (Q:C8),Q (.bool b) s->wpAny (model prog w) A (richCompare .Lt x y) Q E s):CM A s x y b:=λprog w E Q q=>by rw[oneLt'_eq];simp only[aAt,if_false];exact aAa (h prog w _ _<|aBQ q)
def oneLt_tup (hl:IsTup s.heap l items)(hb:IsTup s.heap b au)(hi:IntsAre items.toList ns)(hj:IntsAre au.toList ms)(hu:A.units<cLine):CM A s (.ref l) (.ref b) (HT.lexLt ns ms):=
 IY λprog w E Q q=>HT.lt_tupInts hl hb hi hj hu q
end
end TS
namespace DL
open PySem PySem.Spec L2
open PyProof.Rows hiding St
def tL (k:D->List Int)(d:D):List D->List D
 |[]=>[d]
 |x::xs=>if HT.lexLt (k d) (k x)=true then d::x::xs else x::tL k d xs
def nR (k:D->List Int)(ds:List D):List D:=ds.foldr (tL k) []
def pW (k:D->List Int)(ds:List D):Prop:=ds.Pairwise λx y=>HT.lexLt (k x) (k y)=true
theorem jF (k:D->List Int)(d:D):∀xs:List D,(tL k d xs).Perm (d::xs)
 |[]=>.refl _
 |x::xs=>by
  unfold tL;split
  ·exact .refl _
  ·exact((jF k d xs).cons x).trans (.swap d x xs)
theorem W5 (k:D->List Int):∀ds:List D,(nR k ds).Perm ds
 |[]=>.refl _
 |d::ds=>(jF k d (nR k ds)).trans ((W5 k ds).cons d)
theorem wJ:∀{xs:List D},pW k xs->(∀x∈xs,k x≠k d)->pW k (tL k d xs)
 |[],_,_=>aDO _ _
 |x::xs,h,n=>by
  have h1:=aAA.mp h;unfold tL;split
  ·rename_i lt;refine aAA.mpr ⟨λy hy=>?_,h⟩;rcases aAd.mp hy with rfl|hy
   ·exact lt
   ·exact TS.lex_trans _ _ _ lt (h1.1 y hy)
  ·rename_i nlt;refine aAA.mpr ⟨λy hy=>?_,wJ h1.2 λz hz=>n z (.tail _ hz)⟩;rcases aAd.mp ((jF k d xs).mem_iff.mp hy)with rfl|hy
   ·cases q:HT.lexLt (k x) (k y)with
    |true=>rfl
    |false=>exact absurd (TS.lex_total _ _ q (by simpa using nlt)) (n x<|.head _)
   ·exact h1.1 y hy
theorem kP:∀{ds:List D},(ds.map k).Nodup->pW k (nR k ds)
 |[],_=>.nil
 |d::ds,h=>by rw[aAy,aAG]at h;refine wJ (kP h.2) λx hx e=>h.1 ?_;rw[<-e];exact aBk ((W5 k ds).mem_iff.mp hx)
theorem jH:∀{xs ys:List D},pW k xs->pW k ys->xs.Perm ys->xs=ys
 |[],ys,_,_,p=>(List.nil_perm.mp p).symm
 |x::xs,[],_,_,p=>by have:=p.length_eq;simp at this
 |x::xs,y::ys,h1,h2,p=>by
  have a1:=aAA.mp h1;have a2:=aAA.mp h2;have exy:x=y:=by
   rcases aAd.mp (p.mem_iff.mp<|.head _)with q|q
   ·exact q
   ·rcases aAd.mp (p.mem_iff.mpr<|.head _)with q2|q2
    ·exact q2.symm
    ·have:=TS.lex_trans _ _ _ (a2.1 x q) (a1.1 y q2);rw[TS.lex_irrefl]at this;cases this
  subst exy;rw[jH a1.2 a2.2 ((List.perm_cons x).mp p)]
def PQ [Tabs]{R:Value->D->Prop}{key:Value->List Int}{k:D->List Int}{us:List Value}{ds:List D}(st:Paired R us ds)(srt:us.Pairwise λx y=>HT.lexLt (key y) (key x)=false)(nd:(ds.map k).Nodup)(hk:∀u d,R u d->d∈ds->key u=k d):pW k ds:=by
 induction st with
 |nil=>exact .nil
 |@cons u d us ds r t ih=>
  have n1:=aAG.mp nd;have s1:=aAA.mp srt;refine aAA.mpr ⟨λe he=>?_,ih s1.2 n1.2 λu d h hd=>hk u d h (.tail _ hd)⟩;obtain⟨j,hj,rfl⟩:=aBd he;have ud:j<us.length:=by rw[t.length];exact hj
  obtain⟨d',ng,lu⟩:=F5 t (aAg ud);rw[aAg hj]at ng;cases ng;have l:=s1.1 us[j] (aBs ud);rw[hk _ _ lu (.tail _ (aBs hj)),hk u d r (.head _)]at l;cases z:HT.lexLt (k d) (k ds[j])with
  |true=>rfl
  |false=>exact absurd (aAo.mpr ⟨ds[j],aBs hj,(TS.lex_total _ _ z l).symm⟩) n1.1
def YT:D->Bool
 |.tup [p,.lst _]=>X8 p
 |_=>false
def R8:D->List Int
 |.tup (p::_)=>flat p
 |_=>[]
def WJ (h:YT d=true):∃p r,d=.tup [p,.lst r]/\X8 p=true/\R8 d=flat p:=by
 unfold YT at h;split at h
 ·exact⟨_,_,rfl,h,rfl⟩
 ·cases h
def ZM:D->R (List D)
 |.lst ds=>if ds.all YT=true/\(ds.map R8).Nodup/\ds.length<=63 then .ok (nR R8 ds)else .bad
 |_=>.bad
variable [Tabs]
def FV (h:Heap)(u:Value)(l:List Int):Prop:=∃b p r d,u=.ref b/\IsTup h b #[p,r]/\X8 d=true/\HV h p d/\flat d=l
def FV.inj (x:FV h u l)(y:FV h u l'):l=l':=by obtain⟨b,p,r,d,rfl,⟨o,g,_,n,dd⟩,_,hv,rfl⟩:=x;obtain⟨b',p',r',d',e,⟨o',g',_,n',za⟩,_,hv',rfl⟩:=y;cases e;rw[g]at g';cases g';rw[dd]at za;injection za with e1 _;have e2:=congrArg aFy e1;simp only[aFG]at e2;obtain⟨rfl,_⟩:=e2;rw[HV.inj hv hv']
def GR (h:Heap) (u:Value):List Int:=open Classical in if p:∃l,FV h u l then p.choose else[]
def iJ (x:FV h u l):GR h u=l:=by unfold GR;rw[dif_pos ⟨l,x⟩];exact FV.inj (Exists.choose_spec (⟨l,x⟩:∃l,FV h u l)) x
section
def MR (I:Inv X pins σ H s)(r:Rep X.K H O v d)(h:YT d=true)(ru:RelV v u):FV s.heap u (R8 d):=by
 obtain⟨p,ring,rfl,hp,hk⟩:=WJ h;cases r with
 |tup q rr=>
  cases ru;obtain⟨its,rv,ht,_⟩:=I.tuple q;cases rr with
  |cons r1 rr=>
   cases rr with
   |cons r2 rr=>
    cases rr;cases rv with
    |cons v1 rv=>
     cases rv with
     |cons v2 rv=>cases rv;exact⟨_,_,_,p,rfl,ht,hp,Y9 I r1 (L7 hp) v1,hk.symm⟩
end
section
def AW (ha:PB X e f)(hh:X.calm=true)(hu:X.A.units+300<cLine)(hg:Gl X "sorted":=by rfl)(hm:X.mg "sorted"=none:=by assumption)(hv:bootBuiltins "sorted"=some (.builtin "sorted"):=by decide+kernel)(he:starEach [e] X.env=(false,eval e X.env)::starEach [] X.env:=by rfl)(bf:(backTo pos (starEach [] X.env)).any (·.1)=false:=by rfl):
  PF X (.Call (.Name "sorted" p) [e] [] pos) (λρ=>(f ρ).bind ZM):=by
 refine vU λpins s σ H Q I H9 O0 O ρ E q=>?_;dsimp only at q;refine aAM (N0 I hg hm hv ?_ (by decide) (by decide));have mo:PA X [e] _:=J9 ha aV he;refine aBF (D9 (mo pos pins s σ H (λvs H1=>∃v ds,vs=[v]/\f ρ=.ok (.lst ds)/\Same H H1/\A9 X.K H1 O v (.lst ds)) I ⟨H9,O0,O,ρ,E,?_⟩) λus s1 ⟨vs,H1,I1,r1,v,ds,ev,ef,sm,rb⟩=>?_) he bf
 ·cases e1:f ρ with
  |ex z=>rw[e1]at q;exact q
  |bad=>rw[e1]at q;exact q.elim
  |ok d=>
   rw[e1,R.aa0]at q;cases d with
   |lst ds=>exactλv H1 s1 r1=>⟨v,ds,rfl,rfl,s1,r1⟩
   |_=>exact aAm q
 ·subst ev;rw[ef,R.aa0]at q;obtain⟨a,ws,rfl,hS,rr⟩:=rb.aa5;obtain⟨u,rfl,ru⟩:=vals1 r1;cases ru;obtain⟨its,rv,⟨oL,nL,gL,cL,dL,sL⟩,zL⟩:=I1.list hS;have hl:s1.heap.IsList a its.toArray:=⟨oL,gL,cL,nL,sL⟩;simp only[ZM]at q;by_cases hc:ds.all YT=true/\(ds.map R8).Nodup/\ds.length<=63
  ·rw[if_pos hc]at q;obtain⟨lh,nd,ug⟩:=hc;have fc:∀d∈ds,YT d=true:=aBC.mp lh;have st:w9 X.K H1 O its ds:=w9.of rv rr;have hlen:its.length=ds.length:=st.length;have each:∀u∈its,∃i d,its[i]?=some u/\ds[i]?=some d/\FV s1.heap u (R8 d):=λu hu=>by obtain⟨i,hi,rfl⟩:=aBd hu;obtain⟨d,hd,w,ph,rp⟩:=F5 st (aAg hi);exact⟨i,d,aAg hi,hd,MR I1 rp (fc d<|aAl hd) ph⟩
   have keq:∀u∈its,∀u'∈its,GR s1.heap u=GR s1.heap u'->u=u':=λu hu u' ba e=>by
    obtain⟨i,d,hi,hd,fv⟩:=each u hu;obtain⟨j,d',hj,ng,fv'⟩:=each u' ba;rw[iJ fv,iJ fv']at e;have eij:i=j:=by obtain⟨li,ei⟩:=aAv.mp hd;obtain⟨lj,ej⟩:=aAv.mp ng;refine(List.getElem_inj (xs:=ds.map R8) (i:=i) (j:=j) (h₀:=by simpa using li) (h₁:=by simpa using lj) nd).mp ?_;rw[aEn,aEn,ei,ej];exact e
    subst eij;rw[hi]at hj;cases hj;rfl
   refine TS.sorted_keys (vs:=its) (f:=false) (key:=GR s1.heap) (C:=λs'=>∃h',s'={s1 with heap:=h'}/\∀b o,s1.heap.get? b=some o->h'.get? b=some o)
    (λ{Q'} hq=>collect_list hl (hq _ ⟨_,rfl,λb o e=>?_⟩) (by rw[hlen];exact aAr ug (by decide)))
    (λs' ⟨h',es',k⟩ s6 k6 x hx y hy prog w A E hA {Q} qq=>?_) (λh2 s' ⟨h',es',k⟩ s6 k6 A {Q} qq=>?_) (by rw[hlen];lia) λs' gu h' l ⟨h1,es',k⟩ pm srt k2 hl ⟨n,gl⟩=>?_
   ·exact(aAC _ _<|aCb<|aAi<|aAf e).trans (aAc _ e)
   ·subst es';have kk:∀b o,s1.heap.get? b=some o->s6.heap.get? b=some o:=λb o e=>k6 b o (k b o e);obtain⟨i,d,hi,hd,fv⟩:=each x hx;obtain⟨j,d',hj,ng,fv'⟩:=each y hy;have kx:=iJ fv;have ky:=iJ fv';have eqk:=keq x hx y hy;rw[kx,ky]at qq;rw[kx,ky]at eqk;obtain⟨b,p1,r1,d1,rfl,⟨o,g,c,n,dd⟩,hp1,hv1,e1⟩:=fv;obtain⟨b',p2,r2,d2,rfl,⟨o',g',c',n',za⟩,hp2,hv2,e2⟩:=fv';have zg:HV s6.heap p1 d1:=hv1.keeps λb o e _=>kk b o e;have hv2':HV s6.heap p2 d2:=hv2.keeps λb o e _=>kk b o e;have hA':A.units+8<cLine:=by lia
    obtain⟨c1,i1,rfl,t1,ia1⟩:=bB hp1 zg;obtain⟨c2,i2,rfl,t2,ia2⟩:=bB hp2 hv2';rw[<-e1,<-e2]at qq eqk;refine TS.lt_two (e1:=w6 d1 d2) (e2:=true) (b1:=HT.lexLt (flat d1) (flat d2)) (b2:=false) ⟨o,kk _ _ g,c,n,dd⟩ ⟨o',kk _ _ g',c',n',za⟩ rfl (DE zg hv2' (by have:=uN hp1;lia)) (λ_=>TS.oneLt_tup t1 t2 ia1 ia2 (by lia)) (λeq=>?_) (λ_ z=>by cases z) ?_
    ·have ed:=gR (L7 hp1) (L7 hp2) eq;have er:=eqk (by rw[ed]);cases er;rw[g]at g';cases g';rw[dd]at za;injection za with e3 _;have e4:=congrArg aFy e3;simp only[aFG]at e4;rw[e4.2.1];exact aDN _
    ·cases z:w6 d1 d2 with
     |false=>exact qq
     |true=>have ed:=gR (L7 hp1) (L7 hp2) z;rw[ed,TS.lex_irrefl]at qq;exact qq
   ·subst es';have kk:∀b o,s1.heap.get? b=some o->s6.heap.get? b=some o:=λb o e=>k6 b o (k b o e);have sg:∀x∈its,∃p,∃b items,x=.ref b/\IsTup s6.heap b items/\items[0]?=some p/\s6.TypeIs p "tuple":=λx hx=>by obtain⟨i,d,hi,hd,fv⟩:=each x hx;obtain⟨b,p1,r1,d1,rfl,⟨o,g,c,n,dd⟩,hp1,hv1,e1⟩:=fv;have zg:HV s6.heap p1 d1:=hv1.keeps λb o e _=>kk b o e;obtain⟨c1,i1,rfl,⟨o1,g1,cc1,_⟩,ia1⟩:=bB hp1 zg;exact⟨_,b,_,rfl,⟨o,kk _ _ g,c,n,dd⟩,rfl,⟨o1,g1,cc1⟩⟩
    obtain⟨gf,hgf⟩:∃gf:Value->Value,∀x∈its,∃b items,x=.ref b/\IsTup s6.heap b items/\items[0]?=some (gf x)/\s6.TypeIs (gf x) "tuple":=by refine⟨λx=>open Classical in if z:x∈its then(sg x z).choose else .none,λx hx=>?_⟩;dsimp only;rw[dif_pos hx];exact(sg x hx).choose_spec
    exact TS.kind_tuples (T:= "tuple") gf hgf (λz=>by rw[z]at h2;simp at h2) (by decide) qq
   ·subst es';obtain⟨ou,p2,ju⟩:=dG pm st;have hk:∀u d,(∃v,RelV v u/\Rep X.K H1 O v d)->d∈ds->GR s1.heap u=R8 d:=λu d ⟨v,rv,rp⟩ hd=>iJ (MR I1 rp (fc d hd) rv);have rh:(ou.map R8).Nodup:=(p2.map R8).nodup_iff.mpr nd;have we:pW R8 ou:=PQ (R:=λu d=>∃v,RelV v u/\Rep X.K H1 O v d) ju srt rh λu d h hd=>hk u d h (p2.mem_iff.mp hd);have e2:ou=nR R8 ds:=jH we (kP nd) (p2.trans (W5 R8 ds).symm);subst e2;obtain⟨wv,ph,lu⟩:=w9.ac2 ju;have I2':=I1.kept (h':=h1) (t':=s1.toks) k;have I3:=I2'.laid (a:=l) (o:=.lst wv) (h':=h') (t':=s1.toks) k2 hl ⟨by rw[lu.length,(W5 R8 ds).length_eq];exact aAr ug (by decide),gu,n,ph,gl⟩;exact⟨.ref l,_,I3,rfl,q wv _ l sm (I2'.hok.fresh hl) lu⟩
  ·rw[if_neg hc]at q;exact q.elim
end
end DL
namespace DL
open PySem PySem.Spec L2
open PyProof.Rows hiding St
def aN:List Int->Int
 |[]=>0
 |a::l=>l.foldl max a
def qK:List Int->Int
 |[]=>0
 |a::l=>l.foldl min a
theorem T0:∀(l:List Int) (a:Int),(l.foldl max a=a\/l.foldl max a∈l)/\a<=l.foldl max a/\∀b∈l,b<=l.foldl max a
 |[],a=>⟨.inl rfl,aCq _,λb h=>by cases h⟩
 |c::l,a=>by
  obtain⟨h1,h2,h3⟩:=T0 l (max a c);rw[aDm];refine⟨?_,by lia,λb hb=>?_⟩
  ·rcases h1 with h1|h1
   ·rw[h1];rcases aGs a c with q|q
    ·exact .inr (by rw[Int.max_eq_right q];exact .head _)
    ·exact .inl (Int.max_eq_left q)
   ·exact .inr (.tail _ h1)
  ·rcases aAd.mp hb with rfl|hb
   ·lia
   ·exact h3 b hb
theorem T4:∀(l:List Int) (a:Int),(l.foldl min a=a\/l.foldl min a∈l)/\l.foldl min a<=a/\∀b∈l,l.foldl min a<=b
 |[],a=>⟨.inl rfl,aCq _,λb h=>by cases h⟩
 |c::l,a=>by
  obtain⟨h1,h2,h3⟩:=T4 l (min a c);rw[aDm];refine⟨?_,by lia,λb hb=>?_⟩
  ·rcases h1 with h1|h1
   ·rw[h1];rcases aGs a c with q|q
    ·exact .inl (Int.min_eq_left q)
    ·exact .inr (by rw[Int.min_eq_right q];exact .head _)
   ·exact .inr (.tail _ h1)
  ·rcases aAd.mp hb with rfl|hb
   ·lia
   ·exact h3 b hb
def cN (h:ns≠[]):aN ns∈ns:=by
 cases ns with
 |nil=>exact absurd rfl h
 |cons a l=>
  rcases(T0 l a).1 with q|q
  ·show l.foldl max a∈_;rw[q];exact .head _
  ·exact .tail _ q
def fC (h:a∈ns):a<=aN ns:=by
 cases ns with
 |nil=>cases h
 |cons b l=>
  rcases aAd.mp h with rfl|h
  ·exact(T0 l a).2.1
  ·exact(T0 l b).2.2 a h
def yR (h:ns≠[]):qK ns∈ns:=by
 cases ns with
 |nil=>exact absurd rfl h
 |cons a l=>
  rcases(T4 l a).1 with q|q
  ·show l.foldl min a∈_;rw[q];exact .head _
  ·exact .tail _ q
def uJ (h:a∈ns):qK ns<=a:=by
 cases ns with
 |nil=>cases h
 |cons b l=>
  rcases aAd.mp h with rfl|h
  ·exact(T4 l a).2.1
  ·exact(T4 l b).2.2 a h
def lL:List D->R D
 |[.lst xs]=>match iS xs with
  |some ns=>if ns≠[]then .ok (.int (aN ns))else .bad
  |none=>.bad
 |_=>.bad
def CQ:List D->R D
 |[.lst xs]=>match iS xs with
  |some ns=>if ns≠[]then .ok (.int (qK ns))else .bad
  |none=>.bad
 |_=>.bad
variable [Tabs]
section
def tO (hi:IntsAre its ns)(e:its.toArray=intItems ys):∀i,numAt ys i=ns.getD i 0:=λi=>by have h1:=nums_intItems ys;rw[<-e]at h1;have h2:=hi.numsOf;rw[show its.toArray.toList=its from rfl,h2]at h1;rw[h1];unfold numAt;rw[aAn,aAD,<-aAB]
def iV (hc:X.calm=true):aG X (.builtin "max") lL:=by
 intro H O vs ds Q fr r q;match ds,q with
 |[.lst xs],q=>
  obtain⟨v,rfl,z⟩:=BQ r;obtain⟨p,ws,rfl,h1,h2⟩:=z.aa5;simp only[lL]at q;cases e:iS xs with
  |none=>rw[e]at q;exact q.elim
  |some ns=>
   rw[e]at q;dsimp only at q;by_cases af:ns≠[]
   ·rw[if_pos af]at q;rw[jN e]at h2;rw[kD h2]at h1;refine⟨λvs H' Q'=>vs=[.ref p]/\H'=H/\Q'=Q,λpins s σ H' xs' us Q' I rv ⟨e1,e2,e3⟩=>?_,rfl,rfl,rfl⟩;subst e1 e2 e3;obtain⟨u,rfl,ru⟩:=vals1 rv;cases ru;obtain⟨its,r',pl,hz⟩:=I.list h1;have hi:=DL.T9 r';obtain⟨ys,ey⟩:=hi.allInts.items;have hl:=pl.isList;rw[ey]at hl;have hlen:ys.size=ns.length:=by have:=congrArg Array.size ey;rw[aAq,hi.length]at this;simpa[intItems]using this.symm
    have rf:0<ns.length:=aDE.mpr af;refine max_intList (I.ok.hd hc) hl (by lia) λv h' tk hv hk=>?_;obtain⟨t,rfl⟩:=intItems_at hv;obtain⟨g1,g2⟩:=argBest_gt (numAt ys) (ys.size-1);have em:numAt ys (argBest (λi j=>decide (numAt ys i>numAt ys j))<|ys.size-1)=aN ns:=by
     generalize argBest (λi j=>decide (numAt ys i>numAt ys j)) (ys.size-1)=b at g1 g2;have m1:numAt ys b∈ns:=by rw[tO hi ey,aAn,aAg (by lia)];exact aBs _
     have m2:=fC m1;obtain⟨j,hj,ej⟩:=aBd (cN af);have m3:=g2 j (by lia);rw[tO hi ey j,aAn,aAg hj]at m3;have m4:ns[j]<=numAt ys b:=m3
     lia
    rw[em];exact⟨.int (aN ns),_,I.kept hk,⟨t,rfl⟩,q _ _ (Same.refl _) .int⟩
   ·rw[if_neg af]at q;exact q.elim
def FG (hc:X.calm=true):aG X (.builtin "min") CQ:=by
 intro H O vs ds Q fr r q;match ds,q with
 |[.lst xs],q=>
  obtain⟨v,rfl,z⟩:=BQ r;obtain⟨p,ws,rfl,h1,h2⟩:=z.aa5;simp only[CQ]at q;cases e:iS xs with
  |none=>rw[e]at q;exact q.elim
  |some ns=>
   rw[e]at q;dsimp only at q;by_cases af:ns≠[]
   ·rw[if_pos af]at q;rw[jN e]at h2;rw[kD h2]at h1;refine⟨λvs H' Q'=>vs=[.ref p]/\H'=H/\Q'=Q,λpins s σ H' xs' us Q' I rv ⟨e1,e2,e3⟩=>?_,rfl,rfl,rfl⟩;subst e1 e2 e3;obtain⟨u,rfl,ru⟩:=vals1 rv;cases ru;obtain⟨its,r',pl,hz⟩:=I.list h1;have hi:=DL.T9 r';obtain⟨ys,ey⟩:=hi.allInts.items;have hl:=pl.isList;rw[ey]at hl;have hlen:ys.size=ns.length:=by have:=congrArg Array.size ey;rw[aAq,hi.length]at this;simpa[intItems]using this.symm
    have rf:0<ns.length:=aDE.mpr af;refine min_intList (I.ok.hd hc) hl (by lia) λv h' tk hv hk=>?_;obtain⟨t,rfl⟩:=intItems_at hv;obtain⟨g1,g2⟩:=argBest_lt (numAt ys) (ys.size-1);have em:numAt ys (argBest (λi j=>decide (numAt ys i<numAt ys j))<|ys.size-1)=qK ns:=by
     generalize argBest (λi j=>decide (numAt ys i<numAt ys j)) (ys.size-1)=b at g1 g2;have m1:numAt ys b∈ns:=by rw[tO hi ey,aAn,aAg (by lia)];exact aBs _
     have m2:=uJ m1;obtain⟨j,hj,ej⟩:=aBd (yR af);have m3:=g2 j (by lia);rw[tO hi ey j,aAn,aAg hj]at m3;have m4:numAt ys b<=ns[j]:=m3
     lia
    rw[em];exact⟨.int (qK ns),_,I.kept hk,⟨t,rfl⟩,q _ _ (Same.refl _) .int⟩
   ·rw[if_neg af]at q;exact q.elim
def NG (K:PySem.W.Frag)(mg:cF)(x:Str)(ns:List Int):Prop:=∃a dd its n sl,mg x=some (.ref a)/\K.lookup a=some ⟨.type "tuple",dd,.seq its n,sl⟩/\n8 (ns.map V.int) its.toList/\its.size<=sizeLine
omit [Tabs]in
def YD {K:PySem.W.Frag}{mg:cF}{x:Str}{a:Addr}{dd:Option Addr}{n:Nat}{sl:Array (Option Value)}{i j k:Int}{t u v:Tok}(hm:mg x=some (.ref a))(hk:K.lookup a=some ⟨.type "tuple",dd,.seq #[.int i t,.int j u,.int k v] n,sl⟩):NG K mg x [i,j,k]:=
 ⟨a,dd,_,n,sl,hm,hk,.cons ⟨t,rfl⟩ (.cons ⟨u,rfl⟩ (.cons ⟨v,rfl⟩ .nil)),show 3<=sizeLine by decide⟩
def tK (c:NG X.K X.mg x ns)(hg:Gl X x:=by rfl)(ia:(x==("__debug__":Str))=false:=by decide):PD X (.Name x pos) (UO (.tup (ns.map D.int))):=by obtain⟨a,dd,its,n,sl,hm,hk,hi,hz⟩:=c;exact GL hm hk hi hz hg ia
end
end DL
namespace DL
open PySem PySem.Spec L2
open PyProof.Rows hiding St
theorem bT {α β:Type}[BEq α][LawfulBEq α]:∀{l:List (α×β)} {a:α} {b:β},(l.map (·.1)).Nodup->(a,b)∈l->l.lookup a=some b
 |(x,y)::l,a,b,h,hm=>by
  rw[aAy,aAG]at h;rw[aAZ];rcases aAd.mp hm with e|kg
  ·cases e;simp
  ·have:(a==x)=false:=by rw[beq_eq_false_iff_ne];rintro rfl;exact h.1 (aAo.mpr ⟨(a,b),kg,rfl⟩)
   rw[this];exact bT h.2 kg
theorem mem_lookup {α β:Type}[BEq α][LawfulBEq α]:∀{l:List (α×β)} {a:α} {b:β},l.lookup a=some b->(a,b)∈l
 |(x,y)::l,a,b,h=>by
  rw[aAZ]at h;split at h
  ·rename_i q;cases h;rw[eq_of_beq q];exact .head _
  ·exact .tail _ (mem_lookup h)
def sV (o:Obj):Prop:=∃v,o.data=.cell v
def cU (H:Hp)(cs:N5):Hp:=λb=>match cs.lookup b with
 |some o=>some (.frz o (.own b))
 |none=>H b
def Q6 (H:Hp)(cs:N5):Hp:=λb=>match cs.lookup b with
 |some _=>none
 |none=>H b
section
variable{K:PySem.W.Frag}
def eN (e:cs.lookup b=some o):cU H cs b=some (.frz o (.own b)):=by unfold cU;rw[e]
def Q8 (e:cs.lookup b=none):cU H cs b=H b:=by unfold cU;rw[e]
def bX (e:cs.lookup b=some o):Q6 H cs b=none:=by unfold Q6;rw[e]
def N3 (e:cs.lookup b=none):Q6 H cs b=H b:=by unfold Q6;rw[e]
def D3 (hn:∀b o,cs.lookup b=some o->H b=none)(e:H b=some u):cU H cs b=some u:=by
 cases q:cs.lookup b with
 |none=>rw[Q8 q];exact e
 |some o=>rw[hn b o q]at e;cases e
def eI (hn:∀b o,cs.lookup b=some o->H b=none):Same H (cU H cs):=λb u e=>D3 hn e
def x4 (hn:∀b o,cs.lookup b=some o->H b=some (.frz o (.own b)))(e:H b=some u)(ne:∀o,cs.lookup b=some o->u≠.frz o (.own b)):Q6 H cs b=some u:=by
 cases q:cs.lookup b with
 |none=>rw[N3 q];exact e
 |some o=>rw[hn b o q]at e;cases e;exact absurd rfl (ne o q)
def MZ (x:fJ P w H h)(hc:∀b o,cs.lookup b=some o->h.get? b=some o/\H b=none):fJ P w (cU H cs) h:=λb u e=>by
 have hn:∀b o,cs.lookup b=some o->H b=none:=λb o q=>(hc b o q).2;cases q:cs.lookup b with
 |some o=>rw[eN q]at e;cases e;exact⟨(hc b o q).1,⟨o,(hc b o q).1⟩⟩
 |none=>rw[Q8 q]at e;exact(x b u e).ab7 (λ_ _ _ z=>z) (λc z=>D3 hn z) λc u _ z=>D3 hn z
def NK (x:fJ P w H h)(hc:∀b o,cs.lookup b=some o->H b=some (.frz o (.own b))/\sV o):fJ P w (Q6 H cs) h:=λb u e=>by
 have hn:∀b o,cs.lookup b=some o->H b=some (.frz o (.own b)):=λb o q=>(hc b o q).1;cases q:cs.lookup b with
 |some o=>rw[bX q]at e;cases e
 |none=>rw[N3 q]at e;refine(x b u e).ab7 (λ_ _ _ z=>z) (λc z=>x4 hn z λo _ z'=>by cases z') λc u f z=>x4 hn z λo q z'=>?_;subst z';obtain⟨vs,e1⟩:=f;obtain⟨v,e2⟩:=(hc c o q).2;rw[e1]at e2;cases e2
def WV (U:Un fs [] (cU H cs) H2 h h')(k:fJ P w H2 h')(hc:∀b o,cs.lookup b=some o->h.get? b=some o/\H b=none/\sV o):Un fs [] H (Q6 H2 cs) h h'/\fJ P w (Q6 H2 cs) h'/\∀b o,cs.lookup b=some o->H2 b=some (.frz o (.own b)):=by
 have hn:∀b o,cs.lookup b=some o->H b=none:=λb o q=>(hc b o q).2.1;have h2:∀b o,cs.lookup b=some o->H2 b=some (.frz o (.own b)):=λb o q=>U.frzs b o _ (eN q);refine⟨⟨λb o e n hb hx=>?_,λb o e n hb hx=>?_,λb o e n hx=>?_,λb o e hx=>U.there b o e hx,λb xs e=>?_,λb o u e=>?_,λb tb e=>?_⟩,NK k λb o q=>⟨h2 b o q,(hc b o q).2.2⟩,h2⟩
 ·cases q:cs.lookup b with
  |none=>exact U.keep b o e (by rw[Q8 q];exact n) hb hx
  |some o'=>have:=(hc b o' q).1;rw[e]at this;cases this;exact(k b _<|h2 b o q).1
 ·cases q:cs.lookup b with
  |none=>exact U.slot b o e (by rw[Q8 q];exact n) hb hx
  |some o'=>have:=(hc b o' q).1;rw[e]at this;cases this;exact⟨o.slots,(k b _<|h2 b o q).1⟩
 ·cases q:cs.lookup b with
  |none=>rw[N3 q];exact U.free b o e (by rw[Q8 q];exact n) hx
  |some o'=>exact bX q
 ·exact x4 h2 (U.tups b xs<|D3 hn e) λo _ z=>by cases z
 ·refine x4 h2 (U.frzs b o u<|D3 hn e) λo' q z=>?_;rw[hn b o' q]at e;cases e
 ·exact x4 h2 (U.tbls b tb<|D3 hn e) λo _ z=>by cases z
def VS (U:Un fs [] (Q6 H cs) H2 h h')(k:fJ P w H2 h')(hc:∀b o,cs.lookup b=some o->h.get? b=some o/\H b=some (.frz o (.own b))/\b∉fs):Un fs [] H (cU H2 cs) h h'/\fJ P w (cU H2 cs) h'/\Same H2 (cU H2 cs):=by
 have hn:∀b o,cs.lookup b=some o->H b=some (.frz o (.own b)):=λb o q=>(hc b o q).2.1;have h2:∀b o,cs.lookup b=some o->H2 b=none:=λb o q=>U.free b o (hc b o q).1 (bX q) (by simp);have h3:∀b o,cs.lookup b=some o->h'.get? b=some o:=λb o q=>U.keep b o (hc b o q).1 (bX q) (hc b o q).2.2 (by simp);have out:∀b,H b=none->cs.lookup b=none:=λb n=>by
  cases q:cs.lookup b with
  |none=>rfl
  |some o=>rw[hn b o q]at n;cases n
 refine⟨⟨λb o e n hb hx=>U.keep b o e (by rw[N3 (out b n)];exact n) hb hx,λb o e n hb hx=>U.slot b o e (by rw[N3 (out b n)];exact n) hb hx,λb o e n hx=>?_,λb o e hx=>U.there b o e hx,λb xs e=>?_,λb o u e=>?_,λb tb e=>?_⟩,
  MZ k λb o q=>⟨h3 b o q,h2 b o q⟩,eI h2⟩
 ·rw[Q8 (out b n)];exact U.free b o e (by rw[N3 (out b n)];exact n) hx
 ·exact D3 h2 (U.tups b xs (x4 hn e λo _ z=>by cases z))
 ·cases q:cs.lookup b with
  |none=>exact D3 h2 (U.frzs b o u (by rw[N3 q];exact e))
  |some o'=>rw[hn b o' q]at e;cases e;exact eN q
 ·exact D3 h2 (U.tbls b tb (x4 hn e λo _ z=>by cases z))
def DD (hn:∀b o,cs.lookup b=some o->H b=some (.frz o (.own b)))(q:W2 K H a xs):W2 K (Q6 H cs) a xs:=by
 rcases q with(q|⟨o,q⟩)|q
 ·exact .inl (.inl (x4 hn q λo _ z=>by cases z))
 ·exact .inl (.inr ⟨o,x4 hn q λo _ z=>by cases z⟩)
 ·exact .inr q
def FD (hn:∀b o,cs.lookup b=some o->H b=some (.frz o (.own b)))(q:N8 K H a xs):N8 K (Q6 H cs) a xs:=by
 rcases q with(q|⟨o,q⟩)|q
 ·exact .inl (.inl (x4 hn q λo _ z=>by cases z))
 ·exact .inl (.inr ⟨o,x4 hn q λo _ z=>by cases z⟩)
 ·exact .inr q
def DN {cs:N5}{φ:Heap->Prop}(hn:∀b o,cs.lookup b=some o->H b=some (.frz o (.own b)))(q:H b=some (.ext φ)):Q6 H cs b=some (.ext φ):=by
 unfold Q6;cases e:cs.lookup b with
 |none=>simpa[e]using q
 |some o=>have:=hn b o e;rw[q]at this;cases this
def Rep.hid (hn:∀b o,cs.lookup b=some o->H b=some (.frz o (.own b)))(r:Rep K H O v d):Rep K (Q6 H cs) O v d:=r.mono (λ_ _ q=>DD hn q) (λ_ _ n q=>⟨n,FD hn q⟩) λb φ n q=>⟨n,DN hn q⟩
def Reps.hid (hn:∀b o,cs.lookup b=some o->H b=some (.frz o (.own b)))(r:Reps K H O v d):Reps K (Q6 H cs) O v d:=r.mono (λ_ _ q=>DD hn q) (λ_ _ n q=>⟨n,FD hn q⟩) λb φ n q=>⟨n,DN hn q⟩
end
variable [Tabs]
section
variable(P:Program) (w:World) (K:PySem.W.Frag) (mg:cF) (base:Heap) (k:Nat)
def IM (n:Nat)(m:List D->R D)(H:Hp)(O:Addr->Prop)(a:Addr):Prop:=
 (∃oc od fd sl,H a=some (.frz ⟨oc,od,.func fd,sl⟩ (.own a)))/\
 ∀(A:Around) (outer:List Env) (s:Shared) (us:List Value) (vs:List V) (ds:List D) (d:D) (Q:VK) (E:XK),Room k A->Env0 P w K mg base A outer s H->n8 vs us->Reps K H O vs ds->ds.length=n->(∀a,O a->∃o,H a=some o/\Mt o)->Tb H->cD K O->m ds=.ok d->
  (∀v H',Same H H'->Rep K H' O v d->Q v H')->codeAny (model P w) A (.call (.ref a) ⟨us,[]⟩) (CR vM outer P w H s Q E) s
end
open Classical in
def callC (Φ:(List D->R D)->Hp->(Addr->Prop)->Addr->Prop) (i:Nat) (f:Ev->R (List D)):Ev->R D:=λρ=>match ρ[i]? with
 |some (.c m φ)=>if φ=Φ m then(f ρ).bind m else .bad
 |_=>.bad
section
def MT (i:Nat)(ha:IL X (e::es) f)(hl:GJ f n)(hr:Room k X.A)(hN:X.N[i]?=some x:=by rfl)(hv:zJ X.env.scope x:=by first|exact aCM rfl|exact aBW (aCM rfl)|exact aBW (aBW rfl))(hd:(x==("__debug__":Str))=false:=by decide)(gg:(x==("__classdict__":Str))=false:=by decide)(he:starEach (e::es) X.env=(false,eval e X.env)::starEach es X.env:=by rfl)(bf:(backTo pos (starEach es X.env)).any (·.1)=false:=by rfl):
  PD X (.Call (.Name x p) (e::es) [] pos) (callC (IM X.prog X.w X.K X.mg X.base k n) i f):=by
 refine vU λpins s σ H Q I H9 O0 O ρ E q=>?_;unfold callC at q;cases e1:ρ[i]? with
 |none=>rw[e1]at q;exact q.elim
 |some sl=>
  rw[e1]at q;cases sl with
  |c m φ=>
   dsimp only at q;split at q
   ·rename_i hφ;subst hφ;obtain⟨a,h1,h2⟩:=E.slot i _ e1;obtain⟨⟨oc,od,fd,sl,hf⟩,_⟩:=h2 H O (Kp.refl _ _);refine aAM (D9 (R3 hN hv hd gg pins s σ H (λv H'=>v=.ref a/\H'=H) I ⟨_,h1,rfl,rfl⟩) λu s1 ⟨v,H1,I1,r1,ev,eH⟩=>?_);subst ev eH;obtain rfl:u=aDj a:=r1;refine PySem.W.callWith_F ⟨oc,od,fd,sl,(I1.hok a _ hf).1⟩ (D9 (ha pos pins s1 σ H1 _ I1 ⟨H9,O0,O,ρ,E,IP.seq q⟩) λus s2 ⟨vs,H2,I2,rv,ds,e2,sm,rr,qq⟩=>⟨⟨oc,od,fd,sl,(I2.hok a _<|sm _ _ hf).1⟩,?_⟩) he bf;cases e3:m ds with
    |ex z=>rw[e3]at qq;exact(qq H2<|Same.refl _).elim
    |bad=>rw[e3]at qq;exact qq.elim
    |ok d=>
     rw[e3]at qq;have E2:=E.grow sm;refine wpAny_call (aDG ((h2 H2 O<|Kp.of sm).2 X.A X.stack s2 us vs ds d Q (λ_ _ _=>False) hr I2.af3 rv rr (hl ρ ds e2) E2.trk E2.tab (oQ I2 O E2.trk) e3 qq) λr s' hq=>?_);cases r with
     |error e=>exact hq.elim
     |ok fl=>
      cases fl with
      |ret u=>exact I2.after hq
      |next=>exact aAm hq
      |brk=>exact aAm hq
      |cont=>exact aAm hq
   ·exact q.elim
  |_=>exact q.elim
end
def kw (K:PySem.W.Frag)(Φ:(List D->R D)->Hp->(Addr->Prop)->Addr->Prop)(M:D->(List D->R D)->(List D->R D)->R D):Sp:=λvs H Q _=>∃O v1 d1 a1 m1 a2 m2 d,vs=[v1,.ref a1,.ref a2]/\Rep K H O v1 d1/\(∀H2 O2,Kp H O H2 O2->Φ m1 H2 O2 a1)/\(∀H2 O2,Kp H O H2 O2->Φ m2 H2 O2 a2)/\
 (∀a,O a->∃o,H a=some o/\Mt o)/\Tb H/\cD K O/\M d1 m1 m2=.ok d/\∀v H',Same H H'->Rep K H' O v d->Q v H'
def kG (N:List Str)(Φ:(List D->R D)->Hp->(Addr->Prop)->Addr->Prop)(d1:D)(m1 m2:List D->R D):Ev:=.v d1::.c m1 (Φ m1)::.c m2 (Φ m2)::aCJ (N.length-3) Sl.no
def BE {K:PySem.W.Frag}{H:Hp}{O:Addr->Prop}{N:List Str}{v1:V}{d1:D}{a1 a2:Addr}{m1 m2:List D->R D}{Φ:(List D->R D)->Hp->(Addr->Prop)->Addr->Prop}(r:Rep K H O v1 d1)(c1:∀H2 O2,Kp H O H2 O2->Φ m1 H2 O2 a1)(c2:∀H2 O2,Kp H O H2 O2->Φ m2 H2 O2 a2)
  (t:∀a,O a->∃o,H a=some o/\Mt o) (tb:Tb H):EnvOk K H O H O (start N [v1,.ref a1,.ref a2]) (kG N Φ d1 m1 m2)where
 len:=by simp[L2.start,kG]
 same:=Same.refl H
 sub:=λ_ h=>h
 trk:=t
 trk0:=λa h=>let⟨o,q,_⟩:=t a h;⟨o,q⟩
 tab:=tb
 slot:=λi sl h=>by
  match i with
  |0=>cases h;exact⟨v1,rfl,r⟩
  |1=>cases h;exact⟨a1,rfl,c1⟩
  |2=>cases h;exact⟨a2,rfl,c2⟩
  |i+3=>
   have h':(aCJ (N.length-3) Sl.no)[i]?=some sl:=h;rw[aBn]at h';split at h'
   ·cases h';trivial
   ·cases h'
 inj:=λi j x y a h _ o=>by
  match i with
  |0=>cases h;exact o.elim
  |1=>cases h;exact o.elim
  |2=>cases h;exact o.elim
  |i+3=>
   have h':(aCJ (N.length-3) Sl.no)[i]?=some x:=h;rw[aBn]at h';split at h'
   ·cases h';exact o.elim
   ·cases h'
section
variable{K:PySem.W.Frag}
def fnF {x qual:Str}{st:Stmt}{f:Addr}{fd:FuncData}{N ps:List Str}{k:Nat}{M:D->(List D->R D)->(List D->R D)->R D}{Φ:(List D->R D)->Hp->(Addr->Prop)->Addr->Prop}{F:Ev->R Out}(F0:Fun K x qual st f fd)(S:FnScope N ps (c7 st))(h3:ps.length=3)
  (hb:∀(cdv:Value) (A:Around) (outer:List Env) (s:Shared) (H:Hp) (E:XK),Room k (A.deeper (envOfC qual (c7 st) s.heap.objs.size f cdv))->bZ (TC P w K mg base N qual (c7 st) f cdv A outer s H E) (u5 st) F)
  (hm:∀d1 m1 m2 d,M d1 m1 m2=.ok d->L4 (F (kG N Φ d1 m1 m2))=.ok d):FnOk P w K mg base vM (k+1) f fd ps (kw K Φ M):=by
 refine F0.ok S (λvs H Q E z=>by obtain⟨O,v1,d1,a1,m1,a2,m2,d,e,_⟩:=z;rw[e,h3];rfl) (λcdv A outer s H vs Q E hr z=>?_);obtain⟨O,v1,d1,a1,m1,a2,m2,d,e0,r,c1,c2,ht,tb,fk,e,q⟩:=z;subst e0;refine⟨_,hb cdv A outer s H E hr H O,O,_,BE r c1 c2 ht tb,fk,?_⟩;have h:=hm d1 m1 m2 d e;cases e1:F (kG N Φ d1 m1 m2)with
 |ok o=>
  rw[e1]at h;cases o with
  |rt d'=>have h':R.ok d'=R.ok d:=h;injection h' with h';subst h';exact q
  |nx ρ=>have h':R.ok D.non=R.ok d:=h;injection h' with h';subst h';exactλai H' O' E' _ _=>q .non H' E'.same .non
  |bk ρ=>cases h
  |ct ρ=>cases h
 |ex x=>rw[e1]at h;cases h
 |bad=>rw[e1]at h;cases h
end
structure NScope (ps ls fn:List Str)(sc:Scope):Prop where
 kind:sc.kind=.function
 co:sc.isCoroutine=false
 gen:sc.isGenerator=false
 nd:(ps++(ls++fn)).Nodup
 par:∀x∈ps,sc.names.lookup x=some .local
 fre:∀x∈fn,sc.names.lookup x=some .free
 all:∀x,sc.names.lookup x=some .free->x∈fn
 nocell:∀y∈sc.names,y.2≠.cell
abbrev fy (P:Program)(w:World)(K:PySem.W.Frag)(mg:cF)(base:Heap)(N:List Str)(env:Env)(A:Around)(outer:List Env)(s:Shared)(H:Hp):Cx where
 prog:=P
 w:=w
 K:=K
 mg:=mg
 base:=base
 A:=A.deeper env
 N:=N
 s9:=s
 H9:=H
 env:=env
 outer:=outer
 stack:=env::outer
 ex:=[]
 calm:=true
 fn:=λ_=>false
 pn:=[]
 xe:=λ_ _=>False
def M4 {α:Type}(vs:List α)(n:Nat)(no:α)(ws:List α):List α:=vs++(aCJ n no++ws)
def gC {α:Type}{vs ws:List α}{n i:Nat}{no a:α}(h:(M4 vs n no ws)[i]?=some a):vs[i]?=some a\/a=no\/(vs.length+n<=i/\ws[i-(vs.length+n)]?=some a):=by
 unfold M4 at h;by_cases h1:i<vs.length
 ·rw[aAO h1]at h;exact .inl h
 ·rw[aAz (by lia)]at h;by_cases h2:i-vs.length<n
  ·rw[aAO (by simpa using h2),aBn,if_pos h2]at h;exact .inr (.inl (aAj h).symm)
  ·rw[aAz (by simpa using h2),aCi]at h;exact .inr (.inr ⟨by lia,by rw[show i-(vs.length+n)=i-vs.length-n by lia];exact h⟩)
def KH {α:Type}{vs ws:List α}{n i:Nat}{no a:α}(h:vs[i]?=some a):(M4 vs n no ws)[i]?=some a:=by unfold M4;rw[aAO (aAv.mp h).1];exact h
def NS {α:Type}{vs ws:List α}{n i:Nat}{no a:α}(h:ws[i]?=some a):(M4 vs n no ws)[vs.length+n+i]?=some a:=by unfold M4;rw[aAz (by lia),aAz (by simp;lia),aCi,show vs.length+n+i-vs.length-n=i by lia];exact h
section
variable{K:PySem.W.Frag}
def BU {A:Around}{outer:List Env}{s:Shared}{H:Hp}{us:List Value}{vs wv:List V}{h₁:Heap}{tk:Nat}(S:NScope ps ls fn scope)(hd:A.handled=none)(e0:Env0 P w K mg base A outer s H)(hl:vs.length=ps.length)(r:n8 vs us)(oo:wv.length=fn.length)
  (xv:∀(i:Nat) (x:Str) (v:V),fn[i]?=some x->wv[i]?=some v->∃c u,clos.lookup x=some c/\RelV v u/\s.heap.IsCell c (some u)) (hcc:∀x c,clos.lookup x=some c->(∃v,s.heap.IsCell c v)/\H c=none)
  (nc:∀x y c,clos.lookup x=some c->clos.lookup y=some c->x=y) (ym:h₁.Ns s.heap.objs.size (λx=>(ps.zip us).reverse.lookup x)) (hk:∀b o,s.heap.get? b=some o->h₁.get? b=some o):
  Inv (fy P w K mg base (ps++(ls++fn)) (PySem.W.envX qual scope s.heap.objs.size fa cd clos) A outer s H) [] (M4 (vs.map some) ls.length none (wv.map some)) H {s with heap:=h₁,toks:=tk}:=by
 have noA:∀b:Addr,b∉(fy P w K mg base (ps++(ls++fn)) (PySem.W.envX qual scope s.heap.objs.size fa cd clos) A outer s H).ex:=λb z=>absurd (show b∈([]:List Addr)from z) (by simp);have nd1:ps.Nodup:=(aCS.mp S.nd).1;refine⟨⟨e0.mod,S.kind,rfl,rfl,aAh _,nc,λy hy=>?_,λy c hf _=>(by cases hf),λ_=>hd,aFJ e0.frames,.inr ⟨rfl,rfl⟩,λb z=>absurd z (noA b),e0.bs,e0.bsz,λb _ _=>noA b,λb z=>absurd z (noA b),e0.funs,e0.frf⟩,
  rfl,e0.bare,Un.kept hk,⟨_,ym,λi y v h1 h2 h3=>?_⟩,λy c h=>?_,e0.hok.fresh (aAh _),λy c h=>(hcc y c h).2,λp hp=>absurd (show p∈([]:N5)from hp) (by simp),e0.hok.kept hk,?_⟩
 ·have hy:scope.names.lookup y=some .cell\/scope.names.lookup y=some .free:=hy;rcases hy with hy|hy
  ·exact absurd rfl (S.nocell _<|PySem.mem_of_lookup hy)
  ·have hm:=S.all y hy;obtain⟨i,hi,e⟩:=aBd hm;have hw:i<wv.length:=by rw[oo];exact hi
   obtain⟨c,u,q,_⟩:=xv i y wv[i] (by rw[aAg hi,e]) (aAg hw);exact⟨c,q⟩
 ·have hN:(ps++(ls++fn))[i]?=some y:=h1;rcases gC h2 with h2|h2|⟨h4,h2⟩
  ·rw[aAD]at h2;cases e:vs[i]? with
   |none=>rw[e]at h2;cases h2
   |some a=>
    rw[e]at h2;have ea:a=v:=aAj (aAj h2);subst ea;obtain⟨u,hu,rv⟩:=r.get e;have hi:i<ps.length:=by rw[<-hl];exact(aAv.mp e).1
    rw[aAO hi]at hN;refine⟨u,rv,.inl ⟨S.par y (aAl hN),?_⟩⟩;refine bT ?_ ?_
    ·rw[aFt];refine(List.reverse_perm _).nodup_iff.mpr ?_;rw[List.map_fst_zip (by rw[<-hl,r.length];exact aAh _)];exact nd1
    ·rw[aCr];exact aAl (i:=i) (by rw[aBx];exact⟨hN,hu⟩)
  ·cases h2
  ·rw[aAk]at h4 h2;rw[aAD]at h2;cases e:wv[i-(vs.length+ls.length)]? with
   |none=>rw[e]at h2;cases h2
   |some a=>rw[e]at h2;have ea:a=v:=aAj (aAj h2);subst ea;rw[aAz (by lia),aAz (by lia),<-hl,show i-vs.length-ls.length=i-(vs.length+ls.length)by lia]at hN;obtain⟨c,u,q1,q2,q3⟩:=xv _ y a hN e;exact⟨u,q2,.inr ⟨.inr (S.fre y<|aAl hN),c,q1,q3.keeps hk⟩⟩
 ·obtain⟨⟨v,z⟩,_⟩:=hcc y c h;exact⟨v,z.keeps hk⟩
 ·unfold M4;simp[hl,oo]
def zE {H:Hp}{O:Addr->Prop}{vs wv:List V}{ds wd:List D}{n:Nat}(r:Reps K H O vs ds)(r2:Reps K H O wv wd)(t:∀a,O a->∃o,H a=some o/\Mt o)(tb:Tb H):
  EnvOk K H O H O (M4 (vs.map some) n none (wv.map some)) (M4 (ds.map Sl.v) n .no (wd.map Sl.v))where
 len:=by unfold M4;simp[r.length,r2.length]
 same:=Same.refl H
 sub:=λ_ h=>h
 trk:=t
 trk0:=λa h=>let⟨o,q,_⟩:=t a h;⟨o,q⟩
 tab:=tb
 slot:=λi sl h=>by
  rcases gC h with h|h|⟨h1,h⟩
  ·rw[aAD]at h;cases e:ds[i]? with
   |none=>rw[e]at h;cases h
   |some d=>rw[e]at h;have h':Sl.v d=sl:=aAj h;subst h';obtain⟨v,e1,e2⟩:=r.get e;exact⟨v,KH (by rw[aAD,e1];rfl),e2⟩
  ·subst h;trivial
  ·rw[aAD,aAk]at h;rw[aAk]at h1;cases e:wd[i-(ds.length+n)]? with
   |none=>rw[e]at h;cases h
   |some d=>rw[e]at h;have h':Sl.v d=sl:=aAj h;subst h';obtain⟨v,e1,e2⟩:=r2.get e;refine⟨v,?_,e2⟩;have:=NS (vs:=vs.map some) (n:=n) (no:=(none:Option V)) (ws:=wv.map some) (i:=i-(ds.length+n)) (a:=some v) (by rw[aAD,e1];rfl);rw[aAk,r.length,show ds.length+n+(i-(ds.length+n))=i by lia]at this;exact this
 inj:=λi j x y a h _ o=>by
  rcases gC h with h|h|⟨_,h⟩
  ·obtain⟨d,_,rfl⟩:=aAo.mp (aAl h);exact o.elim
  ·subst h;exact o.elim
  ·obtain⟨d,_,rfl⟩:=aAo.mp (aAl h);exact o.elim
def WL {name:Str}{params:Arguments}{body:List Stmt}{doc pm ctv:Value}{c':Addr}{oc:Obj}{k:Nat}{m:List D->R D}{F:Ev->R Out}{H:Hp}{O:Addr->Prop}{cs:N5}{wv:List V}{wd:List D}(S:NScope ps ls fn scope)
  (hb:∀(A:Around) (outer:List Env) (s:Shared) (H:Hp),Room k (A.deeper (PySem.W.envX qual scope s.heap.objs.size fa (.ref c') clos))->bZ (fy P w K mg base (ps++(ls++fn)) (PySem.W.envX qual scope s.heap.objs.size fa (.ref c') clos) A outer s H) body F)
  (hm:∀ds d,ds.length=ps.length->m ds=.ok d->L4 (F (M4 (ds.map Sl.v) ls.length .no (wd.map Sl.v)))=.ok d)
  (wu:∀(s:Shared) (us:List Value),us.length=ps.length->BindsTo s (PySem.W.fnX name qual params body scope clos .none .none doc pm none (.ref c') ctv) ⟨us,[]⟩ (ps.zip us))
  (hfa:H fa=some (.frz (PySem.W.fnMade name qual params body scope clos doc pm c' ctv) (.own fa))) (hc:H c'=some (.frz oc (.own c'))) (dg:∃vs t,oc.data=.fields vs/\vs[1]?=some (.str qual t))
  (uu:∀b o,cs.lookup b=some o->H b=some (.frz o (.own b))/\sV o) (xv:∀(i:Nat) (x:Str) (v:V),fn[i]?=some x->wv[i]?=some v->∃c u o,clos.lookup x=some c/\cs.lookup c=some o/\o.data=.cell (some u)/\RelV v u)
  (hcc:∀x c,clos.lookup x=some c->∃o,cs.lookup c=some o) (nc:∀x y c,clos.lookup x=some c->clos.lookup y=some c->x=y) (oo:wv.length=fn.length) (hr:Reps K H O wv wd) (hO:∀a,O a->∃o,H a=some o/\Mt o):
  ∀H2 O2,Kp H O H2 O2->IM P w K mg base (k+1) ps.length m H2 O2 fa:=by
 intro H2 O2 kp;have fz:∀b o u,H b=some (.frz o u)->H2 b=some (.frz o u):=λb o u e=>(kp b _ e λz=>by obtain⟨o',q,mt⟩:=hO b z;rw[e]at q;cases q;exact mt).1;have zh:∀b o,cs.lookup b=some o->H2 b=some (.frz o (.own b)):=λb o q=>fz _ _ _ (uu b o q).1;refine⟨⟨_,_,_,_,fz _ _ _ hfa⟩,λA outer s us vs ds d Q E oa e0 rv rr hl ht tb fk em q=>?_⟩;have KX:K.In s.heap:=e0.mod.kin.keeps λb o e=>(e0.bs b o e).1;have lim:s.heap.NoLimit:=e0.mod.nolimit.keeps λb o e=>(e0.bs b o e).1;have gfa:=(e0.hok fa _<|fz _ _ _ hfa).1;have goc:=(e0.hok c' _<|fz _ _ _ hc).1;obtain⟨ovs,ot,od1,od2⟩:=dg;have hidn:∀b,H2 b=none->Q6 H2 cs b=none:=λb n=>by
  cases z:cs.lookup b with
  |none=>rw[N3 z];exact n
  |some o=>exact bX z
 have e1:Env0 P w K mg base A outer s (Q6 H2 cs):=⟨e0.frames,e0.mod,λb o e=>⟨(e0.bs b o e).1,hidn b (e0.bs b o e).2⟩,e0.bsz,e0.funs,λb hb=>hidn b (e0.frf b hb),NK e0.hok λb o z=>⟨zh b o z,(uu b o z).2⟩,e0.bare⟩;have zi:∀b o,cs.lookup b=some o->s.heap.get? b=some o:=λb o z=>(e0.hok b _<|zh b o z).1;have cfs:∀b o,cs.lookup b=some o->b∉yV outer:=λb o z hb=>by have:=e0.frf b hb;rw[zh b o z]at this;cases this
 have hul:us.length=ps.length:=by rw[<-rv.length,rr.length];exact hl
 have hvl:vs.length=ps.length:=by rw[rr.length];exact hl
 have rwv:Reps K (Q6 H2 cs) O2 wv wd:=(kp.ac2 hO fk hr).hid zh;have tb1:Tb (Q6 H2 cs):=λp hp=>x4 zh (tb p hp) λo _ z=>by cases z
 have ht1:∀a,O2 a->∃o,Q6 H2 cs a=some o/\Mt o:=λa z=>by obtain⟨o,q1,q2⟩:=ht a z;exact⟨o,x4 zh q1 λo' _ z'=>by subst z';exact q2,q2⟩
 let Q':VK:=λv H3=>(∀b o,cs.lookup b=some o->H3 b=none)->Q v (cU H3 cs)
 have qq:∀v H',Same (Q6 H2 cs) H'->Rep K H' O2 v d->Q' v H':=λv H' sm r hn=>by
  refine q v _ (λb u e=>?_) (r.same<|eI hn);cases z:cs.lookup b with
  |none=>exact D3 hn (sm b u (by rw[N3 z];exact e))
  |some o=>rw[zh b o z]at e;cases e;exact eN z
 have fin:∀{u:Value} {s':Shared},CE outer P w (Q6 H2 cs) s Q' u s'->CE outer P w H2 s Q u s':=λ{u s'} ⟨v,H3,os,bare,un,hok,r,qv⟩=>by obtain⟨U2,k2,yo⟩:=VS un hok λb o z=>⟨zi b o z,zh b o z,cfs b o z⟩;exact⟨v,_,os,bare,U2,k2,r,qv λb o z=>un.free b o (zi b o z) (bX z) (by simp)⟩
 refine codeAny_call_def (fd:=PySem.W.fnX name qual params body scope clos .none .none doc pm none (.ref c') ctv) (body:=body) (binds:=ps.zip us) oa.depth gfa rfl lim ⟨c',oc,ovs,ot,rfl,goc,od1,od2⟩ rfl (wu s us hul) S.nocell (λy hy=>S.par y.1 (aDM hy).1) (λh₁ ym hk=>?_) S.co S.gen S.kind;show wpAny (model P w) (A.deeper<|PySem.W.envX qual scope s.heap.objs.size fa (.ref c') clos) (execs body<|PySem.W.envX qual scope s.heap.objs.size fa (.ref c') clos) _ _ _;have I:=BU (qual:=qual) (fa:=fa) (cd:=.ref c') (clos:=clos) (tk:=s.toks+(ps.zip us).length) S oa.hd e1 hvl rv oo (λi x v h1 h2=>by
   obtain⟨c,u,o,q1,q2,q3,q4⟩:=xv i x v h1 h2;exact⟨c,u,q1,q4,o,zi c o q2,q3⟩) (λx c h=>by
   obtain⟨o,z⟩:=hcc x c h;obtain⟨v,z2⟩:=(uu c o z).2;exact⟨⟨v,o,zi c o z,z2⟩,bX z⟩) nc ym hk
 have hx:=hb A outer s (Q6 H2 cs) (oa.deeper _) (Q6 H2 cs) O2 [] _ _ _ {nx:=λ_ H'=>Q' .non H',rt:=Q'} I ⟨O2,_,zE (rr.hid zh) rwv ht1 tb1,fk,?_⟩
 ·refine aCn hx (λfl s' hs=>?_) λe s' hs=>hs.elim;have fin2:∀{ai:St} {H':Hp} {v:V} {u:Value},Inv (fy P w K mg base (ps++(ls++fn)) (PySem.W.envX qual scope s.heap.objs.size fa (.ref c') clos) A outer s<|Q6 H2 cs) [] ai H' s'->RelV v u->Q' v H'->CE outer P w H2 s Q u s':=
   λ{ai H' v u} J rv q=>fin ⟨v,H',J.os,J.bare,J.base,J.hok,rv,q⟩
  cases fl with
  |ret u=>obtain⟨v,ai,H',J,rv,q⟩:=hs;exact fin2 J rv q
  |next=>obtain⟨ai,H',J,q⟩:=hs;exact fin2 (v:=V.non) (u:=Value.none) J rfl q
  |brk=>obtain⟨_,_,_,q⟩:=hs;exact aAm q
  |cont=>obtain⟨_,_,_,q⟩:=hs;exact aAm q
 ·have h:=hm ds d hl em;cases e1:F (M4 (ds.map Sl.v) ls.length .no (wd.map Sl.v))with
  |ok o=>
   rw[e1]at h;cases o with
   |rt d'=>have h':R.ok d'=R.ok d:=h;injection h' with h';subst h';exact qq
   |nx ρ=>have h':R.ok D.non=R.ok d:=h;injection h' with h';subst h';exactλai H' O' E' _ _=>qq .non H' E'.same .non
   |bk ρ=>cases h
   |ct ρ=>cases h
  |ex x=>rw[e1]at h;cases h
  |bad=>rw[e1]at h;cases h
end
def gO (mg:cF)(base:Heap):Prop:=∃bm ob,mg "__builtins__"=some (.ref bm)/\bm≠builtinsNs/\base.get? bm=some ob/\ob.cls=.type "module"/\ob.dict=some builtinsNs/\ob.data=.plain
def rG:∀(l:List Value),TriplesOk l->codeAmong pos l=some x->codeAmong pos (l++[rawInt a,rawInt b,c])=some x:=λl h e=>by
 fun_induction TriplesOk l with
 |case1=>simp[codeAmong]at e
 |case2 a' t b' u y rest ih=>
  simp only[aBq,codeAmong]at e⊢;split at e
  ·rename_i hc;rw[if_pos hc];exact e
  ·rename_i hc;rw[if_neg hc];exact ih h e
 |case3 l h1 h2=>exact h.elim
def MH (ne:¬(a=pos.line/\b=pos.col)):∀(l:List Value),TriplesOk l->codeAmong pos l=none->codeAmong pos (l++[rawInt a,rawInt b,c])=none:=λl h e=>by
 fun_induction TriplesOk l with
 |case1=>simp only[aEA,rawInt,codeAmong];rw[if_neg];simp only[aAK,beq_iff_eq];exact ne
 |case2 a' t b' u y rest ih=>
  simp only[aBq,codeAmong]at e⊢;split at e
  ·cases e
  ·rename_i hc;rw[if_neg hc];exact ih h e
 |case3 l h1 h2=>exact h.elim
def fT (H:Hp)(fa:Addr)(name qual:Str)(params:Arguments)(body:List Stmt)(scope:Scope)(clos:List (Str×Addr)):Prop:=
 ∃c' oc doc pm ctv,H fa=some (.frz (PySem.W.fnMade name qual params body scope clos doc pm c' ctv) (.own fa))/\H c'=some (.frz oc (.own c'))/\∃vs t,oc.data=.fields vs/\vs[1]?=some (.str qual t)
def fT.same (h:fT H fa name qual params body scope clos)(s:Same H H'):fT H' fa name qual params body scope clos:=
 let⟨c',oc,doc,pm,ctv,h1,h2,h3⟩:=h;⟨c',oc,doc,pm,ctv,s _ _ h1,s _ _ h2,h3⟩
section
def xF {Q:Flow->Shared->Prop}(I:Inv X pins σ H s)(hB:gO X.mg X.base)(jo:X.env.code=.ref c)(hK:PySem.W.codeHdIn X.K c Pt=true)(hT:H Pt=some (.tbl tb))(hq:qualnameIn X.env name name=qual)(hm:(pos,qual)∈tb)(hu:∀p∈tb,p.1.line=pos.line->p.1.col=pos.col->p.2=qual)(xv:closureFor scope X.env=pure clos)(hd0:params.defaults=[])(hk0:params.kw_defaults=[])(ha:annTrees params none X.env=[])(hN:X.N.Nodup)(hi:X.N[i]?=some name)(hx:Loc X.env.scope name)(hf:X.fn name=true\/X.env.scope.names.lookup name=some .local)(h:∀fa H' s',Inv X pins (σ.set i (some (.ref fa))) H' s'->Same H H'->fT H' fa name qual params body scope clos->Q .next s'):wpAny (model X.prog X.w) X.A (exec (.FunctionDef name params body [] none [] scope none name pos) X.env) Q X.xe s:=by
 refine PySem.W.nestDef_K hd0 hk0 ha ?_;rw[hq];have hg:s.heap.Ns mainGlobals X.mg:=I.mod.glob.keeps I.bk;have C:PySem.W.CodeHd s.heap c Pt:=PySem.W.codeHd_of_K I.kIn hK;obtain⟨ps,hP,hTr,hTb⟩:=I.hok Pt _ hT;have hgP:mainGlobals≠Pt:=λq=>by obtain⟨o,es,ep,e,hd,_⟩:=hg;rw[q,hP]at e;cases e;cases hd
 have hb:s.heap.BuiltinsAt X.mg Pt:=by
  obtain⟨bm,ob,b1,b2,b3,b4,b5,b6⟩:=hB;have b3':=I.bk _ _ b3;refine⟨bm,ob,b1,b2,λq=>?_,λq=>?_,b3',b4,b5,b6⟩
  ·obtain⟨o,es,ep,e,hd,_⟩:=hg;rw[<-q,b3']at e;cases e;rw[hd]at b6;cases b6
  ·rw[q,hP]at b3';cases b3';cases b4
 have neP:∀b,H b=none->b≠Pt:=λb n z=>by rw[z,hT]at n;cases n
 have neL:X.env.locals≠Pt:=neP _ I.free;rcases hTb _ hm with hnf|⟨c',oc,vs,t,hf',xi,gg⟩
 ·refine PySem.W.makeFunction_K (mg:=X.mg) xv I.ok.glob hg jo C hP hTr hnf hgP hb λc' ctv doc h' tk hx' hge ar hrec htb=>?_;obtain⟨c2,oc,vs,t,e2,dg,hd,hv⟩:=hrec;cases e2;have old:∀b u,H b=some u->b<s.heap.objs.size:=λb u e=>I.hok.lt e;have hcN:H c'=none:=I.hok.fresh hge;have hfN:H h'.objs.size=none:=I.hok.fresh (aAr hge<|aDk ar);have ncf:c'≠h'.objs.size:=aAi ar;have sm:Same H (upd (upd H c'<|.frz oc (.own c')) h'.objs.size<|.frz (PySem.W.fnMade name qual params body scope clos doc ((X.mg "__name__").getD .none) c' ctv) (.own h'.objs.size)):=λb u e=>by rw[l5 (t9 e hfN),l5 (t9 e hcN)];exact e
  have oi:∀b o,b≠Pt->s.heap.get? b=some o->(h'.push<|PySem.W.fnMade name qual params body scope clos doc ((X.mg "__name__").getD .none) c' ctv).get? b=some o:=λb o hb e=>aAc _ (hx' b o hb e);have lts:∀b o,s.heap.get? b=some o->b≠c'/\b≠h'.objs.size:=λb o e=>⟨aAi (aAs (aAf e) hge),aAi (aAs (aAf e)<|aAr hge<|aDk ar)⟩;have I1:=I.step (H':=upd (upd H c'<|.frz oc (.own c')) h'.objs.size (.frz (PySem.W.fnMade name qual params body scope clos doc ((X.mg "__name__").getD .none) c' ctv) (.own h'.objs.size)))
   (h':=h'.push (PySem.W.fnMade name qual params body scope clos doc ((X.mg "__name__").getD .none) c' ctv)) (g':=s.gens) (t':=tk) (d':=s.drawn) (ch:=[]) (λ_ z=>nomatch z) (λb o _ _ _ e n=>oi b o (neP b n) e) (λb o _ _ _ e n=>⟨o.slots,oi b o (neP b n) e⟩)
   (λb o _ e n=>by rw[l5 (lts b o e).2,l5 (lts b o e).1];exact n) (λb o _ e=>by
    by_cases hb:b=Pt
    ·subst hb;exact⟨_,aAc _ htb⟩
    ·exact⟨o,oi b o hb e⟩) (λb xs e=>sm _ _ e) (λb o u e=>sm _ _ e) (λb tb e=>sm _ _ e) (λm' hm'=>by
    obtain⟨o,es,ep,e,r⟩:=hm';exact⟨o,es,ep,oi _ o neL e,r⟩) (λb u e=>by
    by_cases hbf:b=h'.objs.size
    ·subst hbf;rw[j6]at e;cases e;exact⟨aAp _ rfl,_,aAp _ rfl⟩
    ·rw[l5 hbf]at e;by_cases hbc:b=c'
     ·subst hbc;rw[j6]at e;cases e;exact⟨aAc _ dg,_,aAc _ dg⟩
     ·rw[l5 hbc]at e;by_cases hbP:b=Pt
      ·subst hbP;rw[hT]at e;cases e;refine⟨_,aAc _ htb,?_,λp hp=>?_⟩
       ·rw[aGc];exact TriplesOk_snoc _ _ _ _ hTr
       ·rw[aGc];show codeAmong p.1 (ps.toList++[rawInt pos.line,rawInt pos.col,.ref c'])=none\/_;by_cases hpp:(pos.line:Int)=p.1.line/\(pos.col:Int)=p.1.col
        ·rcases hTb p hp with h0|⟨c3,oc3,vs3,t3,h0,h1,h2⟩
         ·have e1:pos.line=p.1.line:=by exact_mod_cast hpp.1
          have e2:pos.col=p.1.col:=by exact_mod_cast hpp.2
          refine .inr ⟨c',oc,vs,t,?_,by rw[l5 ncf,j6],hd,?_⟩
          ·rw[e1,e2];exact codeAmong_snoc _ hTr h0
          ·rw[hu p hp e1.symm e2.symm];exact hv
         ·exact .inr ⟨c3,oc3,vs3,t3,rG _ hTr h0,sm _ _ h1,h2⟩
        ·rcases hTb p hp with h0|⟨c3,oc3,vs3,t3,h0,h1,h2⟩
         ·exact .inl (MH hpp _ hTr h0)
         ·exact .inr ⟨c3,oc3,vs3,t3,rG _ hTr h0,sm _ _ h1,h2⟩
      ·refine(I.hok b u e).ab7 (λb2 v hc q=>oi b2 v (λz=>?_) q) (λb2 z=>sm _ _ z) λb2 u _ z=>sm _ _ z;rcases hc with hc|hc
       ·exact hbP (hc▸z)
       ·rw[z,hT]at hc;cases hc) I.bare
  refine Q5 I1 hN hi hx (show RelV (.ref h'.objs.size) _ from rfl) (λs' I'=>h _ _ s' I' sm ⟨c',oc,doc,_,ctv,j6,by rw[l5 ncf,j6],vs,t,hd,hv⟩) hf
 ·refine PySem.W.makeFunction_hit (mg:=X.mg) xv I.ok.glob hg jo C hP hTr hf' hb λctv doc h' tk hk hsz=>?_;have hfN:H h'.objs.size=none:=I.hok.fresh hsz;have I1:=I.laid (a:=h'.objs.size) (o:=.frz (PySem.W.fnMade name qual params body scope clos doc ((X.mg "__name__").getD .none) c' ctv) (.own h'.objs.size)) (h':=h'.push (PySem.W.fnMade name qual params body scope clos doc ((X.mg "__name__").getD .none) c' ctv)) (t':=tk)
   (λb u e=>aAc _ (hk b u e)) hsz ⟨aAp _ rfl,_,aAp _ rfl⟩
  refine Q5 I1 hN hi hx (show RelV (.ref h'.objs.size) _ from rfl) (λs' I'=>h _ _ s' I' (j7 hfN _) ⟨c',oc,doc,_,ctv,j6,j7 hfN _ _ _ xi,vs,t,gg⟩) hf
end
structure Nst where
 name:Str
 qual:Str
 params:Arguments
 body:List Stmt
 scope:Scope
 pos:Pos
 ps:List Str
 ls:List Str
 fn:List Str
 js:List Nat
 F:Ev->R Out
 mm:List D->List D->R D
 i:Nat
abbrev Nst.stmt (n:Nst):Stmt:=.FunctionDef n.name n.params n.body [] none [] n.scope none n.name n.pos
structure NstOk (X:Cx)(k:Nat)(n:Nst):Prop where
 sc:NScope n.ps n.ls n.fn n.scope
 one:n.ps.length=1
 body:∀(fa:Addr) (cd:Value) (clos:List (Str×Addr)) (A:Around) (outer:List Env) (s:Shared) (H:Hp),Room k (A.deeper (PySem.W.envX n.qual n.scope s.heap.objs.size fa cd clos))->bZ (fy X.prog X.w X.K X.mg X.base (n.ps++(n.ls++n.fn)) (PySem.W.envX n.qual n.scope s.heap.objs.size fa cd clos) A outer s H) n.body n.F
 mm:∀wd ds d,wd.length=n.fn.length->ds.length=n.ps.length->n.mm wd ds=.ok d->L4 (n.F (M4 (ds.map Sl.v) n.ls.length .no (wd.map Sl.v)))=.ok d
 bind:∀(clos:List (Str×Addr)) (doc pm cd ctv:Value) (us:List Value),us.length=n.ps.length->bindArgs (PySem.W.fnX n.name n.qual n.params n.body n.scope clos .none .none doc pm none cd ctv) ⟨us,[]⟩=pure (n.ps.zip us)
 len:n.js.length=n.fn.length
 at_:∀(i j:Nat) (x:Str),n.js[i]?=some j->n.fn[i]?=some x->X.N[j]?=some x/\X.env.scope.names.lookup x=some .cell
 d0:n.params.defaults=[]
 k0:n.params.kw_defaults=[]
 nm:X.N[n.i]?=some n.name
 lc:Loc X.env.scope n.name
 st:X.fn n.name=true\/X.env.scope.names.lookup n.name=some .local
 dbg:(n.name==("__debug__":Str))=false
 cdt:(n.name==("__classdict__":Str))=false
structure ClosOk (X:Cx)(n:Nst)(clos:List (Str×Addr)):Prop where
 eq:closureFor n.scope X.env=pure clos
 ann:annTrees n.params none X.env=[]
 qn:qualnameIn X.env n.name n.name=n.qual
 sub:∀x c,clos.lookup x=some c->X.env.cells.lookup x=some c
 has:∀x∈n.fn,∃c,clos.lookup x=some c
def dE:List Nat->Ev->R (List D)
 |[],_=>.ok []
 |j::js,ρ=>(Q4 j ρ).bind λd=>(dE js ρ).bind λds=>.ok (d::ds)
theorem NH {K:PySem.W.Frag}{H9 H:Hp}{O0 O:Addr->Prop}{σ:St}{ρ:Ev}(E:EnvOk K H9 O0 H O σ ρ):∀{js:List Nat} {wd:List D},dE js ρ=.ok wd->∃wv,Reps K H O wv wd/\wv.length=js.length/\∀(i j:Nat) (v:V),js[i]?=some j->wv[i]?=some v->σ[j]?=some (some v)
 |[],wd,h=>by cases h;exact⟨[],.nil,rfl,λi j v e=>by simp at e⟩
 |j::js,wd,h=>by
  unfold dE at h;cases e1:Q4 j ρ with
  |ok d=>
   rw[e1,R.aa0]at h;cases e2:dE js ρ with
   |ok ds=>
    rw[e2,R.aa0]at h;cases h;obtain⟨wv,r,hl,at_⟩:=NH E e2;have:ρ[j]?=some (.v d):=by
     unfold Q4 at e1;split at e1
     ·rename_i q;cases e1;exact q
     ·cases e1
    obtain⟨v,h1,h2⟩:=E.val j d this;refine⟨v::wv,.cons h2 r,by simp[hl],λi j' v' q1 q2=>?_⟩;cases i with
    |zero=>simp at q1 q2;subst q1 q2;exact h1
    |succ i=>exact at_ i j' v' (by simpa using q1) (by simpa using q2)
   |ex z=>rw[e2]at h;cases h
   |bad=>rw[e2]at h;cases h
  |ex z=>rw[e1]at h;cases h
  |bad=>rw[e1]at h;cases h
section
def T2 (h:Heap)(cl:List (Str×Addr)):List (Addr×Obj):=cl.filterMap λp=>(h.get? p.2).map λo=>(p.2,o)
def K9 (e:(T2 h cl).lookup b=some o):h.get? b=some o/\∃x,(x,b)∈cl:=by
 obtain⟨p,hp,q⟩:=aBS.mp (mem_lookup e);cases z:h.get? p.2 with
 |none=>rw[z]at q;cases q
 |some o'=>rw[z]at q;have q':(p.2,o')=(b,o):=aAj q;injection q' with q1 q2;subst q1 q2;exact⟨z,p.1,hp⟩
def kX (hm:(x,b)∈cl)(e:h.get? b=some o):∃o',(T2 h cl).lookup b=some o':=by
 have:(b,o)∈T2 h cl:=aBS.mpr ⟨(x,b),hm,by show(h.get? b).map _=_;rw[e];rfl⟩;cases q:(T2 h cl).lookup b with
 |some o'=>exact⟨o',rfl⟩
 |none=>have:=List.lookup_eq_none_iff.mp q (b,o) this;simp at this
def gj (X:Cx)(n1 n2:Nst)(clos1 clos2:List (Str×Addr))(f:Ev->R D)(M:D->(List D->R D)->(List D->R D)->R D):TE:=λσ H Q=>∃H9 O0 O ρ yd fa2,EnvOk X.K H9 O0 H O σ ρ/\σ[n1.i]?=some (some<|V.ref yd)/\σ[n2.i]?=some (some<|V.ref fa2)/\
 fT H yd n1.name n1.qual n1.params n1.body n1.scope clos1/\fT H fa2 n2.name n2.qual n2.params n2.body n2.scope clos2/\RC X H O ((f ρ).bind λd1=>(dE n1.js ρ).bind λw1=>(dE n2.js ρ).bind λw2=>M d1 (n1.mm w1) (n2.mm w2)) Q
def wQ {n:Nst}{clos clA:List (Str×Addr)}{k:Nat}{pins:N5}{σ:St}{H:Hp}{s:Shared}{H9:Hp}{O0 O:Addr->Prop}{ρ:Ev}{fa:Addr}{wd:List D}(ok:NstOk X k n)(hc:ClosOk X n clos)(I:Inv X pins σ H s)(E:EnvOk X.K H9 O0 H O σ ρ)
  (hA:∀p∈clos,p∈clA) (hAc:∀x b,(x,b)∈clA->X.env.cells.lookup x=some b) (made:fT H fa n.name n.qual n.params n.body n.scope clos) (hw:dE n.js ρ=.ok wd):
  ∀H2 O2,Kp (cU H (T2 s.heap clA)) O H2 O2->IM X.prog X.w X.K X.mg X.base (k+1) 1 (n.mm wd) H2 O2 fa:=by
 obtain⟨c',oc,doc,pm,ctv,h1,h2,h3⟩:=made;obtain⟨wv,ph,hl,at_⟩:=NH E hw;have hn:∀b o,(T2 s.heap clA).lookup b=some o->H b=none:=λb o q=>by obtain⟨_,x,hm⟩:=K9 q;exact I.freeC x b (hAc x b hm)
 have sm:=eI hn
 suffices key:∀H2 O2,Kp (cU H<|T2 s.heap clA) O H2 O2->IM X.prog X.w X.K X.mg X.base (k+1) n.ps.length (n.mm wd) H2 O2 fa by rw[ok.one]at key;exact key
 refine WL (cs:=T2 s.heap clA) (wv:=wv) (wd:=wd) (F:=n.F) ok.sc (λA outer s H hr=>ok.body fa (.ref c') clos A outer s H hr) (λds d ki e=>ok.mm wd ds d (by rw[<-ph.length,hl,ok.len]) ki e) (λs us ki=>.of_eq (ok.bind clos doc pm (.ref c') ctv us ki)) (sm _ _ h1) (sm _ _ h2) h3
  (λb o q=>⟨eN q,?_⟩) (λi x v q1 q2=>?_) (λx c q=>?_) (λx y c q1 q2=>I.ok.inj x y c (hc.sub x c q1) (hc.sub y c q2)) (by rw[hl,ok.len]) (ph.same sm) (E.grow sm).trk
 ·obtain⟨e1,x,hm⟩:=K9 q;obtain⟨v,o',e2,e3⟩:=I.cell x b (hAc x b hm);rw[e1]at e2;cases e2;exact⟨v,e3⟩
 ·have hi:i<n.js.length:=by rw[ok.len];exact(aAv.mp q1).1
  have ej:n.js[i]?=some n.js[i]:=aAg hi;obtain⟨hN,hk⟩:=ok.at_ i _ x ej q1;have hσ:=at_ i _ v ej q2;obtain⟨m,ym,hloc⟩:=I.loc;obtain⟨u,ru,look⟩:=hloc _ x v hN hσ (.inr (.inl hk));rcases look with⟨ke,_⟩|⟨_,c,fg,o,ho,hd⟩
  ·have hk'':X.env.scope.names.lookup x=some .local:=ke;rw[hk]at hk'';cases hk''
  ·obtain⟨c2,q3⟩:=hc.has x (aAl q1);have q4:=hc.sub x c2 q3;rw[fg]at q4;cases q4;obtain⟨o',q5⟩:=kX (hA _<|PySem.mem_of_lookup q3) ho;have:=(K9 q5).1;rw[ho]at this;cases this;exact⟨c,u,o,q3,q5,hd,ru⟩
 ·obtain⟨v,o,ho,_⟩:=I.cell x c (hc.sub x c q);exact kX (hA _<|PySem.mem_of_lookup q) ho
def SB (qg:NstOk X k n1)(qh:NstOk X k n2)(hc1:ClosOk X n1 clos1)(jm:ClosOk X n2 clos2)(hA:∀x b,(x,b)∈clos1++clos2->X.env.cells.lookup x=some b)(FF:FnOk X.prog X.w X.K X.mg X.base vM kf g gd ps3 (kw X.K (IM X.prog X.w X.K X.mg X.base (k+1) 1) M))(hr:Room kf X.A)(hm:X.mg x=some (.ref g))(hk:PySem.W.keepIn X.K (.ref g)=true)(hb:Binds X.K gd ps3 [])(h3:ps3.length=3)(he:PD X e f)(xh:∀y,X.fn y=true)(hg:Gl X x:=by rfl)(ia:(x==("__debug__":Str))=false:=by decide)(yn:starEach [e,.Name n1.name p1,.Name n2.name p2] X.env=(false,eval e X.env)::starEach [.Name n1.name p1,.Name n2.name p2] X.env:=by rfl)(hs2:starEach [.Name n1.name p1,.Name n2.name p2] X.env=(false,eval (.Name n1.name p1) X.env)::starEach [.Name n2.name p2] X.env:=by rfl)(hs3:starEach [.Name n2.name p2] X.env=(false,eval (.Name n2.name p2) X.env)::starEach [] X.env:=by rfl)(bf:(backTo pos (starEach [.Name n1.name p1,.Name n2.name p2] X.env)).any (·.1)=false:=by rfl):
  PE X (.Call (.Name x p) [e,.Name n1.name p1,.Name n2.name p2] [] pos) (gj X n1 n2 clos1 clos2 f M):=by
 intro pins s σ H Q I ⟨H9,O0,O,ρ,yd,fa2,E,h1,h2,md1,md2,q⟩;have vis:∀{y:Str},Loc X.env.scope y->zJ X.env.scope y:=λh=>h.elim .inl λz=>.inr (.inl z);have mo:PA X [e,.Name n1.name p1,.Name n2.name p2] _:=J9 he (J9 (R3 qg.nm (vis qg.lc) qg.dbg qg.cdt) (J9 (R3 qh.nm (vis qh.lc) qh.dbg qh.cdt) aV hs3) hs2) yn;refine aAM (vL I hg hm ?_ ia);refine PySem.W.callWith_K (h₀:=X.base) I.ok.mod.kin hk (D9 (mo pos pins s σ H (λvs H1=>∃v1 d1 w1 w2 d,vs=[v1,.ref yd,.ref fa2]/\Same H H1/\Rep X.K H1 O v1 d1/\dE n1.js ρ=.ok w1/\dE n2.js ρ=.ok w2/\M d1 (n1.mm w1) (n2.mm w2)=.ok d/\∀v H',Same H1 H'->Rep X.K H' O v d->Q v H') I ⟨H9,O0,O,ρ,E,?_⟩) λus s1 ⟨vs,H1,I1,r,v1,d1,w1,w2,d,ev,sm,r1,c1,c2,em,qq⟩=>⟨I1.kIn,?_⟩) yn bf
 ·cases e1:f ρ with
  |ex z=>rw[e1]at q;exact q
  |bad=>rw[e1]at q;exact q
  |ok d1=>
   rw[e1,R.aa0]at q;cases e2:dE n1.js ρ with
   |ex z=>rw[e2]at q;exact(q H<|Same.refl _).elim
   |bad=>rw[e2]at q;exact q.elim
   |ok w1=>
    rw[e2,R.aa0]at q;cases e3:dE n2.js ρ with
    |ex z=>rw[e3]at q;exact(q H<|Same.refl _).elim
    |bad=>rw[e3]at q;exact q.elim
    |ok w2=>
     rw[e3,R.aa0]at q;cases e4:M d1 (n1.mm w1) (n2.mm w2)with
     |ex z=>rw[e4]at q;exact(q H<|Same.refl _).elim
     |bad=>rw[e4]at q;exact q.elim
     |ok d=>rw[e4]at q;exactλv1 H1 s1 r1=>⟨_,h1,_,h2,v1,d1,w1,w2,d,rfl,s1,r1,rfl,rfl,e4,λv H' s2 r2=>q v H' (s1.trans s2) r2⟩
 ·subst ev;have E1:=E.grow sm;generalize uu:T2 s1.heap (clos1++clos2)=cs;have hn:∀b o,cs.lookup b=some o->s1.heap.get? b=some o/\H1 b=none/\sV o:=λb o z=>by rw[<-uu]at z;obtain⟨e1,y,hm⟩:=K9 z;obtain⟨v,o',e2,e3⟩:=I1.cell y b (hA y b hm);rw[e1]at e2;cases e2;exact⟨e1,I1.freeC y b (hA y b hm),v,e3⟩
  have hn0:∀b o,cs.lookup b=some o->H1 b=none:=λb o z=>(hn b o z).2.1;have smf:Same H1 (cU H1 cs):=eI hn0;have E2:=E1.grow smf;have e0:=I1.af3;have nofr:∀b o,cs.lookup b=some o->b∉yV X.stack:=λb o z hb=>by
   rw[<-uu]at z;obtain⟨_,y,hmy⟩:=K9 z;rcases aAd.mp (I1.ab6 b hb)with e|hb
   ·exact I1.cne y b (hA y b hmy) e
   ·obtain⟨_,o',ho,_⟩:=I1.ok.funs.mem hb;exact absurd (aAs (aAf ho)<|I1.ok.cab y b (xh y)<|hA y b hmy) (aBe _)
  have nob:∀b o,X.base.get? b=some o->cs.lookup b=none:=λb o e=>by
   cases z:cs.lookup b with
   |none=>rfl
   |some o'=>rw[<-uu]at z;obtain⟨_,y,hm⟩:=K9 z;exact absurd (aAs (aAf e)<|aAr I1.ok.bsz<|I1.ok.cab y b (xh y)<|hA y b hm) (aBe _)
  have e2:Env0 X.prog X.w X.K X.mg X.base X.A X.stack s1 (cU H1 cs):=⟨e0.frames,e0.mod,λb o e=>⟨(e0.bs b o e).1,by rw[Q8 (nob b o e)];exact(e0.bs b o e).2⟩,e0.bsz,e0.funs,λb hb=>by
   cases z:cs.lookup b with
   |none=>rw[Q8 z];exact e0.frf b hb
   |some o=>exact absurd hb (nofr b o z),MZ e0.hok λb o z=>⟨(hn b o z).1,(hn b o z).2.1⟩,e0.bare⟩
  have cl1:=wQ qg hc1 I1 E1 (λp hp=>aBE _ hp) hA (md1.same sm) c1;have cl2:=wQ qh jm I1 E1 (λp hp=>aAF _ hp) hA (md2.same sm) c2;rw[uu]at cl1 cl2;have hl:us.length=ps3.length:=by rw[<-r.length,h3];rfl
  have hbs:=hb s1 us I1.kIn (by rw[aCB];exact hl);rw[aCB]at hbs;refine wpAny_call (aDG (FF.run X.A X.stack s1 (cU H1 cs) ⟨us,[]⟩ us _ (λv H'=>Q v (Q6 H' cs)) (λ_ _ _=>False) hr e2 hbs r ⟨O,v1,d1,yd,_,fa2,_,d,rfl,r1.same smf,cl1,cl2,E2.trk,E2.tab,oQ I1 O E1.trk,em,λv H' s2 r2=>?_⟩) λrr s' hq=>?_)
  ·have hz:∀b o,cs.lookup b=some o->H' b=some (.frz o (.own b)):=λb o z=>s2 _ _ (eN z);refine qq v _ (λb u e=>x4 hz (s2 b u<|smf b u e) λo z _=>?_) (r2.hid hz);rw[hn0 b o z]at e;cases e
  ·cases rr with
   |error e=>exact hq.elim
   |ok fl=>
    cases fl with
    |next=>exact aAm hq
    |brk=>exact aAm hq
    |cont=>exact aAm hq
    |ret u=>obtain⟨v,H',os,bare,un,hok,rv,qv⟩:=hq;obtain⟨U2,k2,_⟩:=WV un hok hn;exact I1.after ⟨v,_,os,bare,U2,k2,rv,qv⟩
def HH (qg:NstOk X k n1)(qh:NstOk X k n2)(hc1:ClosOk X n1 clos1)(jm:ClosOk X n2 clos2)(hA:∀x b,(x,b)∈clos1++clos2->X.env.cells.lookup x=some b)(hB:gO X.mg X.base)(jo:X.env.code=.ref c)(hK:PySem.W.codeHdIn X.K c Pt=true)(hTt:(Pt,tb)∈Tabs.tbs)(hm1:(n1.pos,n1.qual)∈tb)(kg:(n2.pos,n2.qual)∈tb)(eh:∀p∈tb,p.1.line=n1.pos.line->p.1.col=n1.pos.col->p.2=n1.qual)(hu2:∀p∈tb,p.1.line=n2.pos.line->p.1.col=n2.pos.col->p.2=n2.qual)(af:n1.i≠n2.i)(hN:X.N.Nodup)(FF:FnOk X.prog X.w X.K X.mg X.base vM kf g gd ps3 (kw X.K (IM X.prog X.w X.K X.mg X.base (k+1) 1) M))(hr:Room kf X.A)(hm:X.mg x=some (.ref g))(hk:PySem.W.keepIn X.K (.ref g)=true)(hb:Binds X.K gd ps3 [])(h3:ps3.length=3)(he:PD X e f)(xh:∀y,X.fn y=true)(hg:Gl X x:=by rfl)(ia:(x==("__debug__":Str))=false:=by decide)(yn:starEach [e,.Name n1.name p1,.Name n2.name p2] X.env=(false,eval e X.env)::starEach [.Name n1.name p1,.Name n2.name p2] X.env:=by rfl)(hs2:starEach [.Name n1.name p1,.Name n2.name p2] X.env=(false,eval (.Name n1.name p1) X.env)::starEach [.Name n2.name p2] X.env:=by rfl)(hs3:starEach [.Name n2.name p2] X.env=(false,eval (.Name n2.name p2) X.env)::starEach [] X.env:=by rfl)(bf:(backTo pos (starEach [.Name n1.name p1,.Name n2.name p2] X.env)).any (·.1)=false:=by rfl):
  bZ X [n1.stmt,n2.stmt,.Return (some (.Call (.Name x p) [e,.Name n1.name p1,.Name n2.name p2] [] pos)) rpos] (λρ=>((f ((ρ.set n1.i .no).set n2.i .no)).bind λd1=>(dE n1.js ((ρ.set n1.i .no).set n2.i .no)).bind λw1=>(dE n2.js ((ρ.set n1.i .no).set n2.i .no)).bind λw2=>M d1 (n1.mm w1) (n2.mm w2)).bind λd=>.ok (.rt d)):=by
 intro H9 O0 pins s σ H D I ⟨O,ρ,E,fk,q⟩;refine aEi (xF (σ:=σ) I hB jo hK (E.tab _ hTt) hc1.qn hm1 eh hc1.eq qg.d0 qg.k0 hc1.ann hN qg.nm qg.lc qg.st λyd H1 s1 I1 sm1 md1=>?_);have E1:EnvOk X.K H9 O0 H1 O (σ.set n1.i<|some<|.ref yd) (ρ.set n1.i .no):=(E.grow sm1).put n1.i (λz=>z) trivial;refine aEi (xF (σ:=σ.set n1.i (some<|.ref yd)) I1 hB jo hK (E1.tab _ hTt) jm.qn kg hu2 jm.eq qh.d0 qh.k0 jm.ann hN qh.nm qh.lc qh.st λfa2 H2 s2 I2 yo md2=>?_);have E2:EnvOk X.K H9 O0 H2 O ((σ.set n1.i<|some<|.ref yd).set n2.i (some<|.ref fa2)) ((ρ.set n1.i .no).set n2.i .no):=(E1.grow yo).put n2.i (λz=>z) trivial;have l1:n1.i<σ.length:=by rw[I.len];exact(aAv.mp qg.nm).1
 have l2:n2.i<σ.length:=by rw[I.len];exact(aAv.mp qh.nm).1
 refine CZ (NV<|SB qg qh hc1 jm hA FF hr hm hk hb h3 he xh hg ia yn hs2 hs3 bf) pins s2 _ H2 D I2 ⟨H9,O0,O,_,yd,fa2,E2,?_,?_,md1.same yo,md2,?_⟩
 ·rw[aCs (aCb af),aBI l1]
 ·rw[aBI (by rw[aFA];exact l2)]
 ·revert q;dsimp only;generalize((f<|(ρ.set n1.i .no).set n2.i .no).bind λd1=>(dE n1.js<|(ρ.set n1.i .no).set n2.i .no).bind λw1=>(dE n2.js<|(ρ.set n1.i .no).set n2.i .no).bind λw2=>M d1 (n1.mm w1) (n2.mm w2))=rr;intro q;cases rr with
  |ok d=>exactλv H' s r=>q v H' (E2.same.trans s) (r.sub E2.sub)
  |ex z=>exactλH' s=>q H' (E2.same.trans s)
  |bad=>exact q
end
def uL (K:PySem.W.Frag):Sp:=λvs H Q _=>∃(a:Addr) (ns:List Int),vs=[.ref a]/\N8 K H a (ns.map V.int)/\ns.length<=63/\(∀x∈ns,aAT x<=1048576)/\Tb H/\∀H',Q (.bl true) H'
def SK {P:Program}{w:World}{K:PySem.W.Frag}{mg:cF}{base:Heap}{k:Nat}{f:Addr}{fd:FuncData}{m:List D->R D}(F:FnOk P w K mg base vM k f fd ["script"] (YR K 1 m))
  (h:∀ns:List Int,ns.length<=63->(∀x∈ns,aAT x<=1048576)->m [.lst (ns.map D.int)]=.ok (.bl true)):FnOk P w K mg base vM k f fd ["script"] (uL K):=
 F.imp λvs H Q E ⟨a,ns,e,hS,hl,hb,tb,q⟩=>⟨λ_=>False,_,_,by rw[e];exact .cons (.lst hS (λz=>z) (Reps.ints ns)) .nil,rfl,λ_ z=>z.elim,tb,λ_ _ _ z=>z,h ns hl hb,λv H' _ r=>by cases r;exact q H'⟩
def IH {P:Program}{w:World}{K:PySem.W.Frag}{mg mb:cF}{k:Nat}{fa a:Addr}{fd:FuncData}{ae:Shared}{vs:List Value}{ns:List Int}
  (KX:K.In ae.heap) (ym:ae.heap.Ns mainGlobals mg) (hb:ae.heap.Ns builtinsNs mb) (hbb:∀x:Str,x≠ "__name__"->mb x=bootBuiltins x) (hlim:ae.heap.NoLimit) (hB:gO mg ae.heap) (hg:ae.gens=#[])
  (ha:ae.heap.get? a=some {cls:=.type "list",data:=.seq vs.toArray}) (hi:IntsAre vs ns) (hl:ns.length<=63) (xa:∀x∈ns,aAT x<=1048576) (hr:Room k callerA)
  (hT:∀p∈Tabs.tbs,ae.heap.get? p.1=some (PySem.W.tabObj #[])/\isCodeTable ae.heap p.1) (hTd:(Tabs.tbs.map (·.1)).Nodup) (hKn:PySem.W.noTabs K=true)
  (F:∀base:Heap,K.In base->base.Ns mainGlobals mg->gO mg base->FnOk P w K mg base vM k fa fd ["script"] (uL K)) (wu:∀(s:Shared) (u:Value),BindsTo s fd ⟨[u],[]⟩ [("script",u)]):
  codeAny (model P w) callerA (.call (.ref fa) ⟨[.ref a],[]⟩) (λr s'=>r=.ok (.ret (.bool true))/\OldK ae.heap s'.heap/\s'.os=ae.os/\AllBare s'.gens) ae:=by
 have rv:=L2.T9 hi;have lenV:=hi.length;have ie:ns.length<=sizeLine:=aAr hl (by decide);have td:∀b tb,Tabs.tbs.lookup b=some tb->ae.heap.get? b=some (PySem.W.tabObj #[])/\isCodeTable ae.heap b:=λb tb e=>hT (b,tb) (mem_lookup e);have nta:Tabs.tbs.lookup a=none:=by
  cases e:Tabs.tbs.lookup a with
  |none=>rfl
  |some tb=>have:=(td a tb e).1;rw[ha]at this;cases this
 have noK:∀b o,K.lookup b=some o->Tabs.tbs.lookup b=none:=λb o e=>by
  cases z:Tabs.tbs.lookup b with
  |none=>rfl
  |some tb=>have e1:=KX b o e;rw[(td b tb z).1]at e1;cases e1;have h2:=aBC.mp hKn (b,_) (PySem.W.mem_of_lookupK e);exact absurd (show false=true from h2) aBg
 let put:Hp->Hp:=λH b=>match Tabs.tbs.lookup b with
  |some tb=>some (.tbl tb)
  |none=>H b
 have mY:∀(H:Hp) b tb,Tabs.tbs.lookup b=some tb->put H b=some (.tbl tb):=λH b tb e=>by show(match Tabs.tbs.lookup b with|some tb=>some (HO.tbl tb)|none=>H b)=_;rw[e]
 have gr:∀(H:Hp) b,Tabs.tbs.lookup b=none->put H b=H b:=λH b e=>by show(match Tabs.tbs.lookup b with|some tb=>some (HO.tbl tb)|none=>H b)=_;rw[e]
 have core:∀H0:Hp,(∀b,H0 b=none\/∃xs,H0 b=some (.frz {cls:=.type "list",data:=.seq vs.toArray} (.lst xs)))->N8 K (put H0) a (ns.map V.int)->(∀b u,H0 b=some u->ObjOk P w (put H0) ae.heap b u)->(∀b,H0 b≠none->b=a)->(H0 a≠none->K.lookup a=none)->
   codeAny (model P w) callerA (.call (.ref fa) ⟨[.ref a],[]⟩) (λr s'=>r=.ok (.ret (.bool true))/\OldK ae.heap s'.heap/\s'.os=ae.os/\AllBare s'.gens) ae:=by
  intro H0 hO hS hok0 hA hK;have hok:fJ P w (put H0) ae.heap:=λb u e=>by
   cases z:Tabs.tbs.lookup b with
   |none=>rw[gr _ b z]at e;exact hok0 b u e
   |some tb=>rw[mY _ b tb z]at e;cases e;exact⟨#[],(td b tb z).1,trivial,λp _=>.inl rfl⟩
  have ml:∀{b:Addr} {o:Obj},ae.heap.get? b=some o->put H0 b=none->(qB ae.heap<|put H0).get? b=some o:=λe n=>OO e n;have none_of:∀{b:Addr} {o:Obj},ae.heap.get? b=some o->o≠PySem.W.tabObj #[]->o≠{cls:=.type "list",data:=.seq vs.toArray}->put H0 b=none:=λ{b o} e n1 n2=>by
   cases z:Tabs.tbs.lookup b with
   |some tb=>have:=(td b tb z).1;rw[e]at this;exact absurd (aAj this) n1
   |none=>
    rw[gr _ b z];cases q:H0 b with
    |none=>rfl
    |some u=>have e':b=a:=hA b (by rw[q];simp);subst e';rw[ha]at e;exact absurd (aAj e).symm n2
  have nsK:∀{b:Addr} {m:cF},ae.heap.Ns b m->(qB ae.heap<|put H0).Ns b m:=λ{b m} ⟨o,es,ep,e,d,r⟩=>⟨o,es,ep,ml e (none_of e (λz=>by rw[z]at d;cases d) λz=>by rw[z]at d;cases d),d,r⟩;have hKb:K.In (qB ae.heap<|put H0):=λb o e=>ml (KX b o e) (by
   rw[gr _ b (noK b o e)];cases q:H0 b with
   |none=>rfl
   |some u=>have e':b=a:=hA b (by rw[q];simp);subst e';rw[hK (by rw[q];simp)]at e;cases e)
  have hBb:gO mg (qB ae.heap<|put H0):=by obtain⟨bm,ob,b1,b2,b3,b4,b5,b6⟩:=hB;exact⟨bm,ob,b1,b2,ml b3 (none_of b3 (λz=>by rw[z]at b6;cases b6) λz=>by rw[z]at b6;cases b6),b4,b5,b6⟩
  have hM:Mod K mg (qB ae.heap<|put H0):=⟨hKb,nsK ym,⟨mb,nsK hb,hbb⟩,let⟨mc,h1,h2⟩:=hlim;⟨mc,nsK h1,h2⟩⟩;have e0:Env0 P w K mg (qB ae.heap<|put H0) callerA [] ae (put H0):=⟨rfl,hM,λb o e=>QP e,aEb (IE _ _),trivial,λb hb=>absurd (show b∈([]:List Addr)from hb) (by simp),hok,.of_eq hg⟩;have tb0:Tb (put H0):=λp hp=>mY _ p.1 p.2 (bT hTd hp);refine aDG ((F _ hKb (nsK ym) hBb).run callerA [] ae (put H0) ⟨[.ref a],[]⟩ [.ref a] [.ref a] (λv _=>v=.bl true) (λ_ _ _=>False) hr e0 (wu ae<|.ref a) (.cons rfl .nil) ⟨a,ns,rfl,hS,hl,xa,tb0,λ_=>rfl⟩) λr s' h=>?_;cases r with
  |error e=>exact(show False from h).elim
  |ok fl=>
   cases fl with
   |next=>exact aAm h
   |brk=>exact aAm h
   |cont=>exact aAm h
   |ret u=>
    obtain⟨v,H',os,bare,un,yp,r',q⟩:=h;have q':v=.bl true:=q;subst q';obtain rfl:u=aDp true:=r';have each:∀b o,ae.heap.get? b=some o->s'.heap.get? b=some o\/(isCodeTable ae.heap b/\o=PySem.W.tabObj #[]/\∃ps,s'.heap.get? b=some (PySem.W.tabObj ps)):=λb o e=>by
     cases z:Tabs.tbs.lookup b with
     |some tb=>have:=(td b tb z).1;rw[e]at this;obtain⟨ps,hps,_⟩:=yp b _ (un.tbls b tb<|mY _ b tb z);exact .inr ⟨(td b tb z).2,aAj this,ps,hps⟩
     |none=>
      refine .inl ?_;rcases hO b with n|⟨xs,n⟩
      ·exact un.keep b o e (by rw[gr _ b z];exact n) (by intro z;exact absurd (show b∈([]:List Addr)from z) (by simp)) (by simp)
      ·have z1:put H0 b=some (.frz {cls:=.type "list",data:=.seq vs.toArray} (.lst xs)):=by rw[gr _ b z];exact n
       have z2:=un.frzs b _ _ z1;obtain⟨e1,_⟩:=hok b _ z1;obtain⟨e2,_⟩:=yp b _ z2;rw[e]at e1;cases e1;exact e2
    refine⟨rfl,⟨λb o e=>?_,λb o e=>?_⟩,os,bare⟩
    ·rcases each b o e with h|⟨h1,h2,ps,h3⟩
     ·exact .inl h
     ·subst h2;exact .inr (.inl ⟨h1,rfl,#[],ps,rfl,by rw[Array.empty_append];exact h3⟩)
    ·rcases each b o e with h|⟨h1,h2,ps,h3⟩
     ·exact⟨o,h⟩
     ·exact⟨_,h3⟩
 cases hk:K.lookup a with
 |some o=>have e:=KX a o hk;rw[ha]at e;cases e;refine core (λ_=>none) (λ_=>.inl rfl) (.inr ⟨_,vs.toArray,_,hk,rfl,rfl,rfl,by rw[aAq,lenV];exact ie,by simpa using rv⟩) (λb u z=>by have z':(none:Option HO)=some u:=z;cases z') (λb z=>absurd rfl z) λz=>absurd rfl z
 |none=>
  obtain⟨H0,h1,h2⟩:∃H0:Hp,H0 a=some (.frz {cls:=.type "list",data:=.seq vs.toArray} (.lst (ns.map V.int)))/\∀b,b≠a->H0 b=none:=⟨λb=>if b=a then _ else none,if_pos rfl,λb hb=>if_neg hb⟩;refine core H0 (λb=>?_) (.inl (.inr ⟨{cls:=.type "list",data:=.seq vs.toArray},(gr H0 a nta).trans h1⟩)) (λb u z=>?_) (λb z=>?_) λ_=>hk
  ·by_cases hb:b=a
   ·subst hb;exact .inr ⟨_,h1⟩
   ·exact .inl (h2 b hb)
  ·by_cases hb:b=a
   ·subst hb;rw[h1]at z;cases z;exact⟨ha,by rw[aAk];exact ie,vs,_,rv,ha⟩
   ·rw[h2 b hb]at z;cases z
  ·by_cases hb:b=a
   ·exact hb
   ·exact absurd (h2 b hb) z
def QS {l:PySem.W.OpenLaw}{k:Nat}{q:Program}{loose:List Str}{XP:(Str->Option Value)->Heap->Prop}{YP:World->Heap->Prop}{d:DefRec}{K:Params->PySem.W.Frag}{ts:List Addr}
  (hn:l.most=some 63) (hdf:d.params.defaults=[]) (hr:Room k callerA)
  (hY:∀(w:World) (h:Heap),YP w h->(K w.params).In h/\∀P∈ts,h.get? P=some (PySem.W.tabObj #[]))
  (hTs:∀p∈Tabs.tbs,p.1∈ts/\∃c,∀w:World,PySem.W.codeHdIn (K w.params) c p.1=true) (hTd:(Tabs.tbs.map (·.1)).Nodup) (hKn:∀w:World,PySem.W.noTabs (K w.params)=true)
  (F:∀(w:World) (mg:cF) (fa:Addr) (h:Heap),(K w.params).In h->h.Ns mainGlobals mg->mg d.name=some (.ref fa)->
   ∃fd:FuncData,(∀(s:Shared) (u:Value),BindsTo s fd ⟨[u],[]⟩ [("script",u)])/\
    ∀base:Heap,(K w.params).In base->base.Ns mainGlobals mg->gO mg base->FnOk l.prog w (K w.params) mg base vM k fa fd ["script"] (uL (K w.params))):
  PySem.W.WalkO q loose XP YP l.row.toRowW d [] (λf vs=>PySem.call f vs):=by
 refine Att2.attach_bits hn hdf λw s9 ae mg mb fa o pm cd doc a vs ns G Y ho hd gg nv hobj hints hlen xa hg=>?_;obtain⟨KX,hT⟩:=hY w _ Y;obtain⟨fd,hb,hF⟩:=F w mg fa _ KX G.T.g nv;refine IH KX G.T.g G.T.b G.T.builtins G.T.nolimit G.T.bmain hg hobj hints hlen xa hr (λp hp=>?_) hTd (hKn w) hF hb;obtain⟨h1,c,h2⟩:=hTs p hp;have h3:=hT p.1 h1;exact⟨h3,((PySem.W.codeHd_of_K KX<|h2 w).tab h3).isCodeTable⟩
section
variable{K:PySem.W.Frag}
structure FunC (K:PySem.W.Frag)(x qual:Str)(st:Stmt)(f:Addr)(fd:FuncData)(cd:Addr):Prop where
 ex:∃(oc:Value) (od:Option Addr) (kV doc pm:Value) (an:Option Addr) (ct:Value) (osl:Array (Option Value)),
  fd=PySem.W.fnOf x qual (D7 st) (u5 st) (c7 st) .none kV doc pm an (.ref cd) ct/\K.lookup f=some ⟨oc,od,.func fd,osl⟩/\PySem.W.codeIn K (.ref cd) qual=true
 kp:PySem.W.keepIn K (.ref f)=true
omit [Tabs]in
def FunC.fn {x qual:Str}{st:Stmt}{f:Addr}{fd:FuncData}{cd:Addr}(F:FunC K x qual st f fd cd):Fun K x qual st f fd:=
 let⟨oc,od,kV,doc,pm,an,ct,osl,h1,h2,h3⟩:=F.ex
 ⟨⟨oc,od,kV,doc,pm,an,.ref cd,ct,osl,h1,h2,h3⟩,F.kp⟩
omit [Tabs]in
def OX {x qual:Str}{st:Stmt}{f cd:Addr}{oc:Value}{od an:Option Addr}{osl:Array (Option Value)}{kV doc pm cdv ct:Value}(l:K.lookup f=some ⟨oc,od,.func (PySem.W.fnOf x qual (D7 st) (u5 st) (c7 st) .none kV doc pm an cdv ct),osl⟩)
  (e:cdv=.ref cd) (c:PySem.W.codeIn K cdv qual=true) (k:PySem.W.keepIn K (.ref f)=true):FunC K x qual st f (PySem.W.fnOf x qual (D7 st) (u5 st) (c7 st) .none kV doc pm an cdv ct) cd:=by
 subst e;exact⟨⟨oc,od,kV,doc,pm,an,ct,osl,rfl,l,c⟩,k⟩
def yq {x qual:Str}{st:Stmt}{f cd:Addr}{fd:FuncData}{N ps:List Str}{k:Nat}{m:List D->R D}{F:Ev->R Out}(F0:FunC K x qual st f fd cd)(S:FnScope N ps (c7 st))
  (hb:∀(A:Around) (outer:List Env) (s:Shared) (H:Hp) (E:XK),Room k (A.deeper (envOfC qual (c7 st) s.heap.objs.size f (.ref cd)))->bZ (TC P w K mg base N qual (c7 st) f (.ref cd) A outer s H E) (u5 st) F)
  (hm:∀ds d,ds.length=ps.length->m ds=.ok d->L4 (F (j5 N ds))=.ok d):FnOk P w K mg base vM (k+1) f fd ps (YR K ps.length m):=by
 obtain⟨oc,od,kV,doc,pm,an,ct,osl,rfl,lk,gg⟩:=F0.ex;refine UU lk gg S (λvs H Q E ⟨O,ds,d,r,hl,_⟩=>by rw[r.length];exact hl) λA outer s H vs Q E hr ⟨O,ds,d,r,hl,ht,tb,fk,e,q⟩=>?_;refine⟨_,uG.nox (hb A outer s H E hr H O),O,_,rQ r ht tb,fk,?_⟩;have h:=hm ds d hl e;cases e1:F (j5 N ds)with
 |ok o=>
  rw[e1]at h;cases o with
  |rt d'=>have h':R.ok d'=R.ok d:=h;injection h' with h';subst h';exact q
  |nx ρ=>have h':R.ok D.non=R.ok d:=h;injection h' with h';subst h';exactλai H' O' E' _ _=>q .non H' E'.same .non
  |bk ρ=>cases h
  |ct ρ=>cases h
 |ex x=>rw[e1]at h;cases h
 |bad=>rw[e1]at h;cases h
def PJ {x qual:Str}{st:Stmt}{f cd:Addr}{fd:FuncData}{N ps:List Str}{k:Nat}{m:List D->R D}{F:Ev->R Out}(F0:FunC K x qual st f fd cd)(S:FnScope N ps (c7 st))(hb0:Binds K fd ps [])(nv:mg x=some (.ref f))
  (hb:∀(A:Around) (outer:List Env) (s:Shared) (H:Hp) (E:XK),Room k (A.deeper (envOfC qual (c7 st) s.heap.objs.size f (.ref cd)))->bZ (TC P w K mg base N qual (c7 st) f (.ref cd) A outer s H E) (u5 st) F)
  (hm:∀ds d,ds.length=ps.length->m ds=.ok d->L4 (F (j5 N ds))=.ok d):v5 P w K mg base (k+1) x ps.length m:=
 ⟨f,fd,ps,yq F0 S hb hm,hb0,F0.kp,nv⟩
def SA (P:Program)(w:World)(K:PySem.W.Frag)(mg:cF)(base:Heap)(k kc:Nat)(x:Str)(M:D->(List D->R D)->(List D->R D)->R D):Prop:=
 ∃g gd ps,FnOk P w K mg base vM k g gd ps (kw K (IM P w K mg base kc 1) M)/\Binds K gd ps []/\PySem.W.keepIn K (.ref g)=true/\mg x=some (.ref g)/\ps.length=3
def QH {x qual:Str}{st:Stmt}{f:Addr}{fd:FuncData}{N ps:List Str}{k kc:Nat}{M:D->(List D->R D)->(List D->R D)->R D}{F:Ev->R Out}(F0:Fun K x qual st f fd)(S:FnScope N ps (c7 st))(h3:ps.length=3)(hb0:Binds K fd ps [])(nv:mg x=some (.ref f))
  (hb:∀(cdv:Value) (A:Around) (outer:List Env) (s:Shared) (H:Hp) (E:XK),Room k (A.deeper (envOfC qual (c7 st) s.heap.objs.size f cdv))->bZ (TC P w K mg base N qual (c7 st) f cdv A outer s H E) (u5 st) F)
  (hm:∀d1 m1 m2 d,M d1 m1 m2=.ok d->L4 (F (kG N (IM P w K mg base kc 1) d1 m1 m2))=.ok d):SA P w K mg base (k+1) kc x M:=
 ⟨f,fd,ps,fnF F0 S h3 hb hm,hb0,F0.kp,nv,h3⟩
end
section
def wK (i:Nat){Φ:(List D->R D)->Hp->(Addr->Prop)->Addr->Prop}(hΦ:IM X.prog X.w X.K X.mg X.base k n=Φ)(ha:IL X (e::es) f)(hl:GJ f n)(hr:Room k X.A)(hN:X.N[i]?=some x:=by rfl)(hv:zJ X.env.scope x:=by first|exact aCM rfl|exact aBW (aCM rfl)|exact aBW (aBW rfl))(hd:(x==("__debug__":Str))=false:=by decide)(gg:(x==("__classdict__":Str))=false:=by decide)(he:starEach (e::es) X.env=(false,eval e X.env)::starEach es X.env:=by rfl)(bf:(backTo pos (starEach es X.env)).any (·.1)=false:=by rfl):
  PD X (.Call (.Name x p) (e::es) [] pos) (callC Φ i f):=by
 subst hΦ;exact MT i ha hl hr hN hv hd gg he bf
def CD (qg:NstOk X k n1)(qh:NstOk X k n2)(hc1:ClosOk X n1 clos1)(jm:ClosOk X n2 clos2)(hA:∀x b,(x,b)∈clos1++clos2->X.env.cells.lookup x=some b)(hB:gO X.mg X.base)(jo:X.env.code=.ref c)(hK:PySem.W.codeHdIn X.K c Pt=true)(hTt:(Pt,tb)∈Tabs.tbs)(hm1:(n1.pos,n1.qual)∈tb)(kg:(n2.pos,n2.qual)∈tb)(eh:∀p∈tb,p.1.line=n1.pos.line->p.1.col=n1.pos.col->p.2=n1.qual)(hu2:∀p∈tb,p.1.line=n2.pos.line->p.1.col=n2.pos.col->p.2=n2.qual)(af:n1.i≠n2.i)(hN:X.N.Nodup)(cf:SA X.prog X.w X.K X.mg X.base kf (k+1) x M)(hr:Room kf X.A)(he:PD X e f)(xh:∀y,X.fn y=true)(hg:Gl X x:=by rfl)(ia:(x==("__debug__":Str))=false:=by decide)(yn:starEach [e,.Name n1.name p1,.Name n2.name p2] X.env=(false,eval e X.env)::starEach [.Name n1.name p1,.Name n2.name p2] X.env:=by rfl)(hs2:starEach [.Name n1.name p1,.Name n2.name p2] X.env=(false,eval (.Name n1.name p1) X.env)::starEach [.Name n2.name p2] X.env:=by rfl)(hs3:starEach [.Name n2.name p2] X.env=(false,eval (.Name n2.name p2) X.env)::starEach [] X.env:=by rfl)(bf:(backTo pos (starEach [.Name n1.name p1,.Name n2.name p2] X.env)).any (·.1)=false:=by rfl):
  bZ X [n1.stmt,n2.stmt,.Return (some (.Call (.Name x p) [e,.Name n1.name p1,.Name n2.name p2] [] pos)) rpos] (λρ=>((f ((ρ.set n1.i .no).set n2.i .no)).bind λd1=>(dE n1.js ((ρ.set n1.i .no).set n2.i .no)).bind λw1=>(dE n2.js ((ρ.set n1.i .no).set n2.i .no)).bind λw2=>M d1 (n1.mm w1) (n2.mm w2)).bind λd=>.ok (.rt d)):=by
 obtain⟨g,gd,ps,FF,hb,hk,hm,h3⟩:=cf;exact HH qg qh hc1 jm hA hB jo hK hTt hm1 kg eh hu2 af hN FF hr hm hk hb h3 he xh hg ia yn hs2 hs3 bf
end
end DL
namespace DL
open PySem L2
def _root_.L2.Room.ae7 (r:Room k A):A.units+130<cLine:=by have:=r.un;lia
def _root_.L2.Room.ad8 (r:Room k A)(h:7<=k):A.units+300<cLine:=by have:=r.un;lia
def FW {y:Str}{b0:Addr}{cells:List (Str×Addr)}(h:cells.lookup y=some b0:=by rfl):∀(x:Str) (b:Addr),(x,b)∈[(y,b0)]++[(y,b0)]->cells.lookup x=some b:=λx b hm=>by
 have:(x,b)=(y,b0):=by simpa using hm
 injection this with h1 h2;subst h1 h2;exact h
def DZ {sc:Scope}{fn:List Str}{x:Str}(h:sc.names.lookup x=some .free)(hs:(sc.names.all λp=>p.2 !=.free||fn.contains p.1)=true:=by decide+kernel):x∈fn:=by have h1:=aBC.mp hs _ (PySem.mem_of_lookup h);simpa using h1
def DB:Stmt->Pos
 |.FunctionDef _ _ _ _ _ _ _ _ _ p=>p
 |_=>⟨0,0,0,0⟩
end DL
namespace G
def bD {a b:V}(h:a-b=0):a=b:=by have q1:=congrArg V.x h;have q2:=congrArg V.y h;have q3:=congrArg V.z h;simp at q1 q2 q3;exact ext (by lia) (by lia) (by lia)
def IsFace.aa2 (ho:pts.Pairwise (λa b=>i7 (b-a)))(h:IsFace pts n d):Sheet n (y6 n d pts)where
 nz:=h.prim.ne
 pl:=λX hX Y hY=>by have:=(d6.mp hX).2;have:=(d6.mp hY).2;rw[d7];lia
 ord:=aFN _ ho
 two:=by obtain⟨A,hA,B,hB,C,hC,a,b,c,e⟩:=h.three;refine⟨A,d6.mpr ⟨hA,a⟩,B,d6.mpr ⟨hB,b⟩,λz=>e ?_⟩;subst z;rw[x8];apply ext<;>simp
def IsFace.ac7 {pts:List V}{n:V}{d:Int}(h:IsFace pts n d){a b:V}(he:EdgeOf n (λX=>X∈y6 n d pts) a b):∃X∈y6 n d pts,0<i8 n (b-a) (X-a):=by
 by_cases z:∃X∈y6 n d pts,0<i8 n (b-a) (X-a)
 ·exact z
 ·exfalso;have hn:=h.prim.ne;obtain⟨pa,da⟩:=d6.mp he.p;obtain⟨pb,db⟩:=d6.mp he.q;have hba:c8 n (b-a)=0:=by rw[d7];lia
  have af:b-a≠0:=λe=>he.ne (bD e).symm;have k:∀X∈pts,c8 n X=d->cr (b-a) (X-a)=0:=λX hX dX=>by have tX:=d6.mpr ⟨hX,dX⟩;have l:=he.left X tX;have l':¬0<i8 n (b-a) (X-a):=λq=>z ⟨X,tX,q⟩;exact U8 hn hba (by rw[d7];lia) (by lia)
  obtain⟨A,hA,B,hB,C,hC,eA,eB,eC,e⟩:=h.three;have k2:∀X∈pts,c8 n X=d->∀Y∈pts,c8 n Y=d->cr (X-Y) (b-a)=0:=λX hX dX Y hY dY=>by have q1:=k X hX dX;have q2:=k Y hY dY;have a1:=congrArg V.x q1;have a2:=congrArg V.y q1;have a3:=congrArg V.z q1;have b1:=congrArg V.x q2;have b2:=congrArg V.y q2;have b3:=congrArg V.z q2;simp at a1 a2 a3 b1 b2 b3;apply ext<;>simp<;>grind
  exact e (nB af (k2 B hB eB A hA eA)<|k2 C hC eC A hA eA)
def OA (hs:l4 pts)(hf:IsFace pts n d)(hg:IsFace pts m e)(h1:EdgeOf n (λX=>X∈y6 n d pts) a b)(h2:EdgeOf m (λX=>X∈y6 m e pts) b a)(hX:X∈y6 n d pts)(hx:0<i8 n (b-a) (X-a)):c8 m X<e:=by
 obtain⟨pX,dX⟩:=d6.mp hX;have le:=hg.sup X pX;by_cases z:c8 m X=e
 ·exfalso;obtain⟨pa,da⟩:=d6.mp h1.p;obtain⟨pb,db⟩:=d6.mp h1.q;obtain⟨_,ea⟩:=d6.mp h2.q;obtain⟨_,eb⟩:=d6.mp h2.p;obtain⟨Z,hZ,hz⟩:=hs.below hf.prim.ne hf.sup;have hc:cr (b-a) (X-a)≠0:=λq=>by unfold i8 at hx;rw[q,L9]at hx;lia
  obtain⟨rfl,rfl⟩:=iN hf.prim hg.prim hf.sup hg.sup da db dX ea eb z hc hZ hz;have:=h2.left X hX;have e1:i8 n (a-b) (X-b)=-i8 n (b-a) (X-a):=by simp[i8,c8];grind
  lia
 ·lia
def wC:List V->V
 |[]=>0
 |X::l=>X+wC l
theorem pH (n:V):∀l:List V,c8 n (wC l)=(l.map (c8 n)).sum
 |[]=>L9 n
 |X::l=>by simp only[wC,aAy,aDT];rw[aZ,pH n l]
theorem AD {α:Type}(f g:α->Int):∀l:List α,(∀x∈l,f x<=g x)->(l.map f).sum<=(l.map g).sum
 |[],_=>aCq _
 |x::l,h=>by
  simp only[aAy,aDT];have:=h x (by simp);have:=AD f g l (λy hy=>h y (aAe _ hy))
  lia
theorem AO {α:Type}(f g:α->Int):∀l:List α,(∀x∈l,f x<=g x)->(∃x∈l,f x<g x)->(l.map f).sum<(l.map g).sum
 |[],_,⟨x,hx,_⟩=>by cases hx
 |x::l,h,⟨y,hy,ar⟩=>by
  simp only[aAy,aDT];have h1:=h x (by simp);have h2:=AD f g l (λy hy=>h y (aAe _ hy));rcases aAd.mp hy with e|e
  ·subst e;lia
  ·have:=AO f g l (λy hy=>h y (aAe _ hy)) ⟨y,e,ar⟩
   lia
theorem aM {α:Type}(c:Int):∀l:List α,(l.map λ_=>c).sum=(l.length:Int)*c
 |[]=>by simp
 |x::l=>by simp only[aAy,aDT,aAx];rw[aM c l];push_cast;grind
def B1 (pts:List V)(X:V):V:=(pts.length:Int)*X-wC pts
def S1 (pts:List V)(n:V)(d:Int):Int:=(pts.length:Int)*d-c8 n (wC pts)
def tH (pts:List V)(n X:V):c8 n (B1 pts X)=(pts.length:Int)*c8 n X-c8 n (wC pts):=by unfold B1;rw[d7,u7]
def eT (hs:l4 pts)(hn:n≠0)(h:∀X∈pts,c8 n X<=d):0<S1 pts n d:=by
 unfold S1;rw[pH,<-aM];have:=AO (c8 n) (λ_=>d) pts h (hs.below hn h)
 lia
def len_pos (hs:l4 pts):0<(pts.length:Int):=by
 obtain⟨A,hA,_⟩:=hs;have:0<pts.length:=aDV hA
 lia
def Y1 (h:c8 n X=d):c8 n (B1 pts X)=S1 pts n d:=by rw[tH,h];rfl
def oH (h:c8 n X<=d):c8 n (B1 pts X)<=S1 pts n d:=by
 rw[tH];unfold S1;have:=aAV h (show(0:Int)<=pts.length by lia)
 lia
def NC (hl:0<(pts.length:Int))(h:c8 n X<d):c8 n (B1 pts X)<S1 pts n d:=by
 rw[tH];unfold S1;have:=aEH h hl
 lia
def TJ (pts:List V)(a b X:V):i8 (B1 pts a) (B1 pts b) (B1 pts X)=(pts.length:Int)*(pts.length:Int)*c8 (B1 pts a) (cr (b-a) (X-a)):=by unfold B1;generalize(pts.length:Int)=N;generalize wC pts=s;simp[i8,c8];grind
def wE (h:cr w c=0)(x y:V):c8 w y*c8 c x=c8 w x*c8 c y:=by
 have e:c8 w y*c8 c x-c8 w x*c8 c y=c8 (cr w c) (cr y x):=by simp[c8];grind
 rw[h]at e;have:c8 0 (cr y x)=0:=by simp[c8]
 lia
def CW (hs:l4 pts)(hf:IsFace pts n d)(ha:c8 n a=d)(hb:c8 n b=d)(hX:c8 n X=d)(h:0<i8 n (b-a) (X-a)):0<i8 (B1 pts a) (B1 pts b) (B1 pts X):=by
 rw[TJ];have hl:=len_pos hs;refine aAU (aAU hl hl) ?_;have hn:=hf.prim.ne;have p:cr n (cr (b-a)<|X-a)=0:=J8 (by rw[d7];lia) (by rw[d7];lia);have q:=wE p n (B1 pts a);have h1:0<c8 n (B1 pts a):=by rw[Y1 ha];exact eT hs hn hf.sup
 have h2:0<c8 (cr (b-a)<|X-a) n:=by rw[cH];exact h
 have h3:=aAU h1 h2;have h4:=y9 hn;rw[cH (B1 pts a)];by_cases z:0<c8 (cr (b-a)<|X-a) (B1 pts a)
 ·exact z
 ·exfalso;have:c8 n n*c8 (cr (b-a)<|X-a) (B1 pts a)<=0:=by have:=aAV (show c8 (cr (b-a)<|X-a) (B1 pts a)<=0 by lia) (aAW h4);simpa using this
  lia
def OZ (hs:l4 pts)(hf:IsFace pts n d)(hg:IsFace pts m e)(h1:EdgeOf n (λX=>X∈y6 n d pts) a b)(h2:EdgeOf m (λX=>X∈y6 m e pts) b a)(hB:c8 m B*S1 pts n d<=c8 n B*S1 pts m e):0<=i8 (B1 pts a) (B1 pts b) B:=by
 obtain⟨X,hX,hx⟩:=hf.ac7 h1;have ar:=OA hs hf hg h1 h2 hX hx;obtain⟨pX,dX⟩:=d6.mp hX;obtain⟨pa,da⟩:=d6.mp h1.p;obtain⟨pb,db⟩:=d6.mp h1.q;obtain⟨_,ea⟩:=d6.mp h2.q;obtain⟨_,eb⟩:=d6.mp h2.p;have c0:=eT hs hf.prim.ne hf.sup;have c1:=eT hs hg.prim.ne hg.sup;have dp:=CW hs hf da db dX hx;by_cases z:0<=i8 (B1 pts a) (B1 pts b) B
 ·exact z
 ·exfalso;have wd:∀y,c8 (S1 pts n d*m-S1 pts m e*n) y=S1 pts n d*c8 m y-S1 pts m e*c8 n y:=λy=>by rw[cH,d7,u7,u7,cH y m,cH y n]
  have wa:c8 (S1 pts n d*m-S1 pts m e*n) (B1 pts a)=0:=by rw[wd,Y1 da,Y1 ea];grind
  have wb:c8 (S1 pts n d*m-S1 pts m e*n) (B1 pts b)=0:=by rw[wd,Y1 db,Y1 eb];grind
  have wx:c8 (S1 pts n d*m-S1 pts m e*n) (B1 pts X)<0:=by
   rw[wd,Y1 dX];have h3:=NC (len_pos hs) ar;have:=aEH h3 c0;have e1:S1 pts m e*S1 pts n d=S1 pts n d*S1 pts m e:=aGw _ _
   lia
  have p:=wE (J8 wa wb) (B1 pts X) B;have e2:c8 (cr (B1 pts a)<|B1 pts b) (B1 pts X)=i8 (B1 pts a) (B1 pts b) (B1 pts X):=S9 _ _ _;have e3:c8 (cr (B1 pts a)<|B1 pts b) B=i8 (B1 pts a) (B1 pts b) B:=S9 _ _ _;rw[e2,e3]at p;have r:0<c8 (S1 pts n d*m-S1 pts m e*n) (B1 pts X)*i8 (B1 pts a) (B1 pts b) B:=Int.mul_pos_of_neg_of_neg wx (by lia);rw[<-p]at r;have s:0<c8 (S1 pts n d*m-S1 pts m e*n) B:=by
   by_cases q:0<c8 (S1 pts n d*m-S1 pts m e*n) B
   ·exact q
   ·have:=aAQ (show c8 (S1 pts n d*m-S1 pts m e*n) B<=0 by lia) (aAW dp);simp at this;lia
  rw[wd]at s;have e4:c8 m B*S1 pts n d=S1 pts n d*c8 m B:=aGw _ _;have e5:c8 n B*S1 pts m e=S1 pts m e*c8 n B:=aGw _ _
  lia
def CG {a b c d e f:Int}(hb:0<b)(hd:0<d)(hf:0<f)(h1:a*d<=c*b)(h2:c*f<=e*d):a*f<=e*b:=by
 have h3:=aAQ h1 (aAW hf);have h4:=aAQ h2 (aAW hb);have h5:(a*f)*d<=(e*b)*d:=by grind
 exact aEI h5 hd
theorem DJ {α:Type}(p q:α->Int):∀(l:List α),l≠[]->(∀x∈l,0<q x)->∃x∈l,∀y∈l,p y*q x<=p x*q y
 |[],h,_=>absurd rfl h
 |[x],_,_=>⟨x,by simp,λy hy=>by simp at hy;subst hy;exact aCq _⟩
 |x::y::l,_,hq=>by
  obtain⟨z,hz,h⟩:=DJ p q (y::l) (by simp) (λw hw=>hq w (aAe _ hw));by_cases c:p x*q z<=p z*q x
  ·refine⟨z,aAe _ hz,λw hw=>?_⟩;rcases aAd.mp hw with e|e
   ·subst e;exact c
   ·exact h w e
  ·refine⟨x,by simp,λw hw=>?_⟩;rcases aAd.mp hw with e|e
   ·subst e;exact aCq _
   ·exact CG (hq w hw) (hq z<|aAe _ hz) (hq x (by simp)) (h w e) (by lia)
theorem gk (h:V->Int):∀(x:V) (l:List V),0<=h x->(∀z,(x::l).getLast?=some z->h z<=0)->l≠[]->∃u v,(u,v)∈t8 (x::l)/\0<=h u/\h v<=0
 |x,[],_,_,hl=>absurd rfl hl
 |x,y::r,h1,h2,_=>by
  by_cases c:h y<=0
  ·exact⟨x,y,by simp[t8],h1,c⟩
  ·match r,h2 with
   |[],h2=>exact absurd (h2 y rfl) c
   |z::r,h2=>obtain⟨u,v,m,p⟩:=gk h y (z::r) (by lia) (λw hw=>h2 w (by rw[aBh];exact hw)) (by simp);exact⟨u,v,by simp only[t8]at m⊢;exact aAe _ m,p⟩
theorem lG:∀(l:List V) (x z w:V),(x::l).getLast?=some z->(z,w)∈t8 (x::l++[w])
 |[],x,z,w,h=>by simp at h;subst h;simp[t8]
 |y::l,x,z,w,h=>by rw[aBh]at h;have:=lG l y z w h;simp only[aBq,t8]at this⊢;exact aAe _ this
theorem gI:∀(l:List V) (x w:V),∀e∈t8 (x::l),e∈t8 (x::l++[w])
 |[],x,w,e,h=>by simp[t8]at h
 |y::l,x,w,e,h=>by
  simp only[aBq,t8]at h⊢;rcases aAd.mp h with q|q
  ·subst q;simp
  ·exact aAe _ (gI l y w e q)
def V7 (ho:pts.Pairwise (λa b=>i7 (b-a)))(hf:IsFace pts n d):∃r s t l,k9 n (y6 n d pts)=r::s::t::l:=by
 have S:=hf.aa2 ho;obtain⟨r,l,e,_⟩:=S.ab4;match l,e with
 |[],e=>
  have h:(r,r)∈T7 (k9 n<|y6 n d pts):=by rw[e];simp[T7]
  exact absurd rfl (S.pair h).ne
 |[s],e=>
  have h1:(r,s)∈T7 (k9 n<|y6 n d pts):=by rw[e];simp[T7]
  have h2:(s,r)∈T7 (k9 n<|y6 n d pts):=by rw[e];simp[T7]
  have g1:=S.pair h1;have g2:=S.pair h2;obtain⟨X,hX,hx⟩:=hf.ac7 g1;have:=g2.left X hX;have e1:i8 n (r-s) (X-s)=-i8 n (s-r) (X-r):=by simp[i8,c8];grind
  lia
 |s::t::l,e=>exact⟨r,s,t,l,e⟩
def qS (hs:l4 pts)(ho:pts.Pairwise (λa b=>i7 (b-a)))(fs:List (V×Int))(af:fs≠[])(hf:∀f∈fs,IsFace pts f.1 f.2)(hc:∀f∈fs,∀a b,EdgeOf f.1 (λX=>X∈y6 f.1 f.2 pts) a b->∃g∈fs,EdgeOf g.1 (λX=>X∈y6 g.1 g.2 pts) b a)(hn:IsFace pts n d):(n,d)∈fs:=by
 obtain⟨B,hBd⟩:∃B,B=wC ((y6 n d pts).map (B1 pts)):=⟨_,rfl⟩;have dB:∀m,c8 m B=((y6 n d pts).map λX=>c8 m (B1 pts X)).sum:=λm=>by rw[hBd,pH,aBi];rfl
 have cn:=eT hs hn.prim.ne hn.sup;have ub:∀m e,(∀X∈pts,c8 m X<=e)->c8 m B<=((y6 n d pts).length:Int)*S1 pts m e:=λm e hm=>by rw[dB,<-aM];exact AD _ _ _ λX hX=>oH (hm X (d6.mp hX).1)
 have eB:c8 n B=((y6 n d pts).length:Int)*S1 pts n d:=by rw[dB,<-aM];congr 1;exact aDF λX hX=>Y1 (d6.mp hX).2
 obtain⟨⟨m,e⟩,hm,htop⟩:=DJ (λf:V×Int=>c8 f.1 B) (λf=>S1 pts f.1 f.2) fs af λf h=>eT hs (hf f h).prim.ne (hf f h).sup;have xb:=hf _ hm;have ins:∀a b,EdgeOf m (λX=>X∈y6 m e pts) a b->0<=i8 (B1 pts a) (B1 pts b) B:=λa b hab=>by obtain⟨g,hg,hg2⟩:=hc _ hm a b hab;exact OZ hs xb (hf g hg) hab hg2 (htop g hg)
 have S:=xb.aa2 ho;obtain⟨r,s,t,l,er⟩:=V7 ho xb;have nd:=S.aa4;have pr:=λ{P Q}=>S.aa1 (P:=P) (Q:=Q);rw[er]at pr nd;have rm:r∈k9 m (y6 m e pts):=by rw[er];simp
 have on:∀X∈r::s::t::l,c8 m X=e:=λX hX=>by rw[<-er]at hX;exact(d6.mp<|S.aa3 hX).2
 obtain⟨z,hz⟩:∃z,(s::t::l).getLast?=some z:=by simp[aEO]
 have c1:(r,s)∈T7 (r::s::t::l):=by rw[V1];simp[t8]
 have c2:(z,r)∈T7 (r::s::t::l):=by rw[V1];exact lG _ _ _ _ (by rw[aBh];exact hz)
 have w1:=ins _ _ (pr.mp c1);have w2:=ins _ _ (pr.mp c2);obtain⟨u,v,huv,hu,hv⟩:=gk (λX=>i8 (B1 pts r) (B1 pts X) B) s (t::l) w1 (λy hy=>by
  have:y=z:=aAj (hy.symm.trans hz);subst this;have e1:i8 (B1 pts r) (B1 pts y) B=-i8 (B1 pts y) (B1 pts r) B:=by simp[i8,c8];grind
  lia) (by simp)
 have c3:(u,v)∈T7 (r::s::t::l):=by rw[V1];have:=gI (t::l) s r _ huv;simp only[aBq,t8]at this⊢;exact aAe _ this
 have g3:=pr.mp c3;have mu:u∈s::t::l/\v∈s::t::l:=by
  have:=huv;have hh:∀(l:List V) (p q:V),(p,q)∈t8 l->p∈l/\q∈l:=λl=>by
   induction l with
   |nil=>intro p q h;simp[t8]at h
   |cons x l ih=>
    intro p q h;match l,h,ih with
    |[],h,_=>simp[t8]at h
    |y::l,h,ih=>
     simp only[t8]at h;rcases aAd.mp h with c|c
     ·cases c;simp
     ·have:=ih p q c;exact⟨aAe _ this.1,aAe _ this.2⟩
  exact hh _ _ _ huv
 have nr:=(aAG.mp nd).1;have ru:r≠u:=λq=>by subst q;exact nr mu.1
 have rv:r≠v:=λq=>by subst q;exact nr mu.2
 have st:=S.strict g3 rm ru rv;have du:=on u (aAe _ mu.1);have dv:=on v (aAe _ mu.2);have dr:=on r (by simp);have D0:=CW hs xb du dv dr st;have w3:=ins _ _ g3;have cram:=CA B (B1 pts r) (B1 pts u) (B1 pts v);have a1:i8 B (B1 pts u) (B1 pts v)=i8 (B1 pts u) (B1 pts v) B:=by simp[i8,c8];grind
 have a2:i8 B (B1 pts v) (B1 pts r)=-i8 (B1 pts r) (B1 pts v) B:=by simp[i8,c8];grind
 have a3:i8 B (B1 pts r) (B1 pts u)=i8 (B1 pts r) (B1 pts u) B:=by simp[i8,c8];grind
 have a4:i8 (B1 pts r) (B1 pts u) (B1 pts v)=i8 (B1 pts u) (B1 pts v) (B1 pts r):=by simp[i8,c8];grind
 rw[a1,a2,a3,a4]at cram;obtain⟨al,hal⟩:∃al,al=i8 (B1 pts u) (B1 pts v) B:=⟨_,rfl⟩;obtain⟨be,yf⟩:∃be,be=-i8 (B1 pts r) (B1 pts v) B:=⟨_,rfl⟩;obtain⟨ga,hga⟩:∃ga,ga=i8 (B1 pts r) (B1 pts u) B:=⟨_,rfl⟩;obtain⟨De,hDe⟩:∃De,De=i8 (B1 pts u) (B1 pts v) (B1 pts r):=⟨_,rfl⟩;rw[<-hal,<-yf,<-hga,<-hDe]at cram;have al0:0<=al:=by lia
 have be0:0<=be:=by lia
 have ga0:0<=ga:=by lia
 have De0:0<De:=by lia
 have cd:∀f:V,De*c8 f B=ga*c8 f (B1 pts v)+al*c8 f (B1 pts r)+be*c8 f (B1 pts u):=λf=>by
  have:=congrArg (c8 f) cram;rw[aZ,aZ,u7,u7,u7,u7]at this
  lia
 have q1:=cd m;rw[Y1 dr,Y1 du,Y1 dv]at q1;have q2:=cd n;have cm:=eT hs xb.prim.ne xb.sup;have pt:∀X∈r::s::t::l,X∈pts:=λX hX=>by rw[<-er]at hX;exact(d6.mp<|S.aa3 hX).1
 have r1:=oH (pts:=pts) (hn.sup r (pt r (by simp)));have r2:=oH (pts:=pts) (hn.sup u<|pt u<|aAe _ mu.1);have r3:=oH (pts:=pts) (hn.sup v<|pt v<|aAe _ mu.2);have s1:=aAV r1 al0;have s2:=aAV r2 be0;have s3:=aAV r3 ga0;obtain⟨L,hL⟩:∃L:Int,L=((y6 n d pts).length:Int):=⟨_,rfl⟩;have ub1:=ub m e xb.sup;rw[<-hL]at eB ub1;have k1:De*L<=al+be+ga:=by
  have:(De*L)*S1 pts n d<=(al+be+ga)*S1 pts n d:=by
   rw[eB]at q2;have e1:De*L*S1 pts n d=De*(L*S1 pts n d):=aFl _ _ _;have e2:(al+be+ga)*S1 pts n d=al*S1 pts n d+be*S1 pts n d+ga*S1 pts n d:=by grind
   lia
  exact aEI this cn
 have k2:De*c8 m B=(al+be+ga)*S1 pts m e:=by rw[q1];grind
 have k3:(De*L)*S1 pts m e<=De*c8 m B:=by rw[k2];exact aAQ k1 (aAW cm)
 have k4:L*S1 pts m e<=c8 m B:=by rw[aFl]at k3;exact Int.le_of_mul_le_mul_left k3 De0
 have all:∀X∈y6 n d pts,c8 m X=e:=λX hX=>by
  have le:c8 m X<=e:=xb.sup X (d6.mp hX).1;by_cases z:c8 m X=e
  ·exact z
  ·exfalso;have:=AO (λX=>c8 m (B1 pts X)) (λ_=>S1 pts m e) (y6 n d pts) (λY hY=>oH (xb.sup Y (d6.mp hY).1)) ⟨X,hX,NC (len_pos hs) (by lia)⟩;rw[<-dB,aM,<-hL]at this
   lia
 obtain⟨A,hA,B',hB',C,hC,ea,eb,ec,hcr⟩:=hn.three;obtain⟨Z,hZ,hz⟩:=hs.below hn.prim.ne hn.sup;obtain⟨rfl,rfl⟩:=iN hn.prim xb.prim hn.sup xb.sup ea eb ec (all A<|d6.mpr ⟨hA,ea⟩) (all B'<|d6.mpr ⟨hB',eb⟩) (all C<|d6.mpr ⟨hC,ec⟩) hcr hZ hz;exact hm
end G
namespace G
def o9 (pts:List V)(f:V×Int):List V:=k9 f.1 (y6 f.1 f.2 pts)
structure LInv (pts:List V)(p0:V×V)(fs:List (V×Int))(walked:V×V->Prop)(waiting:List (V×V)):Prop where
 face:∀f∈fs,IsFace pts f.1 f.2
 nd:fs.Nodup
 wk:∀e,walked e↔∃f∈fs,e∈T7 (o9 pts f)
 cl:∀f∈fs,∀a b,(a,b)∈T7 (o9 pts f)->(∃g∈fs,(b,a)∈T7 (o9 pts g))\/(b,a)∈waiting
 wt:∀p∈waiting,(∃f∈fs,(p.2,p.1)∈T7 (o9 pts f))\/(fs=[]/\p=p0)
 ne:fs=[]->waiting=[p0]
structure Good (pts:List V)(m:V):Prop where
 solid:l4 pts
 ord:pts.Pairwise (λa b=>i7 (b-a))
 mem:m∈pts
 least:∀X∈pts,X=m\/i7 (X-m)
section
variable{pts:List V} {m:V} (G:Good pts m) {fs:List (V×Int)} {walked:V×V->Prop} {waiting rest:List (V×V)} {p:V×V}
include G
theorem BF:LInv pts (e9 m pts) [] (λ_=>False) [e9 m pts]where
 face:=λf h=>by cases h
 nd:=aDb
 wk:=λe=>⟨λh=>h.elim,λ⟨f,h,_⟩=>by cases h⟩
 cl:=λf h=>by cases h
 wt:=λq h=>.inr ⟨rfl,by simpa using h⟩
 ne:=λ_=>rfl
theorem KA (h:LInv pts (e9 m pts) fs walked waiting)(hW:waiting=rest++[p])(hp:walked p):LInv pts (e9 m pts) fs walked rest:=by
 have hw:∀q,q∈waiting↔q=p\/q∈rest:=λq=>by rw[hW];simp[or_comm]
 obtain⟨f0,hf0,e0⟩:=(h.wk p).mp hp;have af:fs≠[]:=λe=>by subst e;cases hf0
 refine⟨h.face,h.nd,h.wk,λf hf a b hab=>?_,λq hq=>h.wt q ((hw q).mpr (.inr hq)),λe=>absurd e af⟩;rcases h.cl f hf a b hab with q|q
 ·exact .inl q
 ·rcases(hw (b,a)).mp q with z|z
  ·subst z;exact .inl ⟨f0,hf0,e0⟩
  ·exact .inr z
theorem xX (h:LInv pts (e9 m pts) fs walked waiting)(hp:p∈waiting)(hn:¬walked p):IsFace pts (b7 p.1 p.2 pts).1 (b7 p.1 p.2 pts).2/\b7 p.1 p.2 pts∉fs/\(fs≠[]->p∈T7 (o9 pts (b7 p.1 p.2 pts))):=by
 rcases h.wt p hp with⟨f,hf,he⟩|⟨e1,e2⟩
 ·have hfc:=h.face f hf;have S:=hfc.aa2 G.ord;have ed:=S.aa1.mp he;obtain⟨t1,t2⟩:=rO hfc.prim.ne hfc.sup (G.solid.below hfc.prim.ne hfc.sup) ed;have S':=t1.aa2 G.ord;have e3:p∈T7 (o9 pts<|b7 p.1 p.2 pts):=S'.aa1.mpr t2;exact⟨t1,λz=>hn ((h.wk p).mpr ⟨_,z,e3⟩),λ_=>e3⟩
 ·subst e1 e2;exact⟨gA G.solid G.ord G.mem G.least,by simp,λz=>absurd rfl z⟩
theorem JP (h:LInv pts (e9 m pts) fs walked waiting)(hW:waiting=rest++[p])(hn:¬walked p){walked':V×V->Prop}(h1:∀e,walked' e↔walked e\/e∈T7 (o9 pts (b7 p.1 p.2 pts)))(h2:∀q,q∈waiting'↔q∈rest\/(q.2,q.1)∈T7 (o9 pts (b7 p.1 p.2 pts))):
  LInv pts (e9 m pts) (fs++[b7 p.1 p.2 pts]) walked' waiting':=by
 have hw:∀q,q∈waiting↔q=p\/q∈rest:=λq=>by rw[hW];simp[or_comm]
 obtain⟨n1,n2,n3⟩:=xX G h ((hw p).mpr (.inl rfl)) hn;refine⟨λf hf=>?_,?_,λe=>?_,λf hf a b hab=>?_,λq hq=>?_,λe=>by simp at e⟩
 ·rcases aAP.mp hf with z|z
  ·exact h.face f z
  ·have:f=b7 p.1 p.2 pts:=by simpa using z
   subst this;exact n1
 ·rw[aCS];exact⟨h.nd,by simp,λa ha b hb=>λe=>by
   have:b=b7 p.1 p.2 pts:=by simpa using hb
   subst e this;exact n2 ha⟩
 ·rw[h1,h.wk];constructor
  ·rintro(⟨f,hf,he⟩|he)
   ·exact⟨f,aBE _ hf,he⟩
   ·exact⟨_,aAF _ (by simp),he⟩
  ·rintro⟨f,hf,he⟩;rcases aAP.mp hf with z|z
   ·exact .inl ⟨f,z,he⟩
   ·have:f=b7 p.1 p.2 pts:=by simpa using z
    subst this;exact .inr he
 ·rcases aAP.mp hf with z|z
  ·rcases h.cl f z a b hab with⟨g,hg,e⟩|q
   ·exact .inl ⟨g,aBE _ hg,e⟩
   ·rcases(hw (b,a)).mp q with y|y
    ·have af:fs≠[]:=λe=>by subst e;cases z
     exact .inl ⟨b7 p.1 p.2 pts,aAF _ (by simp),by rw[y];exact n3 af⟩
    ·exact .inr ((h2 _).mpr (.inl y))
  ·have:f=b7 p.1 p.2 pts:=by simpa using z
   subst this;exact .inr ((h2 _).mpr (.inr hab))
 ·rcases(h2 q).mp hq with z|z
  ·rcases h.wt q ((hw q).mpr (.inr z))with⟨f,hf,e⟩|⟨e1,e2⟩
   ·exact .inl ⟨f,aBE _ hf,e⟩
   ·have:=h.ne e1;exfalso;rw[hW]at this;have hl:=congrArg aFW this;simp at hl;subst hl;cases z
  ·exact .inl ⟨_,aAF _ (by simp),z⟩
theorem KU (h:LInv pts (e9 m pts) fs walked []):fs≠[]/\∀n d,(n,d)∈fs↔IsFace pts n d:=by
 have af:fs≠[]:=λe=>by have:=h.ne e;cases this
 refine⟨af,λn d=>⟨λhf=>h.face _ hf,λhf=>?_⟩⟩;refine qS G.solid G.ord fs af h.face (λf hf a b hab=>?_) hf;have S:=(h.face f hf).aa2 G.ord;rcases h.cl f hf a b (S.aa1.mpr hab)with⟨g,hg,e⟩|q
 ·exact⟨g,hg,((h.face g hg).aa2 G.ord).aa1.mp e⟩
 ·cases q
end
def jK (h:IsFace pts n d):∃A∈pts,∃B∈pts,∃C∈pts,cr (B-A) (C-A)≠0/\d4 A B C=(n,d):=by
 obtain⟨A,hA,B,hB,C,hC,a,b,c,e⟩:=h.three;have key:∀B∈pts,∀C∈pts,c8 n B=d->c8 n C=d->cr (B-A) (C-A)≠0->0<c8 n (cr (B-A)<|C-A)->d4 A B C=(n,d):=λB hB C hC b c e pos=>by
  obtain⟨g,g0,ge,gp,gd⟩:=bM e;have p:cr n (cr (B-A)<|C-A)=0:=J8 (by rw[d7];lia) (by rw[d7];lia);obtain⟨k,l,hk,e1⟩:=A3 h.prim.ne p;have hl:0<l:=by
   have q:=congrArg (c8 n) e1;rw[u7,u7]at q;have:=aAU hk pos;have hn:=y9 h.prim.ne;by_cases z:0<l
   ·exact z
   ·have:=aAQ (show l<=0 by lia) (aAW hn);simp at this;lia
  rw[ge]at e1;have e2:(k*g)*(d4 A B C).1=l*n:=by rw[<-e1];apply ext<;>simp<;>grind
  have e3:=mJ gp h.prim (aAU hk g0) hl e2;refine aFh e3 ?_;rw[gd,e3];exact a
 by_cases z:0<c8 n (cr (B-A)<|C-A)
 ·exact⟨A,hA,B,hB,C,hC,e,key B hB C hC b c e z⟩
 ·have sw:cr (C-A) (B-A)=-cr (B-A) (C-A):=by apply ext<;>simp<;>grind
  have e':cr (C-A) (B-A)≠0:=λq=>e (by rw[sw]at q;have q1:=congrArg V.x q;have q2:=congrArg V.y q;have q3:=congrArg V.z q;simp only[TR,UH,TX,Y6,Z6,Z4]at q1 q2 q3;exact ext (by simp only[Y6];lia) (by simp only[Z6];lia) (by simp only[Z4];lia))
  have af:c8 n (cr (B-A)<|C-A)≠0:=λq=>e (U8 h.prim.ne (by rw[d7];lia) (by rw[d7];lia) q);refine⟨A,hA,C,hC,B,hB,e',key C hC B hB c b e' ?_⟩;have:c8 n (cr (C-A)<|B-A)=-c8 n (cr (B-A)<|C-A):=by rw[sw];simp[c8];grind
  lia
def cands (pts:List V):List (V×Int):=pts.flatMap λA=>pts.flatMap λB=>pts.map λC=>d4 A B C
def FK (pts:List V):(cands pts).length=pts.length*(pts.length*pts.length):=by
 unfold cands;have h:∀(l:List V) (f:V->List (V×Int)) (k:Nat),(∀x,(f x).length=k)->(l.flatMap f).length=l.length*k:=λl f k hk=>by
  induction l with
  |nil=>simp
  |cons x l ih=>rw[List.flatMap_cons,aAN,ih,hk,aAx,Nat.succ_mul,Nat.add_comm]
 rw[h pts _ (pts.length*pts.length) λA=>h pts _ pts.length λB=>by simp]
theorem O5 {α:Type}[DecidableEq α]:∀{l m:List α},l.Nodup->(∀x∈l,x∈m)->l.length<=m.length
 |[],_,_,_=>aBc _
 |x::l,m,h,hs=>by
  have hx:=hs x (by simp);have h':=aAG.mp h;have:=O5 (l:=l) (m:=m.erase x) h'.2 (λy hy=>by
   have ne:y≠x:=λe=>by subst e;exact h'.1 hy
   exact(aFO ne).mpr (hs y<|aAe _ hy))
  rw[aFe hx]at this;have:0<m.length:=aDV hx;simp only[aAx]
  lia
def HN {pts:List V}{fs:List (V×Int)}(nd:fs.Nodup)(hf:∀f∈fs,IsFace pts f.1 f.2):fs.length<=pts.length*(pts.length*pts.length):=by rw[<-FK];refine O5 nd λf h=>?_;obtain⟨A,hA,B,hB,C,hC,_,e⟩:=jK (hf f h);unfold cands;rw[aBt];refine⟨A,hA,?_⟩;rw[aBt];exact⟨B,hB,aAo.mpr ⟨C,hC,e⟩⟩
end G
namespace G
section
variable{pts:List V} (hs:l4 pts) (ho:pts.Pairwise (λa b=>i7 (b-a)))
include hs ho
theorem jD (hf:IsFace pts n d)(h:EdgeOf n (λX=>X∈y6 n d pts) a b):
 IsFace pts (b7 b a pts).1 (b7 b a pts).2/\EdgeOf (b7 b a pts).1 (λX=>X∈y6 (b7 b a pts).1 (b7 b a pts).2 pts) b a:=rO hf.prim.ne hf.sup (hs.below hf.prim.ne hf.sup) h
theorem iQ (hf:IsFace pts n d)(h1:EdgeOf n (λX=>X∈y6 n d pts) a b)(h2:EdgeOf n (λX=>X∈y6 n d pts) b a):False:=by
 obtain⟨X,hX,hx⟩:=hf.ac7 h1;have:=h2.left X hX;have e1:i8 n (a-b) (X-b)=-i8 n (b-a) (X-a):=by simp[i8,c8];grind
 lia
theorem uE (hf:IsFace pts n d)(hX:X∈o9 pts (n,d)):∃g1 g2:V×Int,IsFace pts g1.1 g1.2/\IsFace pts g2.1 g2.2/\(n,d)≠g1/\(n,d)≠g2/\g1≠g2/\c8 n X=d/\c8 g1.1 X=g1.2/\c8 g2.1 X=g2.2:=by
 have S:=hf.aa2 ho;obtain⟨Y,hY⟩:=bF S hX;obtain⟨W,hW⟩:=KZ S hX;have eY:=S.aa1.mp hY;have eW:=S.aa1.mp hW;obtain⟨f1,b1⟩:=jD hs ho hf eY;obtain⟨f2,b2⟩:=jD hs ho hf eW;have hWY:W≠Y:=λe=>by subst e;exact iQ hs ho hf eY eW
 refine⟨_,_,f1,f2,λe=>?_,λe=>?_,λe=>?_,(d6.mp eY.p).2,(d6.mp b1.q).2,(d6.mp b2.p).2⟩
 ·rw[<-e]at b1;exact iQ hs ho hf eY b1
 ·rw[<-e]at b2;exact iQ hs ho hf eW b2
 ·
  have st:=S.strict eY (uF S hW).1 (eW.ne) hWY;have oW:=(d6.mp eW.p).2;have oX:=(d6.mp eY.p).2;have oY:=(d6.mp eY.q).2;have gY:=(d6.mp b1.p).2;have gX:=(d6.mp b1.q).2;have gW:=(d6.mp b2.q).2;rw[<-e]at gW;have hc:cr (Y-X) (W-X)≠0:=λq=>by unfold i8 at st;rw[q,L9]at st;lia
  obtain⟨Z,hZ,hz⟩:=hs.below hf.prim.ne hf.sup;obtain⟨q1,q2⟩:=iN hf.prim f1.prim hf.sup f1.sup oX oY oW gX gY gW hc hZ hz;have:(n,d)=b7 Y X pts:=aFh q1 q2;rw[<-this]at b1;exact iQ hs ho hf eY b1
theorem GD (hf:IsFace pts n d)(hg:IsFace pts m e)(h:EdgeOf n (λX=>X∈y6 n d pts) a b)(ga:c8 m a=e)(gb:c8 m b=e):(m,e)=(n,d)\/(m,e)=b7 b a pts:=by
 obtain⟨pa,da⟩:=d6.mp h.p;obtain⟨pb,db⟩:=d6.mp h.q;obtain⟨f1,b1⟩:=jD hs ho hf h;have hab:c8 n (a-b)=0:=by rw[d7];lia
 have C:=qO (n:=n) hf.prim.ne hab;have af:a-b≠0:=λq=>h.ne (bD q);obtain⟨P,pP,eP,hP⟩:∃P∈pts,c8 m P=e/\cr (a-b) (P-b)≠0:=by
  by_cases z:∃P∈pts,c8 m P=e/\cr (a-b) (P-b)≠0
  ·exact z
  ·exfalso;obtain⟨A,hA,B,hB,D,hD,eA,eB,eD,hc⟩:=hg.three;have k:∀X∈pts,c8 m X=e->cr (a-b) (X-b)=0:=λX hX dX=>by
    by_cases q:cr (a-b) (X-b)=0
    ·exact q
    ·exact absurd ⟨X,hX,dX,q⟩ z
   have k2:∀X∈pts,c8 m X=e->∀Y∈pts,c8 m Y=e->cr (X-Y) (a-b)=0:=λX hX dX Y hY dY=>by have q1:=k X hX dX;have q2:=k Y hY dY;have a1:=congrArg V.x q1;have a2:=congrArg V.y q1;have a3:=congrArg V.z q1;have b1:=congrArg V.x q2;have b2:=congrArg V.y q2;have b3:=congrArg V.z q2;simp at a1 a2 a3 b1 b2 b3;apply ext<;>simp<;>grind
   exact hc (nB af (k2 B hB eB A hA eA)<|k2 D hD eD A hA eA)
 have mab:c8 m (a-b)=0:=by rw[d7];lia
 have mP:c8 m (P-b)=0:=by rw[d7];lia
 have par:cr m (cr (a-b)<|P-b)=0:=J8 mab mP;obtain⟨k,l,hk,ek⟩:=A3 hg.prim.ne par;have dl:∀w,k*i8 (a-b) (P-b) w=l*c8 m w:=λw=>by have:=congrArg (λv=>c8 v w) ek;simp only[G6,S9]at this;exact this
 have l0:l≠0:=λq=>hP (by rw[q,v9]at ek;have q1:=congrArg V.x ek;have q2:=congrArg V.y ek;have q3:=congrArg V.z ek;simp only[MP,IZ,NZ,Y6,Z6,Z4]at q1 q2 q3;exact ext ((aAu.mp q1).resolve_left (by lia)) ((aAu.mp q2).resolve_left (by lia)) ((aAu.mp q3).resolve_left (by lia)))
 have mle:∀Q∈pts,c8 m (Q-b)<=0:=λQ hQ=>by rw[d7];have:=hg.sup Q hQ;lia
 obtain⟨Z,hZ,hz⟩:=hs.below hf.prim.ne hf.sup;by_cases hl:0<l
 ·
  right;obtain⟨O,hO,eO⟩:∃O∈y6 (b7 b a pts).1 (b7 b a pts).2 pts,0<i8 (b7 b a pts).1 (a-b) (O-b):=f1.ac7 b1;obtain⟨pO,dO⟩:=d6.mp hO;obtain⟨_,e1b⟩:=d6.mp b1.p;obtain⟨_,e1a⟩:=d6.mp b1.q;have t1:i8 (a-b) (P-b) (O-b)<=0:=by
   have q:=dl (O-b);have:=aAV (mle O pO) (aAW hl);rw[aEh]at this;by_cases z:i8 (a-b) (P-b) (O-b)<=0
   ·exact z
   ·have:=aAU hk (show 0<i8 (a-b) (P-b) (O-b)by lia);lia
  have par2:cr (b7 b a pts).1 (cr (a-b)<|O-b)=0:=J8 (by rw[d7];lia) (by rw[d7];lia);obtain⟨k',l',ke,ek'⟩:=A3 f1.prim.ne par2;have dl':∀w,k'*i8 (a-b) (O-b) w=l'*c8 (b7 b a pts).1 w:=λw=>by have:=congrArg (λv=>c8 v w) ek';simp only[G6,S9]at this;exact this
  have ie:0<l':=by
   have q:=congrArg (c8 (b7 b a pts).1) ek';rw[u7,u7]at q;have q2:0<c8 (b7 b a pts).1 (cr (a-b)<|O-b):=eO;have:=aAU ke q2;have hn:=y9 f1.prim.ne;by_cases z:0<l'
   ·exact z
   ·have:=aAQ (show l'<=0 by lia) (aAW hn);simp at this;lia
  have t2:i8 (a-b) (O-b) (P-b)<=0:=by
   have q:=dl' (P-b);have h0:c8 (b7 b a pts).1 (P-b)<=0:=by rw[d7];have:=f1.sup P pP;lia
   have:=aAV h0 (aAW ie);rw[aEh]at this;by_cases z:i8 (a-b) (O-b) (P-b)<=0
   ·exact z
   ·have:=aAU ke (show 0<i8 (a-b) (O-b) (P-b)by lia);lia
  have t3:i8 (a-b) (O-b) (P-b)=0:=by rw[j8]at t1;lia
  have q0:=dl' (P-b);rw[t3,aEh]at q0;have onP':c8 (b7 b a pts).1 P=(b7 b a pts).2:=by have:=(aAu.mp q0.symm).resolve_left (by lia);rw[d7]at this;lia
  obtain⟨Z',hZ',hz'⟩:=hs.below hg.prim.ne hg.sup;obtain⟨q1,q2⟩:=iN hg.prim f1.prim hg.sup f1.sup gb ga eP e1b e1a onP' hP hZ' hz';exact aFh q1 q2
 ·
  left;have ki:l<0:=by lia
  obtain⟨O,hO,eO⟩:=hf.ac7 h;obtain⟨pO,dO⟩:=d6.mp hO;rw[oN]at eO;have t1:0<=i8 (a-b) (P-b) (O-b):=by
   have q:=dl (O-b);have h2:0<=l*c8 m (O-b):=by
    have:=aBK (show 0<=-l by lia) (show 0<=-c8 m (O-b)by have:=mle O pO;lia)
    rwa [aDl]at this
   by_cases z:0<=i8 (a-b) (P-b) (O-b)
   ·exact z
   ·have:=aBj hk (show i8 (a-b) (P-b) (O-b)<0 by lia);lia
  have par2:cr n (cr (b-a)<|O-b)=0:=J8 (by rw[d7];lia) (by rw[d7];lia);obtain⟨k',l',ke,ek'⟩:=A3 hf.prim.ne par2;have dl':∀w,k'*i8 (b-a) (O-b) w=l'*c8 n w:=λw=>by have:=congrArg (λv=>c8 v w) ek';simp only[G6,S9]at this;exact this
  have ie:0<l':=by
   have q:=congrArg (c8 n) ek';rw[u7,u7]at q;have q2:0<c8 n (cr (b-a)<|O-b):=eO;have:=aAU ke q2;have hn:=y9 hf.prim.ne;by_cases z:0<l'
   ·exact z
   ·have:=aAQ (show l'<=0 by lia) (aAW hn);simp at this;lia
  have t2:i8 (b-a) (O-b) (P-b)<=0:=by
   have q:=dl' (P-b);have h0:c8 n (P-b)<=0:=by rw[d7];have:=hf.sup P pP;lia
   have:=aAV h0 (aAW ie);rw[aEh]at this;by_cases z:i8 (b-a) (O-b) (P-b)<=0
   ·exact z
   ·have:=aAU ke (show 0<i8 (b-a) (O-b) (P-b)by lia);lia
  have e3:i8 (b-a) (O-b) (P-b)=i8 (a-b) (P-b) (O-b):=by simp[i8,c8];grind
  have t3:i8 (b-a) (O-b) (P-b)=0:=by lia
  have q0:=dl' (P-b);rw[t3,aEh]at q0;have onn:c8 n P=d:=by have:=(aAu.mp q0.symm).resolve_left (by lia);rw[d7]at this;lia
  obtain⟨Z',hZ',hz'⟩:=hs.below hg.prim.ne hg.sup;obtain⟨q1,q2⟩:=iN hg.prim hf.prim hg.sup hf.sup gb ga eP db da onn hP hZ' hz';exact aFh q1 q2
end
end G
namespace M
open PySem L2 DL
def pZ:D->Option G.V
 |.tup [.int a,.int b,.int c]=>some ⟨a,b,c⟩
 |_=>none
@[simp]def mL (v:G.V):pZ (vd v)=some v:=rfl
def jG (h:pZ d=some v):d=vd v:=by
 unfold pZ at h;split at h
 ·cases h;rfl
 ·cases h
def F7:List D->Option (List G.V)
 |[]=>some []
 |d::ds=>match pZ d,F7 ds with
  |some v,some vs=>some (v::vs)
  |_,_=>none
@[simp]theorem u3:∀vs:List G.V,F7 (vs.map vd)=some vs
 |[]=>rfl
 |v::vs=>by rw[aAy,F7,mL,u3 vs]
theorem p5:∀{ds:List D} {vs:List G.V},F7 ds=some vs->ds=vs.map vd
 |[],vs,h=>by cases h;rfl
 |d::ds,vs,h=>by
  unfold F7 at h;split at h
  ·rename_i v ws h1 h2;cases h;rw[jG h1,p5 h2];rfl
  ·cases h
def zG (h:vd u=vd v):u=v:=by
 have:pZ (vd u)=pZ (vd v):=by rw[h]
 simpa using this
def QQ {u v:List G.V}(h:u.map vd=v.map vd):u=v:=by
 have:F7 (u.map vd)=F7 (v.map vd):=by rw[h]
 simpa using this
def W8 (n:Nat)(pts:List G.V):Prop:=(∀P∈pts,Sz n P)/\pts.length<=1000
def CF:Option G.V->D
 |some v=>vd v
 |none=>.non
def z8:List D->R D
 |[.lst xs]=>match F7 xs with
  |some ws=>.ok (CF (G.A5 ws))
  |none=>.bad
 |_=>.bad
open Classical in
def B5:List D->R D
 |[.lst xs]=>match F7 xs with
  |some pts=>if pts≠[]/\W8 1000 pts then .ok (.int (G.T5 pts))else .bad
  |none=>.bad
 |_=>.bad
open Classical in
def D4:List D->R D
 |[.lst xs]=>match F7 xs with
  |some pts=>if W8 1000 pts/\G.T5 pts=3 then .ok .non else .bad
  |none=>.bad
 |_=>.bad
open Classical in
def z7:List D->R D:=v4 λa b c d=>OT λxs=>sK (match F7 xs with
 |some pts=>if Sz 10000 ⟨a,b,c⟩/\W8 1000 pts then .ok (.lst ((G.y6 ⟨a,b,c⟩ d pts).map vd))else .bad
 |none=>.bad)
open Classical in
def D1:List D->R D:=kj λys=>OT λxs=>sK ((v1 λa b c=>v1 λd e f=>sK (match F7 xs with
 |some pts=>if Sz 1000 ⟨a,b,c⟩/\Sz 1000 ⟨d,e,f⟩/\W8 1000 pts/\G.cZ (G.b7 ⟨a,b,c⟩ ⟨d,e,f⟩ pts).1 then .ok (qP (G.b7 ⟨a,b,c⟩ ⟨d,e,f⟩ pts).1 (G.b7 ⟨a,b,c⟩ ⟨d,e,f⟩ pts).2)else .bad
 |none=>.bad)) ys)
abbrev F9 (p:G.V×G.V):D:=.tup [vd p.1,vd p.2]
structure Land (pts:List G.V)(m:G.V):Prop where
 good:G.Good pts m
 sz:W8 900 pts
 few:pts.length<=63
 head:pts.head?=some m
open Classical in
def G1:List D->R D
 |[.lst xs]=>match F7 xs with
  |some (m::pts)=>if Land (m::pts) m then .ok (F9 (G.e9 m (m::pts)))else .bad
  |_=>.bad
 |_=>.bad
open Classical in
def eM:List D->R D:=v1 λa b c=>v1 λd e f=>v1 λg h i=>v1 λj k l=>sK (
 if Sz 10000 ⟨a,b,c⟩/\Sz 1000 ⟨d,e,f⟩/\Sz 1000 ⟨g,h,i⟩/\Sz 1000 ⟨j,k,l⟩then .ok (.int (G.turn ⟨a,b,c⟩ ⟨d,e,f⟩ ⟨g,h,i⟩ ⟨j,k,l⟩))else .bad)
open Classical in
def T6:List D->R D:=v1 λa b c=>OT λxs=>sK (match F7 xs with
 |some pts=>if Sz 10000 ⟨a,b,c⟩/\W8 1000 pts then .ok (.lst ((G.w8 ⟨a,b,c⟩ pts).reverse.map vd))else .bad
 |none=>.bad)
open Classical in
def P1:List D->R D:=v1 λa b c=>OT λxs=>sK (match F7 xs with
 |some pts=>if Sz 10000 ⟨a,b,c⟩/\W8 1000 pts then .ok (.lst ((G.k9 ⟨a,b,c⟩ pts).map vd))else .bad
 |none=>.bad)
def z6:List D->R D
 |[.lst xs]=>match F7 xs with
  |some pts=>if pts.length<=3000 then .ok (.lst ((G.T7 pts).map F9))else .bad
  |none=>.bad
 |_=>.bad
abbrev o6 (pts:List G.V)(f:G.V×Int):D:=.tup [qP f.1 f.2,.lst ((G.o9 pts f).map vd)]
def cW (pts:List G.V)(fs:List (G.V×Int)):Prop:=(∀f,f∈fs↔G.IsFace pts f.1 f.2)/\pW R8 (fs.map<|o6 pts)
open Classical in
def k7 (pts:List G.V):List (G.V×Int):=if h:∃fs,cW pts fs then h.choose else[]
def J2:List D->List D->R D
 |[w],[_]=>.ok w
 |_,_=>.bad
def C5:List D->List D->R D
 |[w],[p]=>z7 [p,w]
 |_,_=>.bad
open Classical in
def G0 (d:D) (m1 m2:List D->R D):R D:=match m1 [.non]with
 |.ok (.lst xs)=>match F7 xs with
  |some (m::pts)=>if Land (m::pts) m/\(m::pts).length<=14/\d=F9 (G.e9 m (m::pts))/\m1=J2 [.lst xs]/\m2=C5 [.lst xs]then .ok (.lst ((k7 (m::pts)).map (o6 (m::pts))))else .bad
  |_=>.bad
 |_=>.bad
def d8 (pts:List G.V):List G.V:=(Q9<|pts.map vd).filterMap pZ
open Classical in
def U6:List D->R D
 |[.lst xs]=>match F7 xs with
  |some pts=>if W8 900 pts/\G.l4 pts/\(d8 pts).length<=14 then .ok (.lst ((k7 (d8 pts)).map (o6 (d8 pts))))else .bad
  |none=>.bad
 |_=>.bad
def A2 (pts:List G.V):List G.V:=d8 ((k7<|d8 pts).flatMap (G.o9<|d8 pts))
end M
namespace M
open PySem L2 DL
def oq (v:G.V):HD (vd v) (.tup [.int 0,.int 0,.int 0])=.ok (.bl (!decide (v=0))):=by rw[jI];congr 3;rw[aCQ];simp only[aAK,beq_iff_eq,decide_eq_true_eq,G.oK];exact⟨λh=>h,λh=>h⟩
def eq0 (v:G.V):UG (vd v) (.tup [.int 0,.int 0,.int 0])=.ok (.bl (decide (v=0))):=by rw[WF];congr 2;rw[aCQ];simp only[aAK,beq_iff_eq,decide_eq_true_eq,G.oK];exact⟨λh=>h,λh=>h⟩
def S8 (h1:G d ρ=.ok ρ1)(h2:F ρ1=.ok (.nx ρ2)):M3 G F (d::ds) ρ=M3 G F ds ρ2:=by rw[M3,h1];dsimp only;rw[h2]
def gM (h1:G d ρ=.ok ρ1)(h2:F ρ1=.ok (.rt x)):M3 G F (d::ds) ρ=.ok (.rt x):=by rw[M3,h1];dsimp only;rw[h2]
theorem G4 {α:Type}(rep:α->D)(p:α->Bool)(g:α->D):∀(l:List α),(∀a∈l,∃ρ1,G (rep a) ρ=.ok ρ1/\ft ρ1=.ok (p a)/\(p a=true->fe ρ1=.ok (g a)))->u4 G ft fe ρ (l.map rep)=.ok ((l.filter p).map g)
 |[],_=>rfl
 |a::l,h=>by
  obtain⟨ρ1,h1,h2,h3⟩:=h a (.head _);have ih:=G4 rep p g l λb hb=>h b (.tail _ hb);rw[aAy,u4,h1];dsimp only;rw[h2,R.aa0,ih];cases hp:p a with
  |false=>rw[if_neg (by decide),List.filter_cons_of_neg (by simp[hp])]
  |true=>rw[if_pos rfl,h3 hp,R.aa0,R.aa0,List.filter_cons_of_pos hp];rfl
def K6 {α:Type}(rep:α->D)(g:α->D)(l:List α)(h:∀a∈l,∃ρ1,G (rep a) ρ=.ok ρ1/\fe ρ1=.ok (g a)):u4 G (λ_=>.ok true) fe ρ (l.map rep)=.ok (l.map g):=by
 have:=G4 rep (G:=G) (ft:=λ_=>.ok true) (fe:=fe) (ρ:=ρ) (λ_=>true) g l λa ha=>let⟨ρ1,h1,h2⟩:=h a ha;⟨ρ1,h1,rfl,λ_=>h2⟩
 rw[this,List.filter_eq_self.mpr λ_ _=>rfl]
def small (h:n<=1000):n<=sizeLine:=aAr h (by decide)
def XH (h:n<=3000):n<=sizeLine:=aAr h (by decide)
def W8.sub (h:W8 n pts)(hs:∀P∈qs,P∈pts)(hl:qs.length<=pts.length):W8 n qs:=⟨λP hP=>h.1 P (hs P hP),aAr hl h.2⟩
def W8.mono (h:W8 m pts)(hm:m<=n:=by decide):W8 n pts:=⟨λP hP=>(h.1 P hP).mono hm,h.2⟩
def wz (t:Int):(sgn t==0)=decide (t=0):=by
 unfold sgn;by_cases h:0<t
 ·rw[if_pos h];simp;lia
 ·rw[if_neg h];by_cases h2:t<0
  ·rw[if_pos h2];simp;lia
  ·rw[if_neg h2];simp;lia
def iU (h1:Sz 10000 n)(h2:W8 1000 pts):z7 [qP n d,.lst (pts.map vd)]=.ok (.lst ((G.y6 n d pts).map vd)):=by simp only[z7,v4,OT,sK,u3];exact if_pos ⟨h1,h2⟩
def KQ (h1:pts≠[])(h2:W8 1000 pts):B5 [.lst (pts.map vd)]=.ok (.int (G.T5 pts)):=by simp only[B5,u3];exact if_pos ⟨h1,h2⟩
def zW (ws:List G.V):z8 [.lst (ws.map vd)]=.ok (CF (G.A5 ws)):=by simp only[z8,u3]
def zS (bs:List Bool):cP (bs.map D.bl)=some bs:=by
 induction bs with
 |nil=>rfl
 |cons b bs ih=>rw[aAy,cP,ih];rfl
def XG (bs:List Bool):anyR [.lst (bs.map D.bl)]=.ok (.bl (bs.any id)):=by simp only[anyR,zS]
def OV (xs:List D):NF (.lst xs) none (some (-1))=.ok (.lst xs.dropLast):=by
 show R.ok (D.lst<|cutD xs none<|some (-1))=_;unfold cutD HT.sIx;rw[aEa];simp;congr 1
 lia
def TH (xs:List D):NF (.lst xs) (some 1) none=.ok (.lst xs.tail):=by
 show R.ok (D.lst<|cutD xs (some 1) none)=_;unfold cutD HT.sIx;cases xs with
 |nil=>rfl
 |cons a l=>simp
def VW (xs:List D):NF (.lst xs) none (some 1)=.ok (.lst (xs.take 1)):=by
 show R.ok (D.lst<|cutD xs none<|some 1)=_;unfold cutD HT.sIx;cases xs with
 |nil=>rfl
 |cons a l=>simp
def UB (xs:List D)(a b:D):lS (xs++[a,b]) (-1)=some b:=by
 have hl:(xs++[a,b]).length=xs.length+2:=by simp
 unfold lS yY;rw[hl,if_neg (by decide),if_pos (by lia)];show(xs++[a,b])[((-1:Int)+((xs.length+2:Nat):Int)).toNat]?=_;have:((-1:Int)+((xs.length+2:Nat):Int)).toNat=xs.length+1:=by lia
 rw[this,aAz (by lia),show xs.length+1-xs.length=1 by lia];rfl
def UI (xs:List D)(a b:D):lS (xs++[a,b]) (-2)=some a:=by
 have hl:(xs++[a,b]).length=xs.length+2:=by simp
 unfold lS yY;rw[hl,if_neg (by decide),if_pos (by lia)];show(xs++[a,b])[((-2:Int)+((xs.length+2:Nat):Int)).toNat]?=_;have:((-2:Int)+((xs.length+2:Nat):Int)).toNat=xs.length:=by lia
 rw[this,aAz (by lia),Nat.sub_self];rfl
def ZB (a:D)(xs:List D):lS (a::xs) 0=some a:=by rw[V6 (by decide)];rfl
def bw (a b:D)(xs:List D):lS (a::b::xs) 1=some b:=by rw[V6 (by decide)];rfl
def RQ {P Q R:G.V}(h:G.cZ (G.d4 P Q R).1):G.cr (Q-P) (R-P)≠0:=λe=>by
 have:(G.d4 P Q R).1=0:=by show G.cE (G.cr (Q-P)<|R-P) _=0;rw[e];rfl
 rw[this]at h;unfold G.cZ at h;exact absurd h (by decide)
theorem wF:∀{c:List G.V},(G.X1 n P c).length<=c.length
 |[]=>aAh _
 |[a]=>aAh _
 |b::a::r=>by
  unfold G.X1;split
  ·exact aAr (wF (c:=a::r)) (by simp)
  ·exact aAh _
theorem oJ:∀(qs c:List G.V),(qs.foldl (λc P=>P::G.X1 n P c) c).length<=qs.length+c.length
 |[],c=>by simp
 |P::qs,c=>by refine aAr (oJ qs _) ?_;have:=wF (n:=n) (P:=P) (c:=c);simp;lia
def qZ (n:G.V)(ps:List G.V):(G.w8 n ps).length<=ps.length:=by simpa[G.w8]using oJ (n:=n) ps []
theorem rN {α β:Type}(f:α->D):∀(xs ys:List α),kA (xs.map f) (ys.map f)=(xs.zip ys).map λp=>D.tup [f p.1,f p.2]
 |[],_=>by simp[kA]
 |_::_,[]=>by simp[kA]
 |x::xs,y::ys=>by have:=rN (β:=β) f xs ys;simp only[kA]at this⊢;simp[this]
def VA (h1:Sz 10000 n)(h2:W8 1000 pts):T6 [vd n,.lst (pts.map vd)]=.ok (.lst ((G.w8 n pts).reverse.map vd)):=by simp only[T6,v1,OT,sK,u3];exact if_pos ⟨h1,h2⟩
def ER {n P Q R:G.V}(h:Sz 10000 n)(h1:Sz 1000 P)(h2:Sz 1000 Q)(h3:Sz 1000 R):eM [vd n,vd P,vd Q,vd R]=.ok (.int (G.turn n P Q R)):=if_pos ⟨h,h1,h2,h3⟩
def W6 (h1:Sz 1000 A)(h2:Sz 1000 B)(h3:W8 1000 pts)(h4:G.cZ (G.b7 A B pts).1):D1 [.tup [vd A,vd B],.lst (pts.map vd)]=.ok (qP (G.b7 A B pts).1 (G.b7 A B pts).2):=by simp only[D1,kj,OT,v1,sK,u3];exact if_pos ⟨h1,h2,h3,h4⟩
def RZ (h1:Sz 10000 n)(h2:W8 1000 pts):P1 [vd n,.lst (pts.map vd)]=.ok (.lst ((G.k9 n pts).map vd)):=by simp only[P1,v1,OT,sK,u3];exact if_pos ⟨h1,h2⟩
def MX (h:pts.length<=3000):z6 [.lst (pts.map vd)]=.ok (.lst ((G.T7 pts).map F9)):=by simp only[z6,u3];exact if_pos h
def ED (h:a.length+b.length<=sizeLine):kF (.lst a) (.lst b)=.ok (.lst (a++b)):=if_pos h
end M
namespace G
def wR (hs:l4 pts)(hm:m∈pts)(hl:∀X∈pts,X=m\/i7 (X-m)):
  cZ (b7 m (m+kk) pts).1/\m∈y6 (b7 m (m+kk) pts).1 (b7 m (m+kk) pts).2 pts/\∃out∈y6 (b7 m (m+kk) pts).1 (b7 m (m+kk) pts).2 pts,m≠out:=by
 have C:ConeM (m+kk-m) (λw=>0<w.x\/(w.x=0/\0<w.y)):=by rw[K7];exact CJ
 have af:m+kk-m≠0:=by rw[K7];intro e;have:=congrArg V.z e;simp[kk]at this
 have hp:∀P∈pts,(0<(P-m).x\/((P-m).x=0/\0<(P-m).y))\/cr (m+kk-m) (P-m)=0:=λP hP=>by
  rw[K7];rcases hl P hP with e|e
  ·right;subst e;rw[x8];apply ext<;>simp
  ·unfold i7 at e;rcases e with e|⟨e1,e|⟨e2,e3⟩⟩
   ·exact .inl (.inl e)
   ·exact .inl (.inr ⟨e1,e⟩)
   ·right;apply ext
    ·simp[kk];simp at e2;lia
    ·simp[kk];simp at e1;lia
    ·simp[kk]
 have hx:∃P∈pts,0<(P-m).x\/((P-m).x=0/\0<(P-m).y):=by
  by_cases z:∃P∈pts,0<(P-m).x\/((P-m).x=0/\0<(P-m).y)
  ·exact z
  ·exfalso;obtain⟨Z,hZ,e⟩:=hs.off (n:=⟨1,0,0⟩) (d:=m.x) (λe=>by have:=congrArg V.x e;simp at this);have w:=(hp Z hZ).resolve_left λq=>z ⟨Z,hZ,q⟩;rw[K7]at w;have:=congrArg V.y w;simp[kk]at this;simp[c8]at e
   lia
 obtain⟨out,g,o1,o2,g0,ge,gp,gd,sup,sB,sO,sP⟩:=W6 C af hp hx;refine⟨gp,d6.mpr ⟨hm,gd.symm⟩,out,d6.mpr ⟨o1,sO⟩,λe=>?_⟩;subst e;rw[x8]at o2;simp at o2
section
variable{pts:List V} (hs:l4 pts) (ho:pts.Pairwise (λa b=>i7 (b-a)))
include hs ho
theorem NL (hf:IsFace pts f.1 f.2)(hg:IsFace pts g.1 g.2)(h1:(a,b)∈T7 (o9 pts f))(h2:(a,b)∈T7 (o9 pts g)):f=g:=by
 have e1:=(hf.aa2 ho).aa1.mp h1;have e2:=(hg.aa2 ho).aa1.mp h2;obtain⟨f1,b1⟩:=jD hs ho hf e1;rcases GD hs ho hf hg e1 (d6.mp e2.p).2 (d6.mp e2.q).2 with q|q
 ·exact q.symm
 ·exfalso;have:g=b7 b a pts:=q;rw[<-this]at b1;exact iQ hs ho hg e2 b1
theorem FI (h:l.Nodup):(T7 l).Nodup:=by
 have:((T7 l).map (·.1)).Nodup:=by
  unfold T7;rw[List.map_fst_zip]
  ·exact h
  ·simp;lia
 exact(aBD.mp this).imp λ{a b} h e=>h (by rw[e])
def ID (pts:List V)(fs:List (V×Int)):List (V×V):=fs.flatMap λf=>T7 (o9 pts f)
omit hs ho in
theorem KT (fs:List (V×Int)):(ID pts fs).length=(fs.map λf=>(o9 pts f).length).sum:=by
 induction fs with
 |nil=>rfl
 |cons f fs ih=>show(T7 (o9 pts f)++ID pts fs).length=_;rw[aAN,ih,aAy,aDT];congr 1;unfold T7;simp;lia
theorem pI:∀{fs:List (V×Int)},fs.Nodup->(∀f∈fs,IsFace pts f.1 f.2)->(ID pts fs).Nodup
 |[],_,_=>aDb
 |f::fs,nd,hf=>by have n1:=aAG.mp nd;have h1:=hf f (.head _);show(T7 (o9 pts f)++ID pts fs).Nodup;rw[aCS];refine⟨FI hs ho ((h1.aa2 ho).aa4),pI n1.2 λg hg=>hf g (.tail _ hg),λe he e' xt q=>?_⟩;subst q;obtain⟨g,hg,km⟩:=aBt.mp xt;exact n1.1 (NL hs ho h1 (hf g<|.tail _ hg) (a:=e.1) (b:=e.2) he km▸hg)
theorem aH {fs:List (V×Int)}(nd:fs.Nodup)(hf:∀f∈fs,IsFace pts f.1 f.2):(fs.map λf=>(o9 pts f).length).sum+pts.length<=pts.length*pts.length:=by
 have npts:pts.Nodup:=ho.imp λ{a b} h e=>by subst e;exact G3 h
 have h1:=pI hs ho nd hf;have h2:(ID pts fs++pts.map λa=>(a,a)).Nodup:=by rw[aCS];refine⟨h1,aBD.mpr (npts.imp λ{a b} h e=>h (Prod.mk.inj e).1),λe he e' xt q=>?_⟩;subst q;obtain⟨g,hg,km⟩:=aBt.mp he;obtain⟨a,_,rfl⟩:=aAo.mp xt;exact(((hf g hg).aa2 ho).aa1.mp km).ne rfl
 have h3:∀e∈ID pts fs++pts.map (λa=>(a,a)),e∈pts.flatMap λa=>pts.map λb=>(a,b):=λe he=>by
  rcases aAP.mp he with he|he
  ·obtain⟨g,hg,km⟩:=aBt.mp he;have km:(e.1,e.2)∈T7 (o9 pts g):=km;have ed:=((hf g hg).aa2 ho).aa1.mp km;exact aBt.mpr ⟨e.1,(d6.mp ed.p).1,aAo.mpr ⟨e.2,(d6.mp ed.q).1,rfl⟩⟩
  ·obtain⟨a,ha,rfl⟩:=aAo.mp he;exact aBt.mpr ⟨a,ha,aAo.mpr ⟨a,ha,rfl⟩⟩
 have h4:=O5 h2 h3;have h5:(pts.flatMap λa=>pts.map λb=>(a,b)).length=pts.length*pts.length:=by
  have:∀l:List V,(l.flatMap λa=>pts.map λb=>(a,b)).length=l.length*pts.length:=λl=>by
   induction l with
   |nil=>simp
   |cons a l ih=>rw[List.flatMap_cons,aAN,ih,aAk,aAx,Nat.succ_mul];lia
  exact this pts
 rw[aAN,KT,aAk,h5]at h4;exact h4
theorem dP {fs:List (V×Int)}(hf:∀f∈fs,IsFace pts f.1 f.2):3*fs.length<=(fs.map λf=>(o9 pts f).length).sum:=by
 induction fs with
 |nil=>simp
 |cons f fs ih=>
  have:=ih λg hg=>hf g (.tail _ hg);obtain⟨r,s,t,l,e⟩:=V7 ho (hf f<|.head _);have e2:(o9 pts f).length=l.length+3:=by show(k9 f.1 (y6 f.1 f.2 pts)).length=_;rw[e];simp
  rw[aAy,aDT,aAx,e2]
  lia
end
theorem jV:∀(pts:List V) (up out:V),(D8 a A pts up out).2∈pts\/(D8 a A pts up out).2=out
 |[],up,out=>.inr rfl
 |P::Ps,up,out=>by
  unfold D8;split
  ·rcases jV Ps (cr a (P-A)) P with h|h
   ·exact .inl (.tail _ h)
   ·exact .inl (by rw[h];exact .head _)
  ·rcases jV Ps up out with h|h
   ·exact .inl (.tail _ h)
   ·exact .inr h
end G
namespace M
open PySem L2 DL
def LU (a b:G.V):HT.lexLt (flat (vd a)) (flat (vd b))=true↔G.i7 (b-a):=by
 show HT.lexLt [a.x,a.y,a.z] [b.x,b.y,b.z]=true↔_;unfold G.i7;simp only[HT.lexLt,G.UA,G.UN,G.UC];by_cases h1:a.x=b.x
 ·by_cases h2:a.y=b.y
  ·by_cases h3:a.z=b.z
   ·simp[h1,h2,h3]
   ·simp[h1,h2,h3];try lia
  ·simp[h1,h2];try lia
 ·simp[h1];try lia
def BC {pts:List G.V}(h:pts.Pairwise λa b=>G.i7 (b-a)):ND (pts.map vd):=aBD.mpr (h.imp λ{a b} q=>(LU a b).mpr q)
def WK {pts:List G.V}(h:ND (pts.map vd)):pts.Pairwise λa b=>G.i7 (b-a):=(aBD.mp h).imp λ{a b} q=>(LU a b).mp q
def OI (pts:List G.V):(pts.map vd).all X8=true:=aBC.mpr λd hd=>by obtain⟨v,_,rfl⟩:=aAo.mp hd;rfl
def WX [Tabs]{m:G.V}{pts:List G.V}(h:(m::pts).Pairwise λa b=>G.i7 (b-a)):NT [.lst ((m::pts).map vd)]=.ok (vd m):=by show(if(m::pts).map vd≠[]/\((m::pts).map vd).all X8=true then _ else _)=_;rw[if_pos ⟨by simp,OI _⟩,SM (BC h) _ (by simp)];rfl
def oF {P Q R:G.V}(p:Sz 1000 P)(q:Sz 1000 Q)(r:Sz 1000 R):Sz 2003 (G.d4 P Q R).1:=by
 have sC:=(q.sub p).cr (r.sub p);by_cases hc:G.cr (Q-P) (R-P)=0
 ·have:(G.d4 P Q R).1=0:=by show G.cE (G.cr (Q-P)<|R-P) _=0;rw[hc];rfl
  rw[this];exact⟨by decide,by decide,by decide⟩
 ·obtain⟨g0,g1,g2⟩:=G.fA hc;have f1:=bits_fdiv (b:=(G.q9 (G.cr (Q-P)<|R-P):Int)) sC.1;have f2:=bits_fdiv (b:=(G.q9 (G.cr (Q-P)<|R-P):Int)) sC.2.1;have f3:=bits_fdiv (b:=(G.q9 (G.cr (Q-P)<|R-P):Int)) sC.2.2;rw[dI g0]at f1 f2 f3;exact⟨f1,f2,f3⟩
def xP {A B:G.V}{pts:List G.V}(p:Sz 1000 A)(q:Sz 1000 B)(r:W8 1000 pts):Sz 2003 (G.b7 A B pts).1:=by
 unfold G.b7;rcases G.jV (a:=B-A) (A:=A) pts 0 A with h|h
 ·exact oF p q (r.1 _ h)
 ·rw[h];exact oF p q p
def ZH (m:G.V):vd (m+G.kk)=.tup [.int m.x,.int m.y,.int (m.z+1)]:=by simp[G.kk]
def NY (h:Sz 900 m):Sz 1000 (m+G.kk):=(h.add (v:=G.kk) ⟨by decide,by decide,by decide⟩).mono
def OM (h:W8 k pts):W8 k (G.y6 n d pts):=h.sub (λP hP=>(G.d6.mp hP).1) (List.length_filter_le _ _)
def OL {α:Type}{l:List α}{a b:α}(ha:a∈l)(hb:b∈l)(h:a≠b):∃x y r,l=x::y::r:=by
 match l,ha,hb with
 |[x],ha,hb=>exact absurd ((aBm.mp ha).trans (aBm.mp hb).symm) h
 |x::y::r,_,_=>exact⟨x,y,r,rfl⟩
end M
namespace M
open PySem L2 DL
open Classical in
def U5 {kvs:List (D×D)}{k v k':D}:k'∈(W9 kvs k v).map (·.1)↔k'∈kvs.map (·.1)\/k'=k:=by
 unfold W9;split
 ·rename_i h;rw[aBi];have:((λx=>x.1)∘λp:D×D=>if p.1=k then(p.1,v)else p)=λp=>p.1:=by funext p;simp only[aGi];split<;>rfl
  rw[this];exact⟨.inl,λq=>q.elim id λe=>by rw[e];exact h⟩
 ·rw[aCE,aAP];simp
def MC {kvs:List (D×D)}{k v:D}:(W9 kvs k v).length<=kvs.length+1:=by
 unfold W9;split
 ·simp
 ·simp
def QB {p q:G.V×G.V}(h:F9 p=F9 q):p=q:=by injection h with h;injection h with h1 h2;injection h2 with h2 _;exact aFh (zG h1) (zG h2)
def BL (p:G.V×G.V):R5 7 (F9 p)=true/\GW (F9 p)=true:=⟨rfl,rfl⟩
def ffC:Ev->R Bool:=λρ=>((((pK 5 ρ).bind λd=>R.ok [d]).bind LO).bind λx=>WI x (D.int 0)).bind vO
def ffS:Ev->R Out:=λρ=>
 C3 ((Q4 9 ρ).bind λkd=>rE 4 ρ kd (D.bl true)) λρ=>((((pK 9 ρ).bind λx=>L3 x (D.int 1)).bind λd=>(((pK 9 ρ).bind λx=>L3 x (D.int 0)).bind λd=>R.ok [d]).bind λds=>R.ok (d::ds)).bind aF).bind (yO 5 ρ)
theorem FH {a0 a1 a2 a3 a6 a7 a8:Sl}:∀(qs:List (G.V×G.V)) (kvs:List (D×D)) (W:List (G.V×G.V)) (a9:Sl),kvs.length+qs.length<=10000->W.length+qs.length<=10000->
  ∃gc a9',M3 (λd ρ=>R.ok (aCG ρ 9 (Sl.v d))) ffS (qs.map F9) [a0,a1,a2,a3,.d kvs,.o (W.map F9),a6,a7,a8,a9]=.ok (.nx [a0,a1,a2,a3,.d gc,.o ((W++qs.map λq=>(q.2,q.1)).map F9),a6,a7,a8,a9'])/\
   (∀e:G.V×G.V,F9 e∈gc.map (·.1)↔F9 e∈kvs.map (·.1)\/e∈qs)/\gc.length<=kvs.length+qs.length
 |[],kvs,W,a9,_,_=>⟨kvs,a9,by simp,λe=>by simp,by simp⟩
 |q::qs,kvs,W,a9,h1,h2=>by
  simp only[aAx]at h1 h2;have pl:=MC (kvs:=kvs) (k:=F9 q) (v:=.bl true);obtain⟨gc,a9',e,m,l⟩:=FH qs (W9 kvs (F9 q)<|.bl true) (W++[(q.2,q.1)]) (.v (F9 q)) (by lia) (by simp;lia);refine⟨gc,a9',?_,λx=>?_,by simp;lia⟩
  ·rw[aAy];refine(S8 (ρ2:=[a0,a1,a2,a3,.d (W9 kvs (F9 q)<|.bl true),.o ((W++[(q.2,q.1)]).map F9),a6,a7,a8,.v (F9 q)]) rfl ?_).trans ?_
   ·have hk:kvs.length<=sizeLine:=aAr (show kvs.length<=10000 by lia) (by decide);have hw:(W.map F9).length<sizeLine:=by rw[aAk];exact aDf (show W.length<=10000 by lia) (by decide)
    have d1:rE 4 [a0,a1,a2,a3,.d kvs,.o (W.map F9),a6,a7,a8,.v (F9 q)] (F9 q) (.bl true)=.ok (.nx [a0,a1,a2,a3,.d (W9 kvs (F9 q)<|.bl true),.o (W.map F9),a6,a7,a8,.v (F9 q)]):=by show(if _ then _ else _)=_;rw[if_pos ⟨(BL q).1,(BL q).2,hk⟩];rfl
    have d2:yO 5 [a0,a1,a2,a3,.d (W9 kvs (F9 q)<|.bl true),.o (W.map F9),a6,a7,a8,.v (F9 q)] (F9 (q.2,q.1))=.ok (.nx [a0,a1,a2,a3,.d (W9 kvs (F9 q)<|.bl true),.o ((W++[(q.2,q.1)]).map F9),a6,a7,a8,.v (F9 q)]):=by show(if _ then _ else _)=_;rw[if_pos hw,aCE];rfl
    show C3 ((R.ok<|F9 q).bind λkd=>rE 4 [a0,a1,a2,a3,.d kvs,.o (W.map F9),a6,a7,a8,.v (F9 q)] kd (D.bl true)) _=_;rw[R.aa0,d1];exact d2
   ·rw[e];simp
  ·rw[m x,U5,aAd];constructor
   ·rintro((h|h)|h)
    ·exact .inl h
    ·exact .inr (.inl (QB h))
    ·exact .inr (.inr h)
   ·rintro(h|h|h)
    ·exact .inl (.inl h)
    ·exact .inl (.inr (by rw[h]))
    ·exact .inr h
section
variable(Φ:(List D->R D)->Hp->(Addr->Prop)->Addr->Prop)
def xx:Ev->R Out:=λρ=>
 C3 ((AB 5 ρ).bind λz=>R.ok (Out.nx<|aCG z.snd 6<|Sl.v z.fst)) λρ=>
  ((Q4 6 ρ).bind (oA 4 ρ)).bind λt=>
   if t=true then
    C3
     ((((Q4 6 ρ).bind λd=>((callC Φ 1 (p8 (λρ=>(pK 6 ρ).bind λx=>L3 x (D.int 0)) Q7) ρ).bind λd=>R.ok [d]).bind λds=>R.ok (d::ds)).bind D1).bind λd=>R.ok (Out.nx<|aCG ρ 7<|Sl.v d))
     λρ=>
     C3
      (((((pK 7 ρ).bind λx=>NF x none (some 3)).bind λd=>((callC Φ 2 (p8 (Q4 7) Q7) ρ).bind λd=>R.ok [d]).bind λds=>R.ok (d::ds)).bind P1).bind λd=>R.ok (Out.nx<|aCG ρ 8<|Sl.v d))
      λρ=>
      C3 ((((Q4 7 ρ).bind λd=>((Q4 8 ρ).bind λd=>R.ok [d]).bind λds=>R.ok (d::ds)).bind aF).bind (yO 3 ρ))
       λρ=>((((Q4 8 ρ).bind λd=>R.ok [d]).bind z6).bind L8).bind λds=>M3 (λd ρ=>R.ok (aCG ρ 9<|Sl.v d)) ffS ds ρ
   else R.ok (Out.nx ρ)
def wD (L:D) (p0:G.V×G.V) (fs:List D) (kvs:List (D×D)) (W:List (G.V×G.V)) (a b c d:Sl):Ev:=
 [Sl.v (F9 p0),Sl.c (J2 [L]) (Φ<|J2 [L]),Sl.c (C5 [L]) (Φ<|C5 [L]),.o fs,.d kvs,.o (W.map F9),a,b,c,d]
end
def vY {Φ:(List D->R D)->Hp->(Addr->Prop)->Addr->Prop}{i:Nat}{f:Ev->R (List D)}{ρ:Ev}{m:List D->R D}{ds:List D}(h:ρ[i]?=some (.c m (Φ m)))(hf:f ρ=.ok ds):callC Φ i f ρ=m ds:=by unfold callC;rw[h];dsimp only;rw[if_pos rfl,hf];rfl
def gF (pts:List G.V)(fs:List (G.V×Int)):Nat:=(fs.map λf=>(G.o9 pts f).length).sum
def eJ (pts:List G.V)(fs:List (G.V×Int))(f:G.V×Int):gF pts (fs++[f])=gF pts fs+(G.o9 pts f).length:=by simp[gF]
def IX {pts:List G.V}{m:G.V}(h:Land pts m):Sz 1000 (G.e9 m pts).1/\Sz 1000 (G.e9 m pts).2:=by
 have sm:Sz 900 m:=h.sz.1 m h.good.mem;obtain⟨hp,tm,out,to,af⟩:=G.wR h.good.solid h.good.mem h.good.least;unfold G.e9;dsimp only;split
 ·exact⟨sm.mono,NY sm⟩
 ·obtain⟨x,y,r,et⟩:=OL tm to af;rw[et];have q:∀z∈x::y::r,Sz 1000 z:=λz hz=>by rw[<-et]at hz;exact(h.sz.1 z (G.d6.mp hz).1).mono
  exact⟨q x (.head _),q y (.tail _ (.head _))⟩
def RB {pts:List G.V}{m:G.V}(h:Land pts m){fs:List (G.V×Int)}{wk:G.V×G.V->Prop}{W:List (G.V×G.V)}(L:G.LInv pts (G.e9 m pts) fs wk W){p:G.V×G.V}(hp:p∈W):Sz 1000 p.1/\Sz 1000 p.2:=by
 rcases L.wt p hp with⟨f,hf,he⟩|⟨_,e⟩
 ·have S:=(L.face f hf).aa2 h.good.ord;have ed:=S.aa1.mp he;exact⟨(h.sz.1 _ (G.d6.mp ed.q).1).mono,(h.sz.1 _ (G.d6.mp ed.p).1).mono⟩
 ·rw[e];exact IX h
def JZ {pts:List G.V}{m:G.V}(h:Land pts m){f:G.V×Int}(hf:G.IsFace pts f.1 f.2):(G.o9 pts f).length<=pts.length:=by have S:=hf.aa2 h.good.ord;exact G.O5 S.aa4 λx hx=>(G.d6.mp<|S.aa3 hx).1
def yU {pts:List G.V}{f g:G.V×Int}(h:R8 (o6 pts f)=R8 (o6 pts g)):f=g:=by have h:[f.1.x,f.1.y,f.1.z,f.2]=[g.1.x,g.1.y,g.1.z,g.2]:=h;simp only[aFG,and_true]at h;exact aFh (G.ext h.1 h.2.1 h.2.2.1) h.2.2.2
def qD {α β:Type}{f:α->β}(hf:∀a b,f a=f b->a=b){l:List α}(h:l.Nodup):(l.map f).Nodup:=aBD.mpr (h.imp λ{a b} n e=>n (hf a b e))
def TN {Φ:(List D->R D)->Hp->(Addr->Prop)->Addr->Prop}{pts:List G.V}{m:G.V}(hz:Land pts m){fs:List (G.V×Int)}{kvs:List (D×D)}{W:List (G.V×G.V)}{a b c d:Sl}(L:G.LInv pts (G.e9 m pts) fs (λe=>F9 e∈kvs.map (·.1)) W)
  (hk:kvs.length<=gF pts fs) (hW:W.length<=1+gF pts fs) {n:Nat} (hn:W.length+(pts.length*pts.length-gF pts fs)<n+1) (af:W≠[]):
  ∃xf gc W' a' b' c' d',xx Φ (wD Φ (.lst (pts.map vd)) (G.e9 m pts) (fs.map (o6 pts)) kvs W a b c d)=.ok (.nx (wD Φ (.lst (pts.map vd)) (G.e9 m pts) (xf.map (o6 pts)) gc W' a' b' c' d'))/\
   G.LInv pts (G.e9 m pts) xf (λe=>F9 e∈gc.map (·.1)) W'/\gc.length<=gF pts xf/\W'.length<=1+gF pts xf/\W'.length+(pts.length*pts.length-gF pts xf)<n:=by
 obtain⟨rest,p,rfl⟩:∃rest p,W=rest++[p]:=⟨W.dropLast,W.getLast af,(List.dropLast_concat_getLast af).symm⟩;have sfew:=G.aH hz.good.solid hz.good.ord L.nd L.face;have few:=hz.few;have nn:pts.length*pts.length<=63*63:=aDZ few few;have hsum:gF pts fs+pts.length<=pts.length*pts.length:=sfew;have hlW:(rest++[p]).length=rest.length+1:=by simp
 rw[hlW]at hW hn;have pop:AB 5 (wD Φ (.lst (pts.map vd)) (G.e9 m pts) (fs.map<|o6 pts) kvs (rest++[p]) a b c d)=.ok (F9 p,wD Φ (.lst (pts.map vd)) (G.e9 m pts) (fs.map<|o6 pts) kvs rest a b c d):=by show(match((rest++[p]).map F9)[((rest++[p]).map F9).length-1]? with|some d=>_|none=>_:R (D×Ev))=_;rw[aCE];simp;rfl
 have nin:oA 4 (wD Φ (.lst (pts.map vd)) (G.e9 m pts) (fs.map<|o6 pts) kvs rest (.v (F9 p)) b c d) (F9 p)=.ok (!(open Classical in decide (F9 p∈kvs.map (·.1)))):=by unfold oA;rw[show(wD Φ (.lst (pts.map vd)) (G.e9 m pts) (fs.map<|o6 pts) kvs rest (.v (F9 p)) b c d)[4]?=some (.d kvs)from rfl];dsimp only;rw[if_pos (BL p)]
 have s1:W8 1000 pts:=hz.sz.mono;unfold xx;rw[pop];show∃xf gc W' a' b' c' d',C3 (R.ok<|Out.nx<|wD Φ (.lst (pts.map vd)) (G.e9 m pts) (fs.map<|o6 pts) kvs rest (.v (F9 p)) b c d) _=_/\_;rw[A1];rw[show Q4 6 (wD Φ (.lst (pts.map vd)) (G.e9 m pts) (fs.map<|o6 pts) kvs rest (.v (F9 p)) b c d)=.ok (F9 p)from rfl,R.aa0,nin,R.aa0];by_cases hp:F9 p∈kvs.map (·.1)
 ·refine⟨fs,kvs,rest,.v (F9 p),b,c,d,?_,G.KA hz.good L rfl hp,hk,by lia,by lia⟩;rw[decide_eq_true hp];rfl
 ·have hpm:p∈rest++[p]:=by simp
  obtain⟨n1,n2,n3⟩:=G.xX hz.good L hpm hp;obtain⟨sp1,sp2⟩:=RB hz L hpm;have ab:=W6 sp1 sp2 s1 n1.prim;have asz:=xP sp1 sp2 s1;obtain⟨f,ef⟩:∃f,G.b7 p.1 p.2 pts=f:=⟨_,rfl⟩;rw[ef]at n1 n2 n3 ab asz;have po:=iU (d:=f.2) asz.mono s1;have ro:=RZ (n:=f.1) (pts:=G.y6 f.1 f.2 pts) asz.mono (OM s1);have rl:=JZ hz n1;have ro:P1 [vd f.1,.lst ((G.y6 f.1 f.2 pts).map vd)]=.ok (.lst ((G.o9 pts f).map vd)):=ro;have pr:=MX (pts:=G.o9 pts f) (by lia);have L':=λ{wk'} {W'} h1 h2=>G.JP hz.good L (rest:=rest) (p:=p) rfl hp (walked':=wk') (waiting':=W') h1 h2;rw[ef]at L';have nd':(fs++[f]).Nodup:=by
   have:=(L' (wk':=λe=>F9 e∈kvs.map (·.1)\/e∈G.T7 (G.o9 pts f)) (W':=rest++(G.T7<|G.o9 pts f).map λq=>(q.2,q.1)) (λe=>Iff.rfl) (λq=>by
    rw[aAP,aAo];constructor
    ·rintro(h|⟨x,hx,rfl⟩)
     ·exact .inl h
     ·exact .inr hx
    ·rintro(h|h)
     ·exact .inl h
     ·exact .inr ⟨_,h,rfl⟩))
   exact this.nd
  have sfew2:gF pts (fs++[f])+pts.length<=pts.length*pts.length:=G.aH hz.good.solid hz.good.ord nd' λg hg=>by
   rcases aAP.mp hg with z|z
   ·exact L.face g z
   ·rw[aBm.mp z];exact n1
  rw[eJ]at sfew2;have clen:(G.T7<|G.o9 pts f).length=(G.o9 pts f).length:=by unfold G.T7;simp;lia
  obtain⟨gc,a9',run,mem',len'⟩:=FH (a0:=Sl.v (F9<|G.e9 m pts)) (a1:=Sl.c (J2 [.lst (pts.map vd)]) (Φ<|J2 [.lst (pts.map vd)])) (a2:=Sl.c (C5 [.lst (pts.map vd)]) (Φ<|C5 [.lst (pts.map vd)])) (a3:=.o ((fs++[f]).map (o6 pts))) (a6:=.v (F9 p)) (a7:=.v (qP f.1 f.2)) (a8:=.v (.lst ((G.o9 pts f).map vd))) (G.T7<|G.o9 pts f) kvs rest d (by lia) (by lia);refine⟨fs++[f],gc,rest++(G.T7<|G.o9 pts f).map (λq=>(q.2,q.1)),.v (F9 p),.v (qP f.1 f.2),.v (.lst ((G.o9 pts f).map vd)),a9',?_,L' mem' (λq=>?_),?_,?_,?_⟩
  ·have ap:yO 3 (wD Φ (.lst (pts.map vd)) (G.e9 m pts) (fs.map<|o6 pts) kvs rest (.v (F9 p)) (.v (qP f.1 f.2)) (.v (.lst ((G.o9 pts f).map vd))) d) (o6 pts f)=.ok (.nx (wD Φ (.lst (pts.map vd)) (G.e9 m pts) ((fs++[f]).map (o6 pts)) kvs rest (.v (F9 p)) (.v (qP f.1 f.2)) (.v (.lst ((G.o9 pts f).map vd))) d)):=by show(if(fs.map<|o6 pts).length<sizeLine then _ else _)=_;have h3:=G.dP hz.good.solid hz.good.ord L.face;have h3:3*fs.length<=gF pts fs:=h3;rw[if_pos (by rw[aAk];exact aDf (show fs.length<=4000 by lia) (by decide)),aCE];rfl
   have ca:callC Φ 1 (p8 (λρ=>(pK 6 ρ).bind λx=>L3 x (D.int 0)) Q7) (wD Φ (.lst (pts.map vd)) (G.e9 m pts) (fs.map<|o6 pts) kvs rest (.v (F9 p)) b c d)=.ok (.lst (pts.map vd)):=by exact(vY (m:=J2 [.lst (pts.map vd)]) (ds:=[vd p.1]) rfl rfl).trans rfl
   have ct:callC Φ 2 (p8 (Q4 7) Q7) (wD Φ (.lst (pts.map vd)) (G.e9 m pts) (fs.map<|o6 pts) kvs rest (.v (F9 p)) (.v (qP f.1 f.2)) c d)=.ok (.lst ((G.y6 f.1 f.2 pts).map vd)):=by exact(vY (m:=C5 [.lst (pts.map vd)]) (ds:=[qP f.1 f.2]) rfl rfl).trans po
   have sl:NF (qP f.1 f.2) none (some 3)=.ok (vd f.1):=rfl;rw[decide_eq_false hp];simp only[Bool.not_false,if_true];rw[ca,R.aa0,R.aa0,R.aa0,R.aa0,ab,R.aa0];show C3 (R.ok<|Out.nx<|wD Φ (.lst (pts.map vd)) (G.e9 m pts) (fs.map<|o6 pts) kvs rest (.v (F9 p)) (.v (qP f.1 f.2)) c d) _=_;rw[A1];rw[ct];show C3 ((((R.ok<|qP f.1 f.2).bind λx=>NF x none (some 3)).bind λd=>(R.ok [D.lst ((G.y6 f.1 f.2 pts).map vd)]).bind λds=>R.ok (d::ds)).bind P1|>.bind λd=>R.ok (Out.nx<|aCG _ 8<|Sl.v d)) _=_;rw[R.aa0,sl,R.aa0,R.aa0,R.aa0,ro,R.aa0];show C3 (R.ok<|Out.nx<|wD Φ (.lst (pts.map vd)) (G.e9 m pts) (fs.map<|o6 pts) kvs rest (.v (F9 p)) (.v (qP f.1 f.2)) (.v (.lst ((G.o9 pts f).map vd))) d) _=_;rw[A1];show C3 (yO 3 (wD Φ (.lst (pts.map vd)) (G.e9 m pts) (fs.map<|o6 pts) kvs rest (.v (F9 p)) (.v (qP f.1 f.2)) (.v (.lst ((G.o9 pts f).map vd))) d)<|o6 pts f) _=_;rw[ap,A1];show((z6 [.lst ((G.o9 pts f).map vd)]).bind L8).bind _=_;rw[pr,R.aa0];exact run
  ·rw[aAP,aAo];constructor
   ·rintro(h|⟨x,hx,rfl⟩)
    ·exact .inl h
    ·exact .inr hx
   ·rintro(h|h)
    ·exact .inl h
    ·exact .inr ⟨_,h,rfl⟩
  ·rw[eJ];lia
  ·rw[eJ,aAN,aAk];lia
  ·rw[eJ,aAN,aAk];lia
end M
namespace M
open PySem L2 DL
def RK (pts:List G.V)(f:G.V×Int):List (G.V×Int)->List (G.V×Int)
 |[]=>[f]
 |x::xs=>if HT.lexLt (R8 (o6 pts f)) (R8 (o6 pts x))=true then f::x::xs else x::RK pts f xs
def CI (pts:List G.V)(fs:List (G.V×Int)):List (G.V×Int):=fs.foldr (RK pts) []
theorem vZ (pts:List G.V)(f:G.V×Int):∀xs:List (G.V×Int),tL R8 (o6 pts f) (xs.map (o6 pts))=(RK pts f xs).map (o6 pts)
 |[]=>rfl
 |x::xs=>by
  unfold RK;rw[aAy,tL];split
  ·rfl
  ·rw[aAy,vZ pts f xs]
theorem eU (pts:List G.V):∀fs:List (G.V×Int),nR R8 (fs.map (o6 pts))=(CI pts fs).map (o6 pts)
 |[]=>rfl
 |f::fs=>by show tL R8 (o6 pts f) (nR R8 (fs.map (o6 pts)))=_;rw[eU pts fs,vZ];rfl
def jL (h:o6 pts f=o6 pts g):f=g:=yU (by rw[h])
theorem fE:∀{a b:List (G.V×Int)},a.map (o6 pts)=b.map (o6 pts)->a=b
 |[],[],_=>rfl
 |[],_::_,h=>by cases h
 |_::_,[],h=>by cases h
 |x::a,y::b,h=>by rw[aAy,aAy]at h;injection h with h1 h2;rw[jL h1,fE h2]
def HY:f∈CI pts fs↔f∈fs:=by
 have h:=(W5 R8<|fs.map<|o6 pts).mem_iff (a:=o6 pts f);rw[eU]at h;constructor
 ·intro q;obtain⟨g,hg,e⟩:=aAo.mp (h.mp<|aBk q);rw[<-jL e];exact hg
 ·intro q;obtain⟨g,hg,e⟩:=aAo.mp (h.mpr<|aBk q);rw[<-jL e];exact hg
def sF [Tabs]{pts:List G.V}{fs:List (G.V×Int)}(h:fs.Nodup):((fs.map (o6 pts)).map R8).Nodup:=by rw[aBi];exact qD (λa b e=>yU (pts:=pts) e) h
def V9 (h:pW k l):l.Nodup:=h.imp λ{a b} q e=>by subst e;rw[TS.lex_irrefl]at q;cases q
def M2 {pts:List G.V}{fs:List (G.V×Int)}(h:(fs.map (o6 pts)).Nodup):fs.Nodup:=(aBD.mp h).imp λ{a b} n e=>n (by rw[e])
def yC {pts:List G.V}{fs gs:List (G.V×Int)}(h1:cW pts fs)(h2:cW pts gs):fs=gs:=by
 have n1:=M2 (V9 h1.2);have n2:=M2 (V9 h2.2);have p:fs.Perm gs:=(aDu n1 n2).mpr λf=>by rw[h1.1,h2.1]
 exact fE (jH h1.2 h2.2 (p.map _))
def nK (h:cW pts fs):k7 pts=fs:=by unfold k7;have q:∃fs,cW pts fs:=⟨fs,h⟩;rw[dif_pos q];exact yC q.choose_spec h
def sD [Tabs]{pts:List G.V}{fs:List (G.V×Int)}(nd:fs.Nodup)(h:∀n d,(n,d)∈fs↔G.IsFace pts n d):cW pts (CI pts fs):=by refine⟨λf=>by rw[HY];exact h f.1 f.2,?_⟩;rw[<-eU];exact kP (sF nd)
def ZX [Tabs]{Φ:(List D->R D)->Hp->(Addr->Prop)->Addr->Prop}{pts:List G.V}{m:G.V}(hz:Land pts m)(qi:pts.length<=14):
  L4 (C3 (R1 ffC (xx Φ) 5000 (wD Φ (.lst (pts.map vd)) (G.e9 m pts) [] [] [G.e9 m pts] .no .no .no .no)) λρ=>(((pK 3 ρ).bind ZM).bind λds=>R.ok (D.lst ds)).bind λd=>R.ok (Out.rt d))=.ok (.lst ((k7 pts).map (o6 pts))):=by
 refine HF (Iv:=λn ρ=>∃fs kvs W a b c d,ρ=wD Φ (.lst (pts.map vd)) (G.e9 m pts) (fs.map<|o6 pts) kvs W a b c d/\G.LInv pts (G.e9 m pts) fs (λe=>F9 e∈kvs.map (·.1)) W/\kvs.length<=gF pts fs/\W.length<=1+gF pts fs/\W.length+(pts.length*pts.length-gF pts fs)<n) ?_ ?_ ?_ (by rintro ρ ⟨_,_,_,_,_,_,_,_,_,_,_,h⟩;lia)
 ·rintro n ρ ⟨fs,kvs,W,a,b,c,d,rfl,L,hk,hW,hn⟩;by_cases af:W=[]
  ·subst af;exact .inl rfl
  ·refine .inr ⟨?_,?_⟩
   ·have hl:(0:Int)<((W.map F9).length:Int):=by have:=aDE.mpr af;rw[aAk];lia
    show(R.ok<|D.bl<|decide ((0:Int)<((W.map F9).length:Int))).bind vO=_;rw[decide_eq_true hl];rfl
   ·obtain⟨xf,gc,W',a',b',c',d',e,L',ke,hW',hn'⟩:=TN (Φ:=Φ) (a:=a) (b:=b) (c:=c) (d:=d) hz L hk hW hn af;exact⟨_,e,xf,gc,W',a',b',c',d',rfl,L',ke,hW',hn'⟩
 ·refine⟨[],[],[G.e9 m pts],.no,.no,.no,.no,rfl,?_,aAh _,aAh _,?_⟩
  ·have:=G.BF hz.good;refine⟨this.face,this.nd,λe=>?_,this.cl,this.wt,this.ne⟩;rw[<-this.wk e];simp
  ·have nn:pts.length*pts.length<=14*14:=aDZ qi qi;show 1+(pts.length*pts.length-0)<5000
   lia
 ·rintro n ρ ⟨fs,kvs,W,a,b,c,d,rfl,L,hk,hW,hn⟩ hc;have hW0:W=[]:=by
   cases W with
   |nil=>rfl
   |cons p W=>have hc:(R.ok<|D.bl<|decide ((0:Int)<(((p::W).map F9).length:Int))).bind vO=.ok false:=hc;rw[decide_eq_true (by simp;try lia)]at hc;cases hc
  subst hW0;obtain⟨af,lh⟩:=G.KU hz.good L;have FL:=sD L.nd lh;rw[nK FL];have few:=G.aH hz.good.solid hz.good.ord L.nd L.face;have three:=G.dP hz.good.solid hz.good.ord L.face;have nn:pts.length*pts.length<=14*pts.length:=Nat.mul_le_mul_right _ qi;have ug:(fs.map<|o6 pts).length<=63:=by rw[aAk];lia
  have sf:ZM (.lst (fs.map<|o6 pts))=.ok ((CI pts fs).map (o6 pts)):=by show(if _ then _ else _)=_;rw[if_pos ⟨aBC.mpr λd hd=>by obtain⟨f,_,rfl⟩:=aAo.mp hd;rfl,sF L.nd,ug⟩,eU]
  show L4 ((((R.ok<|D.lst<|fs.map<|o6 pts).bind ZM).bind λds=>R.ok (D.lst ds)).bind λd=>R.ok (Out.rt d))=_;rw[R.aa0,sf];rfl
end M
namespace M
open PySem L2 DL
theorem DY:∀{ds:List D},(∀d∈ds,∃v,d=vd v)->(ds.filterMap pZ).map vd=ds
 |[],_=>rfl
 |d::ds,h=>by obtain⟨v,rfl⟩:=h d (.head _);rw[List.filterMap_cons_some (mL v),aAy,DY λd hd=>h d (.tail _ hd)]
section
variable [Tabs]
def JW (pts:List G.V):∀d∈pts.map vd,X8 d=true:=λd hd=>by obtain⟨v,_,rfl⟩:=aAo.mp hd;rfl
def bG (pts:List G.V):Q9 (pts.map vd)=(d8 pts).map vd:=by unfold d8;refine(DY λd hd=>?_).symm;obtain⟨v,_,rfl⟩:=aAo.mp ((G8 (JW pts) d).mp hd);exact⟨v,rfl⟩
def F4 (pts:List G.V):(d8 pts).Pairwise λa b=>G.i7 (b-a):=WK (by rw[<-bG];exact U3 _)
def JV {v:G.V}{pts:List G.V}:vd v∈pts.map vd↔v∈pts:=by rw[aAo];exact⟨λ⟨u,hu,e⟩=>by rw[<-zG e];exact hu,λh=>⟨v,h,rfl⟩⟩
def x6 {pts:List G.V}{v:G.V}:v∈d8 pts↔v∈pts:=by rw[<-JV,<-bG,G8 (JW pts),JV]
def iT (pts:List G.V):(d8 pts).Nodup:=(F4 pts).imp λ{a b} h e=>by subst e;exact G.G3 h
def dU {a b:List G.V}(ha:a.Pairwise λa b=>G.i7 (b-a))(hb:b.Pairwise λa b=>G.i7 (b-a))(h:∀v,v∈a↔v∈b):a=b:=by refine QQ (dH (BC ha) (BC hb) λd=>?_);rw[aAo,aAo];exact⟨λ⟨v,hv,e⟩=>⟨v,(h v).mp hv,e⟩,λ⟨v,hv,e⟩=>⟨v,(h v).mpr hv,e⟩⟩
def KD (h:(d8 pts).length<=63):ZF (.lst (pts.map vd))=.ok ((d8 pts).map vd):=by show(if _ then _ else _)=_;rw[if_pos ⟨OI pts,by rw[bG,aAk];exact h⟩,bG]
def qV (h:G.l4 a)(hm:∀v,v∈a->v∈b):G.l4 b:=by obtain⟨A,hA,B,hB,C,hC,D,hD,e⟩:=h;exact⟨A,hm A hA,B,hm B hB,C,hm C hC,D,hm D hD,e⟩
def VO (h:G.l4 pts):G.T5 pts=3:=by
 by_cases e:G.T5 pts=3
 ·exact e
 ·exact absurd h (G.MI e)
def zZ (pts:List G.V):(d8 pts).length<=pts.length:=G.O5 (iT pts) λv hv=>x6.mp hv
def X7 (hs:W8 900 pts)(hd:G.l4 pts)(hl:(d8 pts).length<=63):∃m r,d8 pts=m::r/\Land (m::r) m:=by
 have sd:G.l4 (d8 pts):=qV hd λv hv=>x6.mpr hv;cases e:d8 pts with
 |nil=>rw[e]at sd;obtain⟨A,hA,_⟩:=sd;cases hA
 |cons m r=>
  refine⟨m,r,rfl,?_⟩;have so:=F4 pts;rw[e]at sd hl so;refine⟨⟨sd,so,.head _,λX hX=>?_⟩,⟨λP hP=>hs.1 P (x6.mp (by rw[e];exact hP)),by lia⟩,hl,rfl⟩;rcases aAd.mp hX with h|h
  ·exact .inl h
  ·exact .inr ((aAA.mp so).1 X h)
def QN (h1:W8 1000 pts)(h2:G.l4 pts):D4 [.lst (pts.map vd)]=.ok .non:=by simp only[D4,u3];exact if_pos ⟨h1,VO h2⟩
def ZT (h:Land (m::pts) m):G1 [.lst ((m::pts).map vd)]=.ok (F9 (G.e9 m (m::pts))):=by simp only[G1,u3];exact if_pos h
def VU (h:Land (m::pts) m)(qi:(m::pts).length<=14):G0 (F9 (G.e9 m (m::pts))) (J2 [.lst ((m::pts).map vd)]) (C5 [.lst ((m::pts).map vd)])=.ok (.lst ((k7 (m::pts)).map (o6 (m::pts)))):=by simp only[G0,show J2 [.lst ((m::pts).map vd)] [.non]=.ok (.lst ((m::pts).map vd))from rfl,u3];exact if_pos ⟨h,qi,rfl,rfl,rfl⟩
def JU (h1:W8 900 pts)(h2:G.l4 pts)(h3:(d8 pts).length<=14):U6 [.lst (pts.map vd)]=.ok (.lst ((k7 (d8 pts)).map (o6 (d8 pts)))):=by simp only[U6,u3];exact if_pos ⟨h1,h2,h3⟩
omit [Tabs]in
theorem YX {α:Type}:∀l:List α,∃l':List α,l'.Nodup/\∀x,x∈l'↔x∈l
 |[]=>⟨[],aDb,λ_=>Iff.rfl⟩
 |a::l=>by
  obtain⟨l',nd,h⟩:=YX l;by_cases ha:a∈l
  ·exact⟨l',nd,λx=>by rw[h,aAd];exact⟨.inr,λq=>q.elim (λe=>by rw[e];exact ha) id⟩⟩
  ·exact⟨a::l',aAG.mpr ⟨λz=>ha ((h a).mp z),nd⟩,λx=>by rw[aAd,aAd,h]⟩
def F1 (h:Land pts m)(qi:pts.length<=14):cW pts (k7 pts):=by
 classical
 obtain⟨fs,nd,zl⟩:=YX ((G.cands pts).filter λf=>decide (G.IsFace pts f.1 f.2));have hm:∀n d,(n,d)∈fs↔G.IsFace pts n d:=λn d=>by
  rw[zl,aCz];constructor
  ·intro q;exact of_decide_eq_true q.2
  ·intro q;refine⟨?_,decide_eq_true q⟩;obtain⟨A,hA,B,hB,C,hC,_,e⟩:=G.jK q;unfold G.cands;rw[<-e];exact aBt.mpr ⟨A,hA,aBt.mpr ⟨B,hB,aAo.mpr ⟨C,hC,rfl⟩⟩⟩
 have FL:=sD nd hm;rw[nK FL];exact FL
def nP (ho:pts.Pairwise λa b=>G.i7 (b-a))(hf:G.IsFace pts f.1 f.2)(h:X∈G.o9 pts f):X∈pts:=(G.d6.mp<|(hf.aa2 ho).aa3 h).1
def wU (h1:W8 900 pts)(h2:G.l4 pts)(h3:(d8 pts).length<=14)(h:X∈A2 pts):X∈pts:=by obtain⟨m,r,e,L⟩:=X7 h1 h2 (by lia);unfold A2 at h;rw[x6,aBt]at h;obtain⟨f,hf,hX⟩:=h;rw[e]at hf hX h3;have FL:=F1 L h3;have:=nP L.good.ord ((FL.1 f).mp hf) hX;rw[<-e,x6]at this;exact this
def GI (L:Land pts m)(qi:pts.length<=14):((k7 pts).flatMap (G.o9 pts)).length<=200/\(d8 ((k7 pts).flatMap (G.o9 pts))).length<=14:=by
 have FL:=F1 L qi;have nd:=M2 (V9 FL.2);have few:=G.aH L.good.solid L.good.ord nd λf hf=>(FL.1 f).mp hf;have nn:pts.length*pts.length<=14*14:=aDZ qi qi;constructor
 ·rw[List.length_flatMap]
  lia
 ·refine aAr (G.O5 (iT _) λv hv=>?_) qi;rw[x6,aBt]at hv;obtain⟨f,hf,hX⟩:=hv;exact nP L.good.ord ((FL.1 f).mp hf) hX
end
end M
namespace M
open PySem L2 DL
def I0 (h:0<b):M9 (.int a) (.int b)=.ok (.int (a.fmod b)):=oB (by omega)
def kO (h:0<b)(h2:b<1000000000000000):M6 (.int a) (.int b)=.ok (.int (a.fdiv b)):=T8 ⟨by omega,n9 (K5 (n:=60) (by omega) (by omega))⟩
def aY {a b:Int}(h:0<b):0<=a.fmod b/\a.fmod b<b:=by have f:=PyProof.Rows.fdiv_fmod_facts a b;have g:=f.2.2.1 h;omega
def J0 (h1:r=.ok (.nx ρ))(h2:L4 (F ρ)=x):L4 (C3 r F)=x:=by rw[h1];exact h2
def gQ (h1:r=.ok (.rt d)):L4 (C3 r F)=.ok d:=by rw[h1];rfl
def aj {n:Nat}(h:n<=1000000):dZ [.int (n:Int)]=.ok ((aBu n).map λ(k:Nat)=>D.int (k:Int)):=by
 show(if oP 0 (n:Int) 1 then R.ok (tR 0 1<|fW 0 n 1)else R.bad)=_;rw[if_pos ⟨by decide,by decide,by decide,by decide,by omega,by omega⟩];have e:fW 0 (n:Int) 1=n:=by
  unfold fW;split
  ·simp
  ·omega
 rw[e];unfold tR;congr 1;refine aDF λk _=>?_;simp
end M
namespace DL
open PySem PySem.Spec L2
open PyProof.Rows hiding St
variable [Tabs]
section
variable{P:Program} {w:World} {K:PySem.W.Frag} {mg:cF} {base:Heap}
end
section
variable{X:Cx} {E:XK} {st:Stmt} {rest:List Stmt} {F:Ev->R Out} {G Ga Gb:Ev->Option Value} {pos:Pos}
end
section
variable{K:PySem.W.Frag} {h:Heap} {C:Addr} {bmB:List Value} {newId:String}
end
section
variable{X:Cx} {E:XK} {pos bo np:Pos} {x:Str} {C:Addr} {bmB:List Value} {B newId initId:String}
end
end DL
namespace DL
open PySem PySem.Spec PySem.Calls PySem.W Builtin Builtin.ObjectAttr Builtin.Getset_descriptor
open PyProof.Rows hiding St
section
variable{prog:Program} {w:World} {A:Around} {E:C8} {K:Frag} {h:Heap} {g:Array GenState} {d:Drawn} {t:Nat} {os:OsState} {a C:Addr} {o:Obj}
end
end DL
namespace DL
open PySem PySem.Spec L2
open PyProof.Rows hiding St
variable [Tabs]
section
variable{X:Cx} {pos:Pos}
end
section
variable{X:Cx} {pins:N5} {σ:St} {H H':Hp} {s s':Shared}
end
section
variable{K:PySem.W.Frag} {H9 H:Hp} {O0 O:Addr->Prop} {σ:St} {ρ:Ev}
end
section
variable{X:Cx} {pos rf np:Pos}
end
section
variable{X:Cx} {pos:Pos}
end
section
variable{X:Cx} {pos:Pos}
end
section
def ZL {xs es:List Expr}{p:Pos}{env:Env}:starEach (.List xs p::es) env=(false,eval (.List xs p) env)::starEach es env:=rfl
def YS {xs:List Expr}{p:Pos}{t:Option Expr}{l:Nat}{env:Env}:swapsWith (Expr.List xs p) t l env=pure false:=rfl
end
section
end
section
end
end DL
namespace G
end G
namespace M
open PySem L2 DL
variable [Tabs]
end M
namespace G
section
variable{pts c:List V} (hs:l4 pts) (ho:pts.Pairwise (λa b=>i7 (b-a))) (dg:c.Pairwise (λa b=>i7 (b-a))) (hc:∀X,X∈c↔∃f:V×Int,IsFace pts f.1 f.2/\X∈o9 pts f)
include hs ho dg hc
theorem VC (h:X∈c):X∈pts:=by obtain⟨f,hf,hX⟩:=(hc X).mp h;exact(d6.mp<|(hf.aa2 ho).aa3 hX).1
theorem kU (hf:IsFace pts n d)(h:X∈o9 pts (n,d)):X∈y6 n d c:=by have h2:=(d6.mp<|(hf.aa2 ho).aa3 h).2;exact d6.mpr ⟨(hc X).mpr ⟨(n,d),hf,h⟩,h2⟩
theorem XD (h:X∈y6 n d c):X∈y6 n d pts:=d6.mpr ⟨VC hs ho dg hc (d6.mp h).1,(d6.mp h).2⟩
theorem kH (hf:IsFace pts n d):IsFace c n d:=by
 have S:=hf.aa2 ho;obtain⟨r,s,t,l,e⟩:=V7 ho hf;have hr:r∈k9 n (y6 n d pts):=by rw[e];simp
 have ji:s∈k9 n (y6 n d pts):=by rw[e];simp
 have ht:t∈k9 n (y6 n d pts):=by rw[e];simp
 have nd:=S.aa4;rw[e]at nd;simp only[aAG,aAd,not_or]at nd;have ers:EdgeOf n (λX=>X∈y6 n d pts) r s:=S.aa1.mp (by rw[e];simp[T7]);have st:=S.strict ers ht (λq=>nd.1.2.1 q.symm) (λq=>nd.2.1.1 q.symm);have k:=λ{X} (h:X∈k9 n (y6 n d pts))=>kU hs ho dg hc hf (X:=X) h;refine⟨hf.prim,λX hX=>hf.sup X (VC hs ho dg hc hX),r,(d6.mp<|k hr).1,s,(d6.mp<|k ji).1,t,(d6.mp<|k ht).1,(d6.mp<|k hr).2,(d6.mp<|k ji).2,(d6.mp<|k ht).2,λq=>?_⟩;unfold i8 at st;rw[q,L9]at st
 lia
theorem uA (hf:IsFace pts n d)(h:EdgeOf n (λX=>X∈y6 n d pts) a b):EdgeOf n (λX=>X∈y6 n d c) a b:=by have S:=hf.aa2 ho;have m:=uF S (S.aa1.mpr h);exact⟨kU hs ho dg hc hf m.1,kU hs ho dg hc hf m.2,h.ne,λX hX=>h.left X (XD hs ho dg hc hX),λX hX=>h.btw X (XD hs ho dg hc hX)⟩
omit hs ho dg hc in
theorem nH {R:V->Prop}{E:List (V×V)}(hR:∀a b,R a->(a,b)∈E->R b):∀(x:V) (l:List V),R x->(∀e∈t8 (x::l),e∈E)->∀X∈x::l,R X
 |x,[],hx,_,X,hX=>by rw[aBm.mp hX];exact hx
 |x,y::l,hx,h,X,hX=>by
  have hy:=hR x y hx (h (x,y) (by simp[t8]));rcases aAd.mp hX with rfl|hX
  ·exact hx
  ·exact nH hR y l hy (λe he=>h e (by simp only[t8,aAd];exact .inr he)) X hX
theorem AG (hf:IsFace pts n d)(h:X∈k9 n (y6 n d c)):X∈k9 n (y6 n d pts):=by
 have S:=hf.aa2 ho;have S2:=(kH hs ho dg hc hf).aa2 dg;obtain⟨m,r,e,hm,hl⟩:=S2.ab4;obtain⟨m',r',e',hm',ie⟩:=S.ab4;have mm:m=m':=by
  have h1:m'∈y6 n d c:=kU hs ho dg hc hf (show m'∈k9 n (y6 n d pts)by rw[e'];simp);rcases hl m' h1 with q|q
  ·exact q.symm
  ·rcases ie m (XD hs ho dg hc hm)with q'|q'
   ·exact q'
   ·exact absurd (y8.add q q') (by
     have:(m'-m)+(m-m')=0:=by apply ext<;>simp<;>lia
     rw[this];exactλz=>by simp[i7]at z)
 have step:∀a b,a∈k9 n (y6 n d pts)->(a,b)∈T7 (k9 n<|y6 n d c)->b∈k9 n (y6 n d pts):=λa b ha hab=>by obtain⟨b',jb⟩:=bF S ha;have e1:=S2.aa1.mp hab;have e2:=uA hs ho dg hc hf (S.aa1.mp jb);rw[e1.next e2];exact(uF S jb).2
 rw[e]at h;refine nH (E:=T7 (k9 n<|y6 n d c)) (R:=λX=>X∈k9 n (y6 n d pts)) step m r (by rw[mm,e'];simp) (λf hf'=>?_) X h;rw[e,V1];exact gI r m m f hf'
theorem xR (hf:IsFace pts n d)(h:EdgeOf n (λX=>X∈y6 n d c) a b):EdgeOf n (λX=>X∈y6 n d pts) a b:=by have S:=hf.aa2 ho;have S2:=(kH hs ho dg hc hf).aa2 dg;have ha:=AG hs ho dg hc hf (S2.ac3 h);obtain⟨b',jb⟩:=bF S ha;have e:=S.aa1.mp jb;rw[h.next (uA hs ho dg hc hf e)];exact e
theorem EW (hf:IsFace pts n d):l4 c:=by
 have S:=hf.aa2 ho;obtain⟨r,s,t,l,e⟩:=V7 ho hf;have hr:r∈k9 n (y6 n d pts):=by rw[e];simp
 have ht:t∈k9 n (y6 n d pts):=by rw[e];simp
 have nd:=S.aa4;rw[e]at nd;simp only[aAG,aAd,not_or]at nd;have ers:EdgeOf n (λX=>X∈y6 n d pts) r s:=S.aa1.mp (by rw[e];simp[T7]);have st:=S.strict ers ht (λq=>nd.1.2.1 q.symm) (λq=>nd.2.1.1 q.symm);obtain⟨hg,eg⟩:=jD hs ho hf ers;generalize(b7 s r pts).1=m at*
 generalize(b7 s r pts).2=f at*
 have T:=hg.aa2 ho;obtain⟨r2,s2,t2,l2,e2⟩:=V7 ho hg;have rh:=T.aa4;rw[e2]at rh;simp only[aAG,aAd,not_or]at rh;obtain⟨Y,hY,y1,y2⟩:∃Y∈k9 m (y6 m f pts),Y≠s/\Y≠r:=by
  have q1:r2∈k9 m (y6 m f pts):=by rw[e2];simp
  have q2:s2∈k9 m (y6 m f pts):=by rw[e2];simp
  have q3:t2∈k9 m (y6 m f pts):=by rw[e2];simp
  by_cases a1:r2≠s/\r2≠r
  ·exact⟨r2,q1,a1⟩
  ·by_cases a2:s2≠s/\s2≠r
   ·exact⟨s2,q2,a2⟩
   ·refine⟨t2,q3,λz=>?_,λz=>?_⟩
    ·subst z;have h1:r2=r:=by
      by_cases h:r2=r
      ·exact h
      ·exact absurd ⟨rh.1.2.1,h⟩ a1
     have h2:s2=r:=by
      by_cases h:s2=r
      ·exact h
      ·exact absurd ⟨rh.2.1.1,h⟩ a2
     exact rh.1.1 (h1.trans h2.symm)
    ·subst z;have h1:r2=s:=by
      by_cases h:r2=s
      ·exact h
      ·exact absurd ⟨h,rh.1.2.1⟩ a1
     have h2:s2=s:=by
      by_cases h:s2=s
      ·exact h
      ·exact absurd ⟨h,rh.2.1.1⟩ a2
     exact rh.1.1 (h1.trans h2.symm)
 have sY:=T.strict eg hY y1 y2;have lt:=OA hs hg hf eg ers (T.aa3 hY) sY;have k:=λ{X} (h:X∈k9 n (y6 n d pts))=>kU hs ho dg hc hf (X:=X) h;have kY:=kU hs ho dg hc hg hY;have ji:s∈k9 n (y6 n d pts):=by rw[e];simp
 have dr:=(d6.mp<|k hr).2;have dss:=(d6.mp<|k ji).2;have dt:=(d6.mp<|k ht).2;refine⟨r,(d6.mp<|k hr).1,s,(d6.mp<|k ji).1,t,(d6.mp<|k ht).1,Y,(d6.mp kY).1,λz=>?_⟩;have p1:c8 n (s-r)=0:=by rw[d7];lia
 have p2:c8 n (t-r)=0:=by rw[d7];lia
 have pY:c8 n (Y-r)<0:=by rw[d7];lia
 have id:i8 (s-r) (t-r) (Y-r)*c8 n n=i8 n (s-r) (t-r)*c8 n (Y-r)+c8 n (s-r)*(c8 n (t-r)*0)+(c8 n (s-r)*i8 n (t-r) (Y-r)+c8 n (t-r)*i8 n (Y-r) (s-r)):=by generalize s-r=u;generalize t-r=v;generalize Y-r=w;have:=LA n n u v w;simp[i8,c8]at this⊢;grind
 rw[z,p1,p2]at id;have:i8 n (s-r) (t-r)*c8 n (Y-r)<0:=aBj st pY
 lia
theorem SY (fs:List (V×Int))(af:fs≠[])(zl:∀f,f∈fs↔IsFace pts f.1 f.2):IsFace c n d↔IsFace pts n d:=by
 refine⟨λh=>?_,kH hs ho dg hc⟩;obtain⟨f0,f0m⟩:=aEW fs af;have sc:=EW hs ho dg hc ((zl f0).mp f0m);have:=qS sc dg fs af (λf hf=>kH hs ho dg hc ((zl f).mp hf)) (λf hf a b hab=>?_) h
 ·exact(zl _).mp this
 ·have h1:=(zl f).mp hf;obtain⟨hg,eg⟩:=jD hs ho h1 (xR hs ho dg hc h1 hab);exact⟨b7 b a pts,(zl _).mpr hg,uA hs ho dg hc hg eg⟩
theorem MV (hX:X∈c):∃f:V×Int,IsFace c f.1 f.2/\X∈o9 c f:=by obtain⟨⟨n,d⟩,hf,h⟩:=(hc X).mp hX;have S:=hf.aa2 ho;obtain⟨Q,hQ⟩:=bF S h;exact⟨(n,d),kH hs ho dg hc hf,((kH hs ho dg hc hf).aa2 dg).ac3 (uA hs ho dg hc hf<|S.aa1.mp hQ)⟩
end
end G
namespace M
open PySem L2 DL
variable [Tabs]
def oV {pts:List G.V}(h1:W8 900 pts)(h2:G.l4 pts)(h3:(d8 pts).length<=14):∀X,X∈A2 pts↔∃f:G.V×Int,G.IsFace (d8 pts) f.1 f.2/\X∈G.o9 (d8 pts) f:=λX=>by obtain⟨m,r,e,L⟩:=X7 h1 h2 (by lia);unfold A2;rw[x6,aBt];rw[e]at h3⊢;have FL:=F1 L h3;exact⟨λ⟨f,hf,hX⟩=>⟨f,(FL.1 f).mp hf,hX⟩,λ⟨f,hf,hX⟩=>⟨f,(FL.1 f).mpr hf,hX⟩⟩
def wT {l:List G.V}(h:l.Pairwise λa b=>G.i7 (b-a)):d8 l=l:=dU (F4 _) h λv=>x6
def sI {pts:List G.V}(h1:W8 900 pts)(h2:G.l4 pts)(h3:(d8 pts).length<=14):G.l4 (A2 pts)/\W8 900 (A2 pts)/\d8 (A2 pts)=A2 pts/\(A2 pts).length<=14/\A2 (A2 pts)=A2 pts/\∀n d,G.IsFace (A2 pts) n d↔G.IsFace (d8 pts) n d:=by
 have hc:=oV h1 h2 h3;have dg:(A2 pts).Pairwise λa b=>G.i7 (b-a):=F4 _;have hs:G.l4 (d8 pts):=qV h2 λv hv=>x6.mpr hv;have ho:=F4 pts;obtain⟨m,r,e,L⟩:=X7 h1 h2 (by lia);have FL:cW (d8 pts) (k7<|d8 pts):=by have qr:=h3;rw[e]at qr⊢;exact F1 L qr
 have fl:(A2 pts).length<=14:=by have qr:=h3;unfold A2;rw[e]at qr⊢;exact(GI L qr).2
 have af:k7 (d8 pts)≠[]:=λz=>by
  obtain⟨A,hA,_⟩:=hs;have:∃f:G.V×Int,G.IsFace (d8 pts) f.1 f.2:=by have L':=L;rw[<-e]at L';have:=G.gA L'.good.solid L'.good.ord L'.good.mem L'.good.least;exact⟨_,this⟩
  obtain⟨f,hf⟩:=this;have:=(FL.1 f).mpr hf;rw[z]at this;cases this
 obtain⟨f0,hf0⟩:=aEW _ af;have sc:=G.EW hs ho dg hc ((FL.1 f0).mp hf0);have sz:W8 900 (A2 pts):=⟨λP hP=>h1.1 P (wU h1 h2 h3 hP),by lia⟩;have ss:=wT dg;refine⟨sc,sz,ss,fl,?_,λn d=>G.SY hs ho dg hc _ af FL.1⟩;refine dU (F4 _) dg λv=>?_;have bm:=oV sz sc (by rw[ss];exact fl) v;show v∈A2 (A2 pts)↔_;rw[bm,ss];constructor
 ·rintro⟨f,hf,hv⟩;exact nP dg hf hv
 ·exactλhv=>G.MV hs ho dg hc hv
end M
namespace M
open PySem L2 DL
end M
namespace DL
open PySem PySem.Spec L2
def OY {K:Params->PySem.W.Frag}{P c:Addr}{tb:List (Pos×Str)}{ts:List Addr}(h1:P∈ts)(h2:∀w:World,PySem.W.codeHdIn (K w.params) c P=true):∀p∈[(P,tb)],p.1∈ts/\∃c,∀w:World,PySem.W.codeHdIn (K w.params) c p.1=true:=λp hp=>by rw[aBm.mp hp];exact⟨h1,c,h2⟩
end DL
namespace DL
open PySem PySem.Spec L2
def Got (K:PySem.W.Frag)(x:Str)(st:Stmt):Prop:=∃f fd,PySem.W.nsIn K mainGlobals x=some (some<|.ref f)/\Fun K x x st f fd
def SN (K:PySem.W.Frag)(x:Str)(st:Stmt)(Pt:Addr):Prop:=∃f fd cd,PySem.W.nsIn K mainGlobals x=some (some<|.ref f)/\PySem.W.codeHdIn K cd Pt=true/\FunC K x x st f fd cd
def cR (K:PySem.W.Frag)(mg:cF)(x:Str)(st:Stmt):Prop:=∃f fd,mg x=some (.ref f)/\Fun K x x st f fd
def ZY (K:PySem.W.Frag)(mg:cF)(x:Str)(st:Stmt)(Pt:Addr):Prop:=∃f fd cd,mg x=some (.ref f)/\PySem.W.codeHdIn K cd Pt=true/\FunC K x x st f fd cd
section
variable{kV doc pm cdv ct:Value}
def YE (a:PySem.W.nsIn K mainGlobals x=some (some (.ref f)))(l:K.lookup f=some ⟨oc,od,.func (PySem.W.fnOf x x (D7 st) (u5 st) (c7 st) .none kV doc pm an cdv ct),osl⟩)
 (c:PySem.W.codeIn K cdv x=true) (k:PySem.W.keepIn K (.ref f)=true):Got K x st:=⟨f,_,a,LS l c k⟩
def OW (a:PySem.W.nsIn K mainGlobals x=some (some (.ref f)))(l:K.lookup f=some ⟨oc,od,.func (PySem.W.fnOf x x (D7 st) (u5 st) (c7 st) .none kV doc pm an cdv ct),osl⟩)
 (c:PySem.W.codeIn K cdv x=true) (k:PySem.W.keepIn K (.ref f)=true) (e:cdv=.ref cd) (n:PySem.W.codeHdIn K cd Pt=true):SN K x st Pt:=⟨f,_,cd,a,n,OX l e c k⟩
def Got.def (g:Got K x st)(X:K.In h)(G:h.Ns mainGlobals mg):cR K mg x st:=let⟨f,fd,a,b⟩:=g;⟨f,fd,PySem.W.mg_of X G a,b⟩
def SN.def (g:SN K x st Pt)(X:K.In h)(G:h.Ns mainGlobals mg):ZY K mg x st Pt:=let⟨f,fd,cd,a,b⟩:=g;⟨f,fd,cd,PySem.W.mg_of X G a,b⟩
def E8 (h1:sc.kind=.function:=by rfl)(h2:sc.isCoroutine=false:=by rfl)(h3:sc.isGenerator=false:=by rfl)(h4:N.Nodup:=by decide+kernel)(h5:N.take ps.length=ps:=by rfl)(h6:∀x∈ps,sc.names.lookup x=some .local\/sc.names.lookup x=some .cell:=by decide+kernel)(h7:∀y∈sc.names,y.2≠.free:=by decide+kernel):FnScope N ps sc:=⟨h1,h2,h3,h4,h5,h6,h7⟩
variable [Tabs]
def n6 (g:cR K mg x st)(S:FnScope N ps (c7 st))(hb:∀{f:Addr} {cdv:Value} {A:Around} {outer:List Env} {s:Shared} {H:Hp} {E:XK},Room k (A.deeper (aEB x (c7 st) s.heap.objs.size f cdv))->(A.deeper (aEB x (c7 st) s.heap.objs.size f cdv)).units+64<cLine->(A.deeper (aEB x (c7 st) s.heap.objs.size f cdv)).units+130<cLine->N.Nodup->
  bZ (TC P w K mg base N x (c7 st) f cdv A outer s H E) (u5 st) F) (hm:∀ds d,ds.length=ps.length->m ds=.ok d->L4 (F (j5 N ds))=.ok d) (hb0:∀(kV doc pm:Value) (an:Option Addr) (cdv ct:Value) (us:List Value),us.length=ps.length->bindArgs (PySem.W.fnOf x x (D7 st) (u5 st) (c7 st) .none kV doc pm an cdv ct) ⟨us,[]⟩=pure (ps.zip us):=by
  intro _ _ _ _ _ _ us hl;rcases us with _|⟨_,_|⟨_,_|⟨_,_|⟨_,_|⟨_,_|⟨_,_|⟨_,_⟩⟩⟩⟩⟩⟩⟩<;>first|rfl|exact absurd hl (by simp)):v5 P w K mg base (k+1) x ps.length m:=by
 obtain⟨f,fd,nv,F0⟩:=g;exact WG F0 S (F0.binds hb0) nv (λcdv A outer s H E hr=>hb hr hr.units hr.ae7 S.nd) hm
end
end DL
namespace DL
open PySem L2
variable [Tabs]
end DL
namespace M
open PySem L2 DL
variable [Tabs]
def RH (h:E6 d<=40):HD d d=.ok (.bl false):=by unfold HD;rw[if_pos ⟨h,h⟩,V0];rfl
end M
namespace M
open PySem L2 DL
variable [Tabs]
def yA (k:Int):Int:=6*k*k+5*k+8
def X5:List D->R D
 |[.lst xs,.int k]=>if 0<=k/\k<=1000 then .ok (rD yA xs k)else .bad
 |_=>.bad
def cJ (xs:List D)(k:Int):Int:=match rD yA xs k with
 |.int i=>i
 |_=>0
def FA (hi:M1 1048576 xs)(k:Int)(h0:0<=k)(h1:k<=100):X5 [.lst xs,.int k]=.ok (.int (cJ xs k))/\bits (cJ xs k)<=2000000:=by
 obtain⟨c,e,hb⟩:=GY hi yA k;have ec:cJ xs k=c:=by unfold cJ;rw[e]
 rw[ec];refine⟨(if_pos ⟨h0,by lia⟩).trans (congrArg R.ok e),?_⟩;rcases hb with hb|rfl
 ·exact n9 hb
 ·unfold yA;have k2:0<=k*k:=aBK h0 h0;have k3:k*k<=100*100:=Int.mul_le_mul h1 h1 h0 (by decide);rw[aFl];exact f7 (K5 (n:=30) (by lia) (by lia)) (by decide)
def dw (c w:Int):G.V:=⟨c.fmod w-w.fdiv 2,(c.fdiv w).fmod w-w.fdiv 2,(c.fdiv<|w*w).fmod w-w.fdiv 2⟩
def oj (c:Int)(at_ j:Nat):Int:=(c.fdiv<|5+7*(at_:Int)+(j:Int)).fmod 5-2
def YB (P:G.V)(t:Int)(w:G.V):G.V:=⟨P.x+t*w.x,P.y+t*w.y,P.z+t*w.z⟩
def ptA (c:Int)(b:G.V)(ws:List G.V)(at_:Nat):G.V:=match ws with
 |[]=>b
 |[u]=>YB b (oj c at_ 0) u
 |u::v::_=>YB (YB b (oj c at_ 0) u) (oj c at_ 1) v
def ZQ (c:Int)(b:G.V)(ws:List G.V)(n:Nat):List G.V:=(aBu n).map (ptA c b ws)
structure Drawn (pts:List G.V):Prop where
 ne:pts≠[]
 len:pts.length<=40
 sz:∀P∈pts,Sz 100 P
 flat:¬G.l4 pts
end M
namespace G
def XZ {Pos:V->Prop}(C:Cone Pos){n m p v q u:V}(hn:n≠0)(pp:c8 n p=0)(pv:c8 n v=0)(pq:c8 n q=0)(pu:c8 n u=0)(cp:Pos p)(cv:Pos v)(cq:Pos q)(cu:Pos u)(mp:0<c8 m p)(mv:c8 m v<0)(mq:0<c8 m q)(mu:c8 m u<0)(hA:0<=i8 n v p)(hB:0<=i8 n q u):False:=by
 have id:∀{a b c:V},c8 n a=0->c8 n b=0->c8 n c=0->i8 n a b*c8 m c+i8 n b c*c8 m a+i8 n c a*c8 m b=0:=λ{a b c} ha hb hc=>by have:=LA m n a b c;rw[y3 hn ha hb hc,Int.zero_mul]at this;exact this
 have i1:=id pv pp pq;have i2:=id pq pu pv;rcases aDo 0 (i8 n q v)with h|h
 ·
  have h1:=C.tr cq cv cp (y3 hn pq pv pp) h hA;have e1:i8 n p q=-i8 n q p:=j8 n q p;rw[e1]at i1;have a1:0<=i8 n v p*c8 m q:=aBK hA (aAW mq);have a2:0< -i8 n q p*c8 m v:=by have:=aAU h1 (show 0< -c8 m v by lia);grind
  have a3:0<i8 n q v*c8 m p:=aAU h mp
  lia
 ·rcases aDo (i8 n q v) 0 with h'|h'
  ·have e0:i8 n v q=-i8 n q v:=j8 n q v;have h0:0<i8 n v q:=by lia
   have h1:=C.tr cv cq cu (y3 hn pv pq pu) h0 hB;have e1:i8 n u v=-i8 n v u:=j8 n v u;rw[e1]at i2;have a1:i8 n q u*c8 m v<=0:=by have:=aBK hB (show 0<=-c8 m v by lia);grind
   have a2:-i8 n v u*c8 m q<0:=by have:=aAU h1 mq;grind
   have a3:i8 n v q*c8 m u<0:=by have:=aAU h0 (show 0< -c8 m u by lia);grind
   lia
  ·have z:i8 n q v=0:=by lia
   have c0:=U8 hn pq pv z;have e:c8 m q*v+(-c8 m v)*q=0:=by have hx:=congrArg V.x c0;have hy:=congrArg V.y c0;have hz:=congrArg V.z c0;simp at hx hy hz;apply ext<;>simp[c8]<;>grind
   have:=C.add (C.mul mq cv) (C.mul (show 0< -c8 m v by lia) cq);rw[e]at this;exact C.irr this
section
variable{n:V} {ts:List V} (S:Sheet n ts)
include S
theorem Sheet.ac6 (h:X∈w8 n ts\/X∈w8 n ts.reverse):X∈k9 n ts:=by
 obtain⟨m,M,c,d,hm,hM,mM,lm,lM,e1,e2,h3,h4,hc,hd⟩:=S.ends;unfold k9;rw[aAP,e1,e2,aAH,aAH,aBl,aBl,aCr,aCr];rw[e1,e2]at h;have mne:m≠M:=λz=>by subst z;exact G3 mM
 rcases h with h|h
 ·rcases aAd.mp h with rfl|h
  ·right;have:=aCN h4;rcases aAd.mp this with z|z
   ·exact absurd z.symm mne
   ·exact z
  ·exact .inl h
 ·rcases aAd.mp h with rfl|h
  ·left;have:=aCN h3;rcases aAd.mp this with z|z
   ·exact absurd z mne
   ·exact z
  ·exact .inr h
theorem Sheet.top (hX:X∈ts)(h:∀Y∈ts,Y≠X->c8 m Y<c8 m X):X∈k9 n ts:=by
 obtain⟨o1,n1,t1⟩:=S.ab0;obtain⟨o2,n2,t2⟩:=S.ab1;have as1:∀u,i7 u->i7 (-u)->False:=λu h1 h2=>by have:=y8.add h1 h2;have e0:u+-u=0:=ext (by simp;lia) (by simp;lia) (by simp;lia);rw[e0]at this;exact y8.irr this
 have as2:∀u,M0 u->M0 (-u)->False:=λu h1 h2=>by have:=aK.add h1 h2;have e0:u+-u=0:=ext (by simp;lia) (by simp;lia) (by simp;lia);rw[e0]at this;exact aK.irr this
 rcases oZ X (w8 n ts) (λY _=>P8 X Y) (λq hq=>t1 X q hq hX) (λz hz=>o1.last X hX z hz) n1 as1 with hc|⟨a,b,hab,ha,hb⟩
 ·exact S.ac6 (.inl hc)
 ·rcases oZ X (w8 n ts.reverse) (λY _=>by
    rcases P8 X Y with z|z|z
    ·exact .inl z
    ·exact .inr (.inr (q8.mpr z))
    ·exact .inr (.inl (q8.mpr z))) (λq hq=>t2 X q hq hX) (λz hz=>o2.last X hX z hz) n2 as2 with hc|⟨a',b',hab',ha',jb⟩
  ·exact S.ac6 (.inr hc)
  ·exfalso;have m1:=L0 S hab;have m2:=L0 S hab';have ta:=o1.mem _ m1.1;have tb:=o1.mem _ m1.2;have ta':=o2.mem _ m2.1;have tb':=o2.mem _ m2.2;have E1:=(S.ae2 hab ta tb).1.left X hX;have E2:=(S.ad6 hab' ta' tb').1.left X hX;have ha2:=q8.mp ha';have ya:=q8.mp jb;have ne:∀{Y},i7 (X-Y)->Y≠X:=λhh z=>by subst z;exact G3 hh
   have ne':∀{Y},i7 (Y-X)->Y≠X:=λhh z=>by subst z;exact G3 hh
   have va:=h a ta (ne ha);have vb:=h b tb (ne' hb);have va':=h a' ta' (ne' ha2);have vb':=h b' tb' (ne ya);refine XZ y8 (n:=n) (m:=m) (p:=X-a) (v:=b-X) (q:=X-b') (u:=a'-X) S.nz (S.pl _ hX _ ta) (S.pl _ tb _ hX) (S.pl _ hX _ tb') (S.pl _ ta' _ hX) ha hb ya ha2 (by rw[d7];lia) (by rw[d7];lia) (by rw[d7];lia) (by rw[d7];lia) ?_ ?_
   ·have e:i8 n (b-a) (X-a)=i8 n (b-X) (X-a):=by simp[i8,c8];grind
    rw[<-e];exact E1
   ·have e:i8 n (b'-a') (X-a')=i8 n (X-b') (a'-X):=by simp[i8,c8];grind
    rw[<-e];exact E2
end
section
variable{pts:List V} (hs:l4 pts)
include hs
theorem jO (hf:IsFace pts n d)(hg:IsFace pts m e)(hX:c8 n X=d)(ni:c8 m X=e)(h:cr m n=0):(n,d)=(m,e):=by
 obtain⟨k,l,hk,e1⟩:=A3 hg.prim.ne h;obtain⟨Z,hZ,hz⟩:=hs.below hf.prim.ne hf.sup;have hl:0<l:=by
  have q:=congrArg (λv=>c8 v (Z-X)) e1;rw[G6,G6]at q;have q1:c8 n (Z-X)<0:=by rw[d7];lia
  have q2:c8 m (Z-X)<=0:=by rw[d7];have:=hg.sup Z hZ;lia
  have q3:k*c8 n (Z-X)<0:=aBj hk q1;by_cases z:0<l
  ·exact z
  ·exfalso;have:0<=l*c8 m (Z-X):=by
    have:=aBK (show 0<=-l by lia) (show 0<=-c8 m (Z-X)by lia)
    rwa [aDl]at this
   lia
 have e2:=mJ hf.prim hg.prim hk hl e1;subst e2;rw[<-hX,<-ni]
theorem CH {a b c:Int}(hf:IsFace pts n d)(hg:IsFace pts m e)(hk:IsFace pts k f)(hX:c8 n X=d)(ni:c8 m X=e)(hX2:c8 k X=f)(hc:0<c)(ha:0<a)(hb:0<b)(h:c*k=a*n+b*m)(hp:cr n m≠0):False:=by
 obtain⟨A,hA,B,hB,C,hC,dA,dB,dC,hcr⟩:=hk.three;have on:∀Y∈pts,c8 k Y=f->c8 n Y=d/\c8 m Y=e:=λY hY hy=>by
  have h1:=hf.sup Y hY;have h2:=hg.sup Y hY;have q:=congrArg (λv=>c8 v (Y-X)) h;have q:c*c8 k (Y-X)=a*c8 n (Y-X)+b*c8 m (Y-X):=by
   have e1:c8 (c*k) (Y-X)=c*c8 k (Y-X):=G6 ..;have e2:c8 (a*n+b*m) (Y-X)=a*c8 n (Y-X)+b*c8 m (Y-X):=by simp[c8];grind
   rw[<-e1,<-e2];exact q
  have k0:c8 k (Y-X)=0:=by rw[d7];lia
  rw[k0,aEh]at q;have n0:c8 n (Y-X)<=0:=by rw[d7];lia
  have m0:c8 m (Y-X)<=0:=by rw[d7];lia
  have a0:a*c8 n (Y-X)<=0:=aDK (aAW ha) n0;have b0:b*c8 m (Y-X)<=0:=aDK (aAW hb) m0;have z1:a*c8 n (Y-X)=0:=by lia
  have z2:b*c8 m (Y-X)=0:=by lia
  have y1:c8 n (Y-X)=0:=by rcases aAu.mp z1 with z|z;lia;exact z
  have y2:c8 m (Y-X)=0:=by rcases aAu.mp z2 with z|z;lia;exact z
  rw[d7]at y1 y2;exact⟨by lia,by lia⟩
 obtain⟨a1,a2⟩:=on A hA dA;obtain⟨b1,b2⟩:=on B hB dB;obtain⟨c1,c2⟩:=on C hC dC;have p1:cr n (cr (B-A)<|C-A)=0:=J8 (by rw[d7];lia) (by rw[d7];lia);have p2:cr m (cr (B-A)<|C-A)=0:=J8 (by rw[d7];lia) (by rw[d7];lia);exact hp (nB hcr p1 p2)
theorem GT (h1:IsFace pts n d)(h2:IsFace pts m e)(h3:IsFace pts k f)(x1:c8 n X=d)(x2:c8 m X=e)(x3:c8 k X=f)(n12:(n,d)≠(m,e))(n13:(n,d)≠(k,f))(n23:(m,e)≠(k,f)):i8 n m k≠0:=λz=>by
 have p12:cr n m≠0:=λq=>n12 (jO hs h2 h1 x2 x1 q).symm;have p13:cr n k≠0:=λq=>n13 (jO hs h3 h1 x3 x1 q).symm;have p23:cr m k≠0:=λq=>n23 (jO hs h3 h2 x3 x2 q).symm;have swap:∀{u v:V},cr u v≠0->cr v u≠0:=λ{u v} h q=>h (by have hx:=congrArg V.x q;have hy:=congrArg V.y q;have hz:=congrArg V.z q;simp at hx hy hz;apply ext<;>simp<;>grind)
 obtain⟨w,ew⟩:∃w,w=cr n m:=⟨_,rfl⟩;have r:=CA w n m k;rw[z]at r;have bo:0<i8 w n m:=by
  have:i8 w n m=c8 w w:=by rw[ew];rfl
  rw[this,ew];exact y9 p12
 obtain⟨c,ec⟩:∃c,c=i8 w n m:=⟨_,rfl⟩;obtain⟨a,ea⟩:∃a,a=-i8 w m k:=⟨_,rfl⟩;obtain⟨b,eb⟩:∃b,b=-i8 w k n:=⟨_,rfl⟩;have r1:c*k=a*n+b*m:=by rw[ec,ea,eb];have hx:=congrArg V.x r;have hy:=congrArg V.y r;have hz:=congrArg V.z r;simp at hx hy hz;apply ext<;>simp<;>lia
 rw[<-ec]at bo;have vx:=congrArg V.x r1;have vy:=congrArg V.y r1;have vz:=congrArg V.z r1;simp at vx vy vz;have par0:∀{u v:V} {s t:Int},s≠0->s*u=t*v->cr u v=0:=λ{u v s t} ji h=>by
  have hx:=congrArg V.x h;have hy:=congrArg V.y h;have hz:=congrArg V.z h;simp at hx hy hz;have go:∀y:Int,s*y=0->y=0:=λy hy=>by rcases aAu.mp hy with q|q;exact absurd q ji;exact q
  apply ext<;>simp<;>apply go<;>grind
 rcases aDo 0 a with ha|ha
 ·rcases aDo 0 b with hb|hb
  ·exact CH hs h1 h2 h3 x1 x2 x3 bo ha hb r1 p12
  ·rcases aDo b 0 with jb|jb
   ·
    refine CH hs h3 h2 h1 x3 x2 x1 ha bo (show 0< -b by lia) (c:=a) (a:=c) (b:=-b) ?_ (swap p23);apply ext<;>simp<;>lia
   ·have b0:b=0:=by lia
    refine p13 (par0 (u:=n) (v:=k) (s:=a) (t:=c) (by lia) ?_);rw[b0]at vx vy vz;apply ext<;>simp<;>lia
 ·rcases aDo a 0 with ha'|ha'
  ·rcases aDo 0 b with hb|hb
   ·refine CH hs h3 h1 h2 x3 x1 x2 hb bo (show 0< -a by lia) (c:=b) (a:=c) (b:=-a) ?_ (swap p13);apply ext<;>simp<;>lia
   ·
    obtain⟨Z,hZ,hz⟩:=hs.below h3.prim.ne h3.sup;have q:c*c8 k (Z-X)=a*c8 n (Z-X)+b*c8 m (Z-X):=by simp[c8];grind
    have k0:c8 k (Z-X)<0:=by rw[d7];lia
    have n0:c8 n (Z-X)<=0:=by rw[d7];have:=h1.sup Z hZ;lia
    have m0:c8 m (Z-X)<=0:=by rw[d7];have:=h2.sup Z hZ;lia
    have t1:c*c8 k (Z-X)<0:=aBj bo k0;have t2:0<=a*c8 n (Z-X):=by
     have:=aBK (show 0<=-a by lia) (show 0<=-c8 n (Z-X)by lia)
     rwa [aDl]at this
    have t3:0<=b*c8 m (Z-X):=by
     have:=aBK (show 0<=-b by lia) (show 0<=-c8 m (Z-X)by lia)
     rwa [aDl]at this
    lia
  ·have a0:a=0:=by lia
   by_cases b0:b=0
   ·rw[a0,b0]at vx vy vz;have k0:k=0:=by
     have go:∀y:Int,c*y=0->y=0:=λy hy=>by rcases aAu.mp hy with q|q;lia;exact q
     apply ext<;>simp<;>apply go<;>lia
    exact h3.prim.ne k0
   ·refine p23 (par0 (u:=m) (v:=k) (s:=b) (t:=c) b0 ?_);rw[a0]at vx vy vz;apply ext<;>simp<;>lia
theorem AR (ho:pts.Pairwise (λa b=>i7 (b-a)))(hX:X∈pts)(h1:IsFace pts n d)(h2:IsFace pts m e)(h3:IsFace pts k f)(x1:c8 n X=d)(x2:c8 m X=e)(x3:c8 k X=f)(n12:(n,d)≠(m,e))(n13:(n,d)≠(k,f))(n23:(m,e)≠(k,f)):X∈o9 pts (n,d):=by
 have ind:=GT hs h1 h2 h3 x1 x2 x3 n12 n13 n23;refine(h1.aa2 ho).top (m:=n+m+k) (d6.mpr ⟨hX,x1⟩) λY hY af=>?_;have pY:=(d6.mp hY).1;have s1:=h1.sup Y pY;have s2:=h2.sup Y pY;have s3:=h3.sup Y pY;have e1:∀Z,c8 (n+m+k) Z=c8 n Z+c8 m Z+c8 k Z:=λZ=>by simp[c8];grind
 rw[e1,e1];rcases aDo (c8 n Y+c8 m Y+c8 k Y) (c8 n X+c8 m X+c8 k X)with q|q
 ·exact q
 ·exfalso;have t1:c8 n (Y-X)=0:=by rw[d7];lia
  have t2:c8 m (Y-X)=0:=by rw[d7];lia
  have t3:c8 k (Y-X)=0:=by rw[d7];lia
  refine af (bD ?_);generalize Y-X=y at*
  have go:∀y:Int,i8 n m k*y=0->y=0:=λy hy=>by rcases aAu.mp hy with q|q;exact absurd q ind;exact q
  simp[c8]at t1 t2 t3;apply ext<;>simp<;>apply go<;>simp[i8,c8]<;>grind
end
end G
namespace G
def Up (pts:List V)(A B C:V):Prop:=(∀X∈pts,c8 (cr (B-A)<|C-A) (X-A)<=0)/\∃X∈pts,c8 (cr (B-A)<|C-A) (X-A)<0
def Dn (pts:List V)(A B C:V):Prop:=(∀X∈pts,0<=c8 (cr (B-A)<|C-A) (X-A))/\∃X∈pts,0<c8 (cr (B-A)<|C-A) (X-A)
def vK (A B C:V):cr (C-A) (B-A)=-cr (B-A) (C-A):=by apply ext<;>simp<;>grind
def DU {pts:List V}{A B C:V}:Dn pts A B C↔Up pts A C B:=by
 have e:∀X:V,c8 (cr (C-A)<|B-A) X=-c8 (cr (B-A)<|C-A) X:=λX=>by rw[vK];simp[c8];grind
 constructor
 ·rintro⟨h,X,hX,l⟩;exact⟨λY hY=>by have:=h Y hY;rw[e];lia,X,hX,by rw[e];lia⟩
 ·rintro⟨h,X,hX,l⟩;exact⟨λY hY=>by have:=h Y hY;rw[e]at this;lia,X,hX,by rw[e]at l;lia⟩
def mH {pts:List V}{A B C:V}(hA:A∈pts)(hB:B∈pts)(hC:C∈pts)(h:Up pts A B C):IsFace pts (d4 A B C).1 (d4 A B C).2:=by
 obtain⟨hu,X,hX,hl⟩:=h;have ne:cr (B-A) (C-A)≠0:=λz=>by rw[z]at hl;simp[c8]at hl
 obtain⟨g,g0,ge,gp,gd⟩:=bM ne;have on:∀Y:V,c8 (cr (B-A)<|C-A) (Y-A)=g*(c8 (d4 A B C).1 Y-(d4 A B C).2):=λY=>by rw[gd,ge,G6,d7]
 have zero:∀Y:V,c8 (cr (B-A)<|C-A) (Y-A)=0->c8 (d4 A B C).1 Y=(d4 A B C).2:=λY h=>by rw[on]at h;rcases aAu.mp h with h|h<;>lia
 refine⟨gp,λY hY=>?_,A,hA,B,hB,C,hC,zero A ?_,zero B ?_,zero C ?_,ne⟩
 ·have:=hu Y hY;rw[on]at this;by_cases z:c8 (d4 A B C).1 Y<=(d4 A B C).2
  ·exact z
  ·have:=aAU g0 (show 0<c8 (d4 A B C).1 Y-(d4 A B C).2 by lia);lia
 ·simp[c8]
 ·simp[c8];grind
 ·simp[c8];grind
def FE {pts:List V}{n:V}{d:Int}(S:l4 pts)(h:IsFace pts n d){A B C:V}(hA:A∈pts)(a:c8 n A=d)(b:c8 n B=d)(c:c8 n C=d)(pos:0<c8 n (cr (B-A) (C-A))):Up pts A B C/\d4 A B C=(n,d):=by
 have e:cr (B-A) (C-A)≠0:=λz=>by rw[z]at pos;simp[c8]at pos
 obtain⟨g,g0,ge,gp,gd⟩:=bM e;have p:cr n (cr (B-A)<|C-A)=0:=J8 (by rw[d7];lia) (by rw[d7];lia);obtain⟨k,l,hk,e1⟩:=A3 h.prim.ne p;have hl:0<l:=by
  have q:=congrArg (c8 n) e1;rw[u7,u7]at q;have:=aAU hk pos;have hn:=y9 h.prim.ne;by_cases z:0<l
  ·exact z
  ·have:=aAQ (show l<=0 by lia) (aAW hn);simp at this;lia
 rw[ge]at e1;have e2:(k*g)*(d4 A B C).1=l*n:=by rw[<-e1];apply ext<;>simp<;>grind
 have e3:=mJ gp h.prim (aAU hk g0) hl e2;have e4:(d4 A B C).2=d:=by rw[gd,e3];exact a
 have on:∀Y:V,c8 (cr (B-A)<|C-A) (Y-A)=g*(c8 n Y-d):=λY=>by rw[<-a,ge,e3,G6,d7]
 refine⟨⟨λX hX=>?_,?_⟩,aFh e3 e4⟩
 ·rw[on];have:=aBK (aAW g0) (show 0<=d-c8 n X by have:=h.sup X hX;lia);have e5:g*(d-c8 n X)=-(g*(c8 n X-d)):=by grind
  lia
 ·by_cases q:∃X∈pts,c8 n X<d
  ·obtain⟨X,hX,l⟩:=q;refine⟨X,hX,?_⟩;rw[on];have:=aAU g0 (show 0<d-c8 n X by lia);have e5:g*(d-c8 n X)=-(g*(c8 n X-d)):=by grind
   lia
  ·exfalso;have all:∀X∈pts,c8 n X=d:=λX hX=>by
    have:=h.sup X hX;by_cases l:c8 n X<d
    ·exact absurd ⟨X,hX,l⟩ q
    ·lia
   obtain⟨P,hP,Q,hQ,R,hR,T,hT,dz⟩:=S;have z:∀X∈pts,c8 n (X-P)=0:=λX hX=>by rw[d7,all X hX,all P hP];lia
   exact dz (y3 h.prim.ne (z Q hQ) (z R hR)<|z T hT)
def zP {pts:List V}{n:V}{d:Int}(S:l4 pts)(h:IsFace pts n d){A B C:V}(hA:A∈pts)(a:c8 n A=d)(b:c8 n B=d)(c:c8 n C=d)(e:cr (B-A) (C-A)≠0):(Up pts A B C/\d4 A B C=(n,d))\/(Dn pts A B C/\d4 A C B=(n,d)):=by
 by_cases z:0<c8 n (cr (B-A)<|C-A)
 ·exact .inl (FE S h hA a b c z)
 ·have af:c8 n (cr (B-A)<|C-A)≠0:=λq=>e (U8 h.prim.ne (by rw[d7];lia) (by rw[d7];lia) q);have t:c8 n (cr (C-A)<|B-A)=-c8 n (cr (B-A)<|C-A):=by rw[vK];simp[c8];grind
  have:=FE S h hA a c b (by lia);exact .inr ⟨DU.mpr this.1,this.2⟩
def gw (pts:List V)(A B C:V):Prop:=∃i j k:Nat,i<j/\j<k/\pts[i]?=some A/\pts[j]?=some B/\pts[k]?=some C
def RY {pts:List V}{A B C:V}(hA:A∈pts)(hB:B∈pts)(hC:C∈pts)(e:cr (B-A) (C-A)≠0):∃A' B' C',gw pts A' B' C'/\cr (B'-A') (C'-A')≠0/\∀p:V->Prop,p A->p B->p C->p A'/\p B'/\p C':=by
 obtain⟨i,ei⟩:=aBR.mp hA;obtain⟨j,ej⟩:=aBR.mp hB;obtain⟨k,ek⟩:=aBR.mp hC;have nz:∀{v w:V},v≠0->(w=v\/w=-v)->w≠0:=λ{v w} hv h z=>by
  rcases h with h|h
  ·exact hv (h▸z)
  ·rw[h]at z;have q1:=congrArg V.x z;have q2:=congrArg V.y z;have q3:=congrArg V.z z;simp only[TR,UH,TX,Y6,Z6,Z4]at q1 q2 q3;exact hv (ext (by simp only[Y6];lia) (by simp only[Z6];lia) (by simp only[Z4];lia))
 have ij:i≠j:=λq=>by
  subst q;rw[ei]at ej;injection ej with ej;subst ej
  exact e (by apply ext<;>simp)
 have ik:i≠k:=λq=>by
  subst q;rw[ei]at ek;injection ek with ek;subst ek
  exact e (by apply ext<;>simp)
 have jk:j≠k:=λq=>by
  subst q;rw[ej]at ek;injection ek with ek;subst ek
  exact e (by apply ext<;>simp<;>grind)
 rcases aET ij with h1|h1<;>rcases aET ik with h2|h2<;>rcases aET jk with h3|h3
 ·exact⟨A,B,C,⟨i,j,k,h1,h3,ei,ej,ek⟩,e,λp a b c=>⟨a,b,c⟩⟩
 ·exact⟨A,C,B,⟨i,k,j,h2,h3,ei,ek,ej⟩,nz e (.inr (by apply ext<;>simp<;>grind)),λp a b c=>⟨a,c,b⟩⟩
 ·omega
 ·exact⟨C,A,B,⟨k,i,j,h2,h1,ek,ei,ej⟩,nz e (.inl (by apply ext<;>simp<;>grind)),λp a b c=>⟨c,a,b⟩⟩
 ·exact⟨B,A,C,⟨j,i,k,h1,h2,ej,ei,ek⟩,nz e (.inr (by apply ext<;>simp<;>grind)),λp a b c=>⟨b,a,c⟩⟩
 ·omega
 ·exact⟨B,C,A,⟨j,k,i,h3,h2,ej,ek,ei⟩,nz e (.inl (by apply ext<;>simp<;>grind)),λp a b c=>⟨b,c,a⟩⟩
 ·exact⟨C,B,A,⟨k,j,i,h3,h1,ek,ej,ei⟩,nz e (.inr (by apply ext<;>simp<;>grind)),λp a b c=>⟨c,b,a⟩⟩
def HU {pts:List V}(S:l4 pts){n:V}{d:Int}:IsFace pts n d↔∃A B C,gw pts A B C/\((Up pts A B C/\d4 A B C=(n,d))\/(Dn pts A B C/\d4 A C B=(n,d))):=by
 constructor
 ·intro h;obtain⟨A,hA,B,hB,C,hC,a,b,c,e⟩:=h.three;obtain⟨A',B',C',t,e',hp⟩:=RY hA hB hC e;obtain⟨a',b',c'⟩:=hp (λX=>c8 n X=d) a b c;obtain⟨i,j,k,_,_,ei,ej,ek⟩:=id t;exact⟨A',B',C',t,zP S h (aAl ei) a' b' c' e'⟩
 ·rintro⟨A,B,C,⟨i,j,k,_,_,ei,ej,ek⟩,h|h⟩
  ·have:=mH (aAl ei) (aAl ej) (aAl ek) h.1;rw[h.2]at this;exact this
  ·have:=mH (aAl ei) (aAl ek) (aAl ej) (DU.mp h.1);rw[h.2]at this;exact this
end G
namespace G
abbrev T3:=V×V×V
def QD (r:T3)(v:V):V:=⟨c8 r.1 v,c8 r.2.1 v,c8 r.2.2 v⟩
def tr (r:T3):T3:=(⟨r.1.x,r.2.1.x,r.2.2.x⟩,⟨r.1.y,r.2.1.y,r.2.2.y⟩,⟨r.1.z,r.2.1.z,r.2.2.z⟩)
def ZN (f:V->V)(r:T3):T3:=(f r.1,f r.2.1,f r.2.2)
def tM (r:T3):Int:=c8 r.1 (cr r.2.1 r.2.2)
def ny:T3:=(⟨1,0,0⟩,⟨0,1,0⟩,⟨0,0,1⟩)
def a0k (r:T3):tr (tr r)=r:=rfl
def RF (r c:T3):tM (ZN (QD r) c)=tM r*tM c:=by obtain⟨⟨a,b,c1⟩,⟨d,e,f⟩,⟨g,h,i⟩⟩:=r;obtain⟨⟨j,k,l⟩,⟨m,n,o⟩,⟨p,q,s⟩⟩:=c;simp[tM,ZN,QD,c8];grind
def QJ (r:T3)(u v:V):QD r (u-v)=QD r u-QD r v:=by apply ext<;>simp[QD,c8]<;>grind
abbrev Mv:=T3×V
def cB (m:Mv)(P:V):V:=QD m.1 P+m.2
def TU:Mv:=(ny,0)
def VB (r:T3):Prop:=tM r=1\/tM r=-1
def mT (m:Mv)(P Q:V):cB m P-cB m Q=QD m.1 (P-Q):=by rw[QJ];apply ext<;>simp[cB]<;>lia
def MD (m:Mv)(A B C D:V):i8 (cB m B-cB m A) (cB m C-cB m A) (cB m D-cB m A)=tM m.1*i8 (B-A) (C-A) (D-A):=by rw[mT,mT,mT];exact RF m.1 (B-A,C-A,D-A)
end G
namespace G
section
variable{pts ui:List V} {m:Mv} {n:V} {d:Int}
end
end G
namespace G
section
variable{pts ui:List V} {m:Mv} {n:V} {d:Int}
end
end G
namespace G
section
variable{pts ui:List V} {m:Mv} {n:V} {d:Int}
def vV (t:Int)(v:V):V:=⟨t*v.x,t*v.y,t*v.z⟩
end
end G
namespace G
structure Sl where
 a:Int
 b:Int
 c:Int
 w:V
 t:Bool
def Sl.put (s:Sl)(P:V):V:=
 let x:=P.x+s.a*P.y
 let y:=P.y+s.b*P.z
 let z:=P.z+s.c*x
 if s.t then⟨y+s.w.x,x+s.w.y,z+s.w.z⟩else⟨x+s.w.x,y+s.w.y,z+s.w.z⟩
def Sl.mv (s:Sl):Mv:=
 let r1:V:=⟨1,s.a,0⟩
 let r2:V:=⟨0,1,s.b⟩
 let r3:V:=⟨s.c,s.c*s.a,1⟩
 (if s.t then(r2,r1,r3)else(r1,r2,r3),s.w)
def Sl.ae4 (s:Sl)(P:V):s.put P=cB s.mv P:=by obtain⟨a,b,c,w,t⟩:=s;cases t<;>apply ext<;>simp[Sl.put,Sl.mv,cB,QD,c8]<;>grind
def Sl.unit (s:Sl):VB s.mv.1:=by
 obtain⟨a,b,c,w,t⟩:=s;cases t
 ·left;simp[Sl.mv,tM,c8,cr];try grind
 ·right;simp[Sl.mv,tM,c8,cr];try grind
def IU {m:Mv}(h:VB m.1){pts ui:List V}(hq:∀X∈pts,cB m X∈ui)(S:l4 pts):l4 ui:=by
 obtain⟨A,hA,B,hB,C,hC,D,hD,e⟩:=S;refine⟨_,hq A hA,_,hq B hB,_,hq C hC,_,hq D hD,?_⟩;rw[MD];intro z;rcases aAu.mp z with z|z
 ·rcases h with h|h<;>lia
 ·exact e z
def FN {t:Int}(ht:t≠0){pts ui:List V}(hq:∀X∈pts,vV t X∈ui)(S:l4 pts):l4 ui:=by
 obtain⟨A,hA,B,hB,C,hC,D,hD,e⟩:=S;refine⟨_,hq A hA,_,hq B hB,_,hq C hC,_,hq D hD,?_⟩;have:i8 (vV t B-vV t A) (vV t C-vV t A) (vV t D-vV t A)=t*t*t*i8 (B-A) (C-A) (D-A):=by simp[vV,i8,c8,cr];grind
 rw[this];intro z;rcases aAu.mp z with z|z
 ·rcases aAu.mp z with z|z
  ·rcases aAu.mp z with z|z<;>exact ht z
  ·exact ht z
 ·exact e z
def yD (P:V){pts:List V}(h:P∈pts):l4 (pts++[⟨P.x+1,P.y,P.z⟩,⟨P.x,P.y+1,P.z⟩,⟨P.x,P.y,P.z+1⟩]):=by
 refine⟨P,by simp[h],⟨P.x+1,P.y,P.z⟩,by simp,⟨P.x,P.y+1,P.z⟩,by simp,⟨P.x,P.y,P.z+1⟩,by simp,?_⟩;have:i8 ((⟨P.x+1,P.y,P.z⟩:V)-P) (⟨P.x,P.y+1,P.z⟩-P) (⟨P.x,P.y,P.z+1⟩-P)=1:=by simp[i8,c8,cr];try grind
 rw[this];decide
def nS {P:V}{pts:List V}(h:P∈pts):l4 pts↔∃u∈pts,∃v∈pts,cr (u-P) (v-P)≠0/\∃w∈pts,c8 (cr (u-P) (v-P)) (w-P)≠0:=by
 have ed:∀u v w:V,i8 w u v=c8 (cr u v) w:=λu v w=>by simp[i8,c8,cr];grind
 have cy:∀u v w:V,i8 w u v=i8 u v w:=λu v w=>by simp[i8,c8,cr];grind
 constructor
 ·rintro⟨A,hA,B,hB,C,hC,D,hD,e⟩;have id:i8 (B-A) (C-A) (D-A)=i8 (B-P) (C-P) (D-P)-i8 (A-P) (C-P) (D-P)+i8 (A-P) (B-P) (D-P)-i8 (A-P) (B-P) (C-P):=by simp[i8,c8,cr];grind
  have mk:∀{X Y Z:V},X∈pts->Y∈pts->Z∈pts->i8 (X-P) (Y-P) (Z-P)≠0->∃u∈pts,∃v∈pts,cr (u-P) (v-P)≠0/\∃w∈pts,c8 (cr (u-P)<|v-P) (w-P)≠0:=λ{X Y Z} hX hY hZ q=>by rw[<-cy,ed]at q;exact⟨X,hX,Y,hY,λz=>q (by rw[z];simp[c8]),Z,hZ,q⟩
  by_cases c1:i8 (B-P) (C-P) (D-P)=0
  ·by_cases c2:i8 (A-P) (C-P) (D-P)=0
   ·by_cases c3:i8 (A-P) (B-P) (D-P)=0
    ·exact mk hA hB hC (by lia)
    ·exact mk hA hB hD c3
   ·exact mk hA hC hD c2
  ·exact mk hB hC hD c1
 ·rintro⟨u,hu,v,hv,_,w,hw,q⟩;exact⟨P,h,u,hu,v,hv,w,hw,by rw[<-cy,ed];exact q⟩
end G
namespace G
open Classical in
def U4 (pts:List V) (P:V):Int:=if∀n d,IsFace pts n d->c8 n P-d<=0 then(if∀n d,IsFace pts n d->c8 n P-d<0 then 1 else 0)else-1
def LC {pts ui:List V}{P Q:V}(h1:(∀n d,IsFace pts n d->c8 n P-d<=0)↔∀n d,IsFace ui n d->c8 n Q-d<=0)(h2:(∀n d,IsFace pts n d->c8 n P-d<0)↔∀n d,IsFace ui n d->c8 n Q-d<0):U4 pts P=U4 ui Q:=by
 unfold U4;by_cases a:∀n d,IsFace pts n d->c8 n P-d<=0
 ·rw[if_pos a,if_pos (h1.mp a)];by_cases b:∀n d,IsFace pts n d->c8 n P-d<0
  ·rw[if_pos b,if_pos (h2.mp b)]
  ·rw[if_neg b,if_neg (λq=>b (h2.mpr q))]
 ·rw[if_neg a,if_neg (λq=>a (h1.mpr q))]
end G
namespace DL
open PySem PySem.Spec L2
open PyProof.Rows hiding St
section
variable [Tabs]
def _root_.L2.Inv.af1 {pins:N5}{σ:St}{H:Hp}{s:Shared}{h':Heap}{t':Nat}{L:List Addr}{T:Addr}{vs:List V}(I:Inv X pins σ H s)(k:∀b o,b∉L->s.heap.get? b=some o->h'.get? b=some o)
  (hL:∀b∈L,lT X pins H b) (hT:s.heap.objs.size<=T) (hz:vs.length<=sizeLine) {its:List Value} (hv:n8 vs its) (ht:IsTup h' T its.toArray):Inv X pins σ (upd H T (.tup vs)) {s with heap:=h',toks:=t'}:=by
 have hn:H T=none:=I.hok.fresh hT;have ne:∀b u,H b=some u->b≠T:=λb u e z=>by rw[z,hn]at e;cases e
 have sm:Same H (upd H T<|.tup vs):=j7 hn _;have nL:∀b u,H b=some u->b∉L:=λb u e z=>by rw[(hL b z).1]at e;cases e
 refine I.step (g':=s.gens) (d':=s.drawn) (ch:=L) (λb hb=>?_) (λb o _ _ hc e _=>k b o hc e) (λb o _ _ hc e _=>⟨o.slots,k b o hc e⟩) (λb o _ e n=>?_)
  (λb o hc e=>⟨o,k b o hc e⟩) (λb _ e=>sm _ _ e) (λb _ _ e=>sm _ _ e) (λb _ e=>sm _ _ e) (λm hm=>?_) (λb u e=>?_) I.bare
 ·obtain⟨_,f1,_,f3,f4,f5⟩:=hL b hb;exact⟨f3,f1,f4,f5⟩
 ·rw[l5 (aAi<|aAs (aAf e) hT)];exact n
 ·obtain⟨o,es,ep,ho,r⟩:=hm;exact⟨o,es,ep,k _ o (λz=>(hL _ z).2.1 rfl) ho,r⟩
 ·by_cases hb:b=T
  ·subst hb;rw[j6]at e;cases e;exact⟨hz,its,hv,ht⟩
  ·rw[l5 hb]at e;refine(I.hok b u e).ab7 (λc v hc q=>k c v ?_ q) (λ_ q=>sm _ _ q) λ_ _ _ q=>sm _ _ q;rcases hc with z|z
   ·rw[z];exact nL b u e
   ·exact nL c _ z
def _root_.L2.Inv.ae9 {pins:N5}{σ:St}{H:Hp}{s:Shared}{h':Heap}{t':Nat}{L:List Addr}(I:Inv X pins σ H s)(k:∀b o,b∉L->s.heap.get? b=some o->h'.get? b=some o)
  (hL:∀b∈L,lT X pins H b):Inv X pins σ H {s with heap:=h',toks:=t'}:=by
 have nL:∀b u,H b=some u->b∉L:=λb u e z=>by rw[(hL b z).1]at e;cases e
 refine I.step (g':=s.gens) (d':=s.drawn) (ch:=L) (λb hb=>?_) (λb o _ _ hc e _=>k b o hc e) (λb o _ _ hc e _=>⟨o.slots,k b o hc e⟩) (λ_ _ _ _ n=>n)
  (λb o hc e=>⟨o,k b o hc e⟩) (λb _ e=>e) (λb _ _ e=>e) (λb _ e=>e) (λm hm=>?_) (λb u e=>?_) I.bare
 ·obtain⟨_,f1,_,f3,f4,f5⟩:=hL b hb;exact⟨f3,f1,f4,f5⟩
 ·obtain⟨o,es,ep,ho,r⟩:=hm;exact⟨o,es,ep,k _ o (λz=>(hL _ z).2.1 rfl) ho,r⟩
 ·refine(I.hok b u e).ab7 (λc v hc q=>k c v ?_ q) (λ_ q=>q) λ_ _ _ q=>q;rcases hc with z|z
  ·rw[z];exact nL b u e
  ·exact nL c _ z
def WN {h:Heap}{i a:Addr}{k:Nat}(x:h.IsListIter i a k):∃o,h.get? i=some o/\∀v,o.data≠.cell v:=by obtain⟨o,e,c,d⟩:=x;exact⟨o,e,λv z=>by rw[d]at z;cases z⟩
def Ite (K:PySem.W.Frag)(a:Addr):It:=
 ⟨λi H=>∃xs x,N8 K H a xs/\xs[i]?=some x,
  λi H v H'=>∃T,v=.ref T/\H T=none/\∀xs,N8 K H a xs->∃x,xs[i]?=some x/\H'=upd H T (.tup [.int i,x]),
  λi H=>∃xs,N8 K H a xs/\xs.length<=i⟩
def tnE (e it a:Addr)(i:Nat)(h:Heap):Prop:=(∃old,IsEnum h e it (i:Int) old)/\h.IsListIter it a i
def FR {P:Program}{w:World}{K:PySem.W.Frag}{el:List Expr}{c}{tp:Pos}{e it a:Addr}(D:e≠it):Turn P w K (.Tuple el c tp) (Ite K a) [e,it] e (tnE e it a)where
 mem:=by simp
 obj:=λi h ⟨⟨old,he⟩,h1⟩ c hc=>by
  simp only[aAd,aAE,or_false]at hc;rcases hc with rfl|rfl
  ·exact⟨_,he,λv z=>nomatch z⟩
  ·exact WN h1
 keep:=λi h h' ⟨⟨old,he⟩,h1⟩ k=>⟨⟨old,k _ (by simp) _ he⟩,h1.at λo e=>k _ (by simp) o e⟩
 item:=by
  intro X hP hw hK hc i pins s σ H E I hf st hg;subst hP hw hK;obtain⟨xs,x,hx,ex⟩:=hg;obtain⟨itx,rvx,px,zx⟩:=I.list hx;obtain⟨u,hu,ru⟩:=rvx.get ex;obtain⟨⟨old,s0⟩,s1⟩:=st;refine wpAny_pyNext_enum_item s0 s1 px.isList (x:=u) (by simpa using hu) D λh' q0 q1 hp hsz kp=>?_;refine⟨.ref s.heap.objs.size,rfl,wpAny_letOwnedTupleGo_enum (s:={s with heap:=h',toks:=s.toks+1}) q0 λh2 z2 sb=>?_⟩;have hel:e<s.heap.objs.size:=aAf s0;have hil:it<s.heap.objs.size:=by obtain⟨o,e,_⟩:=s1;exact aAf e
  have up:∀c o,c≠e->h'.get? c=some o->h2.get? c=some o:=λc o hc e=>sb.extBut c o hc e;have hTf:s.heap.objs.size∉[e,it]:=λhm=>by
   simp only[aAd,aAE,or_false]at hm;rcases hm with hm|hm
   ·rw[<-hm]at hel;exact absurd hel (aBe _)
   ·rw[<-hm]at hil;exact absurd hil (aBe _)
  have kk:∀c o,c∉[e,it]->s.heap.get? c=some o->h2.get? c=some o:=λc o hc e=>by simp only[aAd,aAE,or_false,not_or]at hc;exact up c o hc.1 (kp c o hc.1 hc.2 e)
  refine⟨.ref s.heap.objs.size,upd H s.heap.objs.size (.tup [.int i,x]),I.af1 (t':=s.toks+1) kk hf (aAh _) (by show 2<=sizeLine;decide) (its:=[.int i s.toks,u]) (.cons ⟨_,rfl⟩ (.cons ru .nil)) ⟨_,up _ _ (aCh hel) hp,rfl,0,rfl⟩,rfl,
   ⟨_,rfl,I.hok.fresh (aAh _),λxs' hx'=>⟨x,by rw[I.ab3 hx' hx];exact ex,rfl⟩⟩,⟨⟨u,?_⟩,q1.at λo e=>up _ o (aCb D) e⟩,λb hb=>?_⟩
  ·have:((i+1:Nat):Int)=(i:Int)+1:=by lia
   rw[this];exact z2
  ·rw[l5 (λq:b=s.heap.objs.size=>hTf (q▸hb))];exact(hf b hb).1
 done:=by intro X hP hw hK hc i pins s σ H E I hf st hg;subst hP hw hK;obtain⟨xs,hx,hl⟩:=hg;obtain⟨itx,rvx,px,zx⟩:=I.list hx;obtain⟨⟨old,s0⟩,s1⟩:=st;have hlx:=rvx.length;refine wpAny_pyNext_enum_end (I.ok.hd hc) s0 s1 px.isList (by simp;lia) λh' kp=>⟨rfl,I.ae9 (t':=s.toks) (λc o hc e=>?_) hf⟩;simp only[aAd,aAE,or_false,not_or]at hc;exact kp c o hc.2 e
 self:=λ_ _ _ _ _ ⟨⟨_,st⟩,_⟩ h=>wpAny_pyIter_enum st h
def CL (xs:List D):List D:=List.zipWith (λ(k:Nat) d=>D.tup [.int (k:Int),d]) (aBu xs.length) xs
def KR:List D->R (List D)
 |[.lst xs]=>.ok (CL xs)
 |_=>.bad
def jJ (xs:List D)(i:Nat):(CL xs)[i]?=xs[i]?.map λd=>D.tup [.int (i:Int),d]:=by
 unfold CL;rw[List.getElem?_zipWith];by_cases h:i<xs.length
 ·rw[List.getElem?_range h];cases xs[i]?<;>rfl
 ·rw[aEe (by simpa using h),aEe (by lia:xs.length<=i)];rfl
def JK {el:List Expr}{c}{tp:Pos}{e1:Expr}{p:Pos}{f1:Ev->R D}(ha1:PD X e1 f1)(hg:Gl X "enumerate":=by rfl)(hm:X.mg "enumerate"=none:=by assumption)(hv:bootBuiltins "enumerate"=some (.type "enumerate"):=by decide+kernel)
  (he:starEach [e1] X.env=(false,eval e1 X.env)::starEach [] X.env:=by rfl) (bf:(backTo pos (starEach [] X.env)).any (·.1)=false:=by rfl):
  UE X (.Tuple el c tp) (.Call (.Name "enumerate" p) [e1] [] pos) (λρ=>(p8 f1 Q7 ρ).bind KR):=by
 intro pins s σ H Rr I ⟨H9,O0,O,ρ,E,fk,q⟩;dsimp only at q;refine aAM (N0 I hg hm hv ?_ (by decide) (by decide));have mo:IL X [e1] (p8 f1 Q7):=j2 ha1 u9 he;refine aBb (D9 (mo pos pins s σ H (λvs H1=>∃v1 xs,vs=[v1]/\p8 f1 Q7 ρ=.ok [.lst xs]/\Same H H1/\Rep X.K H1 O v1 (.lst xs)) I ⟨H9,O0,O,ρ,E,?_⟩) λus s1 ⟨vs,H1,I1,r1,v1,xs,ev,ef,sm,rb1⟩=>?_) he bf
 ·cases e1:p8 f1 Q7 ρ with
  |ex z=>rw[e1]at q;exact q
  |bad=>rw[e1]at q;exact q.elim
  |ok ds=>
   rw[e1,R.aa0]at q;match ds,q with
   |[.lst xs],q=>
    intro vs H1 s1 r1;cases r1 with
    |cons ra r1=>cases r1 with
     |nil=>exact⟨_,xs,rfl,rfl,s1,ra⟩
 ·subst ev;rw[ef,R.aa0]at q;simp only[KR]at q;cases rb1 with
  |@lst a wx _ hSx nx rx=>
  obtain⟨u1,rfl,ru1⟩:=vals1 r1;cases ru1;obtain⟨itx,rvx,px,zX⟩:=I1.list hSx;refine call_enumerate_list px.isList λh1 z1 z2 zsz k1=>?_;have I2:=I1.kept (h':=h1) (t':=s1.toks) k1;refine wpAny_pyIter_enum (s:={s1 with heap:=h1}) z1 ⟨_,_,_,Ite X.K a,H1,rfl,I2,FR (Nat.succ_ne_self _),⟨⟨_,z1⟩,z2⟩,λc hc=>?_,q _ H1 sm λH2 O2 k hK hO hO2 i=>?_⟩
  ·have xi:s1.heap.objs.size<=c:=by simp only[aAd,aAE,or_false]at hc;rcases hc with rfl|rfl<;>lia
   exact I1.af0 xi (I1.hok.fresh xi)
  ·obtain⟨n2x,h2x⟩:=k.lst nx hSx λo q=>hK a o q;have r2x:=k.ac2 hO hK rx;refine⟨λd e=>?_,λe=>⟨wx,h2x,?_⟩⟩
   ·rw[jJ]at e;cases e1:xs[i]? with
    |none=>rw[e1]at e;cases e
    |some dx=>rw[e1]at e;cases e;obtain⟨vx,g1,g2⟩:=r2x.get e1;refine⟨⟨wx,vx,h2x,g1⟩,λx H' ⟨T,ev,hT,hh⟩=>?_⟩;obtain⟨x1,q1,rfl⟩:=hh wx h2x;rw[g1]at q1;cases q1;subst ev;have s2:Same H2 (upd H2 T<|.tup [.int i,vx]):=j7 hT _;exact⟨s2,.tup (W2.of j6) (.cons .int (.cons (g2.same s2) .nil))⟩
   ·rw[rx.length];rw[jJ]at e;cases e1:xs[i]? with
    |none=>exact aBJ.mp e1
    |some dx=>rw[e1]at e;cases e
end
end DL
namespace M
open PySem L2 DL
variable [Tabs]
def UW (t:Int):Int:=(t*40009+6007).fmod 2147483647
def mR (s k:Int):Int:=(s*s+5003*k+11).fmod 2147483647
def gz (s:Int):Int:=s.fmod 2000000011-1000000000
def TZ (t:Int):G.V:=⟨gz (mR (UW t) 0),gz (mR (mR (UW t) 0) 1),gz (mR (mR (mR (UW t) 0) 1) 2)⟩
def fL (way:Int):Int:=if way=0 then 3 else if way=1 then 5 else if way=2 then 9 else 2000000001
def OQ (t way:Int):G.V:=if way=4 then TZ t else dw t (fL way)
def VN (t way:Int):Sz 40 (OQ t way):=by
 unfold OQ;split
 ·have a:∀s,bits (gz s)<=40:=λs=>bits_sub (bits_fmod (by decide) (show bits 2000000011<=39 by decide)) (show bits 1000000000<=39 by decide);exact⟨a _,a _,a _⟩
 ·have w:fL way≠0/\bits (fL way)<=39:=by
   unfold fL
   repeat' split
   all_goals decide
  have d:∀c:Int,bits (c.fmod (fL way)-(fL way).fdiv 2)<=40:=λc=>bits_sub (bits_fmod w.1 w.2) (bits_fdiv w.2);exact⟨d _,d _,d _⟩
open Classical in
def aI:List D->R D
 |[.int t,.int way]=>if bits t<=3000000/\0<=way/\way<=4 then .ok (vd (OQ t way))else .bad
 |_=>.bad
def GG {t way:Int}(h:bits t<=3000000)(h0:0<=way)(h1:way<=4):aI [.int t,.int way]=.ok (vd (OQ t way)):=if_pos ⟨h,h0,h1⟩
def OK (l:List Int):List D:=l.map D.int
def fH:List D->Option (List Int)
 |[]=>some []
 |.int i::r=>match fH r with
  |some l=>some (i::l)
  |none=>none
 |_=>none
@[simp]theorem rC:∀l:List Int,fH (OK l)=some l
 |[]=>rfl
 |i::l=>by have:=rC l;unfold OK at this;simp[OK,fH,this]
theorem nG:∀{ds:List D} {l:List Int},fH ds=some l->ds=OK l
 |[],l,h=>by simp[fH]at h;subst h;rfl
 |.int i::r,l,h=>by
  simp only[fH]at h;split at h
  ·rename_i l' e;injection h with h;subst h;rw[nG e];rfl
  ·cases h
 |.tup _::_,_,h=>by simp[fH]at h
 |.lst _::_,_,h=>by simp[fH]at h
 |.bl _::_,_,h=>by simp[fH]at h
def xM (l:List Int):G.Sl:=⟨l.getD 0 0,l.getD 1 0,l.getD 2 0,⟨l.getD 3 0,l.getD 4 0,l.getD 5 0⟩,decide (l.getD 6 0=1)⟩
def bU (l:List Int):Prop:=l.length=7/\∀i∈l,bits i<=100
open Classical in
def K4:List D->R D
 |[p,.lst xs]=>match pZ p,fH xs with
  |some P,some l=>if bU l/\Sz 500 P then .ok (vd ((xM l).put P))else .bad
  |_,_=>.bad
 |_=>.bad
def yL {l:List Int}{P:G.V}(h:bU l)(hP:Sz 500 P):K4 [vd P,.lst (OK l)]=.ok (vd ((xM l).put P)):=by simp only[K4,mL,rC];exact if_pos ⟨h,hP⟩
def xY (c:Int):Int:=(c.fdiv 1029*271828182845904523536).fmod 200000000000000000001-100000000000000000000
def s7 (c k:Int):Int:=(c.fdiv k).fmod 7-3
def UK (c:Int):List Int:=(if c.fmod 3=2 then[s7 c 3*7654321,s7 c 21*7654321,s7 c 147*7654321]else[s7 c 3,s7 c 21,s7 c 147])++[xY c,0-(xY c).fdiv 7,(c.fdiv 1029).fmod 50,(c.fdiv 9).fmod 2]
def KB (c:Int):bU (UK c):=by
 have s:∀k,bits (s7 c k)<=4:=λk=>bits_sub (bits_fmod (by decide) (show bits 7<=3 by decide)) (show bits 3<=3 by decide);have m:∀k,bits (s7 c k*7654321)<=100:=λk=>f7 (bits_mul (s k) (show bits 7654321<=30 by decide)) (by decide);have s':∀k,bits (s7 c k)<=100:=λk=>f7 (s k) (by decide);have f:bits (xY c)<=99:=bits_sub (n:=98) (bits_fmod (by decide) (by decide)) (by decide);have r:∀x∈[xY c,0-(xY c).fdiv 7,(c.fdiv 1029).fmod 50,(c.fdiv 9).fmod 2],bits x<=100:=by simp only[aCa];exact⟨f7 f (by decide),bits_sub (show bits 0<=99 by decide) (bits_fdiv f),bits_fmod (by decide) (by decide),bits_fmod (by decide) (by decide),λ_ h=>by cases h⟩
 unfold UK;split
 ·exact⟨rfl,aCa.mpr ⟨m _,aCa.mpr ⟨m _,aCa.mpr ⟨m _,r⟩⟩⟩⟩
 ·exact⟨rfl,aCa.mpr ⟨s' _,aCa.mpr ⟨s' _,aCa.mpr ⟨s' _,r⟩⟩⟩⟩
open Classical in
def U1:List D->R D
 |[.int c]=>if bits c<=3000000 then .ok (.lst (OK (UK c)))else .bad
 |_=>.bad
def AJ {c:Int}(h:bits c<=3000000):U1 [.int c]=.ok (.lst (OK (UK c))):=if_pos h
def sJ {pts:List G.V}{fs:List (G.V×Int)}(hf:∀f,f∈fs↔G.IsFace pts f.1 f.2)(af:fs≠[])(P:G.V):(if aN (fs.map λf=>G.c8 f.1 P-f.2)<0 then 1 else 0)-(if 0<aN (fs.map λf=>G.c8 f.1 P-f.2)then 1 else 0)=G.U4 pts P:=by
 have hm:=cN (ns:=fs.map λf=>G.c8 f.1 P-f.2) (by simpa using af);have hle:∀f∈fs,G.c8 f.1 P-f.2<=aN (fs.map λf=>G.c8 f.1 P-f.2):=λf h=>fC (aAo.mpr ⟨f,h,rfl⟩);generalize aN (fs.map λf=>G.c8 f.1 P-f.2)=M at*
 obtain⟨g,hg,rfl⟩:=aAo.mp hm;have hg':=(hf g).mp hg;unfold G.U4;by_cases a:∀n d,G.IsFace pts n d->G.c8 n P-d<=0
 ·rw[if_pos a];have ag:=a _ _ hg';by_cases b:∀n d,G.IsFace pts n d->G.c8 n P-d<0
  ·have bg:=b _ _ hg';rw[if_pos b,if_pos bg,if_neg (by lia)];rfl
  ·rw[if_neg b];have:∃n d,G.IsFace pts n d/\¬G.c8 n P-d<0:=by simpa using b
   obtain⟨n,d,h,q⟩:=this;have h1:=hle (n,d) ((hf (n,d)).mpr h);dsimp only at h1;rw[if_neg (by lia),if_neg (by lia)];rfl
 ·rw[if_neg a];have:∃n d,G.IsFace pts n d/\¬G.c8 n P-d<=0:=by simpa using a
  obtain⟨n,d,h,q⟩:=this;have h1:=hle (n,d) ((hf (n,d)).mpr h);dsimp only at h1;rw[if_neg (by lia),if_pos (by lia)];rfl
def SJ {ns:List Int}(h:ns≠[]):aN (ns.map sgn)=sgn (aN ns):=by
 have mono:∀{x y:Int},x<=y->sgn x<=sgn y:=λ{x y} h=>by
  unfold sgn
  repeat' split
  all_goals lia
 have m1:=fC (aBk (f:=sgn)<|cN h);obtain⟨x,hx,e⟩:=aAo.mp (cN (ns:=ns.map sgn) (by simpa using h));have:=mono (fC hx)
 lia
def GU {pts:List G.V}{fs:List (G.V×Int)}(hf:∀f,f∈fs↔G.IsFace pts f.1 f.2)(af:fs≠[])(P:G.V):-(aN (fs.map λf=>sgn (G.c8 f.1 P-f.2)))=G.U4 pts P:=by
 have:=SJ (ns:=fs.map λf=>G.c8 f.1 P-f.2) (by simpa using af);rw[aBi]at this;rw[<-sJ hf af P];refine(congrArg Neg.neg this).trans ?_;unfold sgn
 repeat' split
 all_goals lia
open Classical in
def iH:List D->R D
 |[.lst ds,p]=>match F7 ds,pZ p with
  |some pts,some P=>if W8 900 pts/\G.l4 pts/\(d8 pts).length<=14/\Sz 900 P then .ok (.int (G.U4 (d8 pts) P))else .bad
  |_,_=>.bad
 |_=>.bad
def uY {pts:List G.V}{n:G.V}{d:Int}(h:W8 900 pts)(hf:G.IsFace (d8 pts) n d):Sz 2003 n:=by obtain⟨A,hA,B,hB,C,hC,_,e⟩:=G.jK hf;have z:∀X∈d8 pts,Sz 1000 X:=λX hX=>(h.1 X (x6.mp hX)).mono;have:=oF (z A hA) (z B hB) (z C hC);rw[e]at this;exact this
def rL {pts:List G.V}{f:G.V×Int}{P:G.V}(h:W8 900 pts)(hP:Sz 900 P)(hf:G.IsFace (d8 pts) f.1 f.2):G2 [qP f.1 f.2,vd P]=.ok (.int (sgn (G.c8 f.1 P-f.2))):=by have z:=uY h hf;exact DQ ⟨n9 z.1,n9 z.2.1,n9 z.2.2⟩ ⟨n9 hP.1,n9 hP.2.1,n9 hP.2.2⟩
def kK {pts:List G.V}(h1:W8 900 pts)(h2:G.l4 pts)(h3:(d8 pts).length<=14):(∀f,f∈k7 (d8 pts)↔G.IsFace (d8 pts) f.1 f.2)/\k7 (d8 pts)≠[]/\(k7 (d8 pts)).length<=2744:=by obtain⟨m,r,e,L⟩:=X7 h1 h2 (by lia);have qr:=h3;rw[e]at qr;have FL:=F1 L qr;rw[<-e]at FL L;have nd:=M2 (V9 FL.2);have few:=G.HN nd λf hf=>(FL.1 f).mp hf;have c1:(d8 pts).length*((d8 pts).length*(d8 pts).length)<=14*(14*14):=aDZ h3 (aDZ h3 h3);refine⟨FL.1,λz=>?_,aAr few c1⟩;have q:=G.gA L.good.solid L.good.ord L.good.mem L.good.least;have:=(FL.1 (_,_)).mpr q;rw[z]at this;cases this
def intD:D->Int
 |.int i=>i
 |_=>0
def rX:Nat->List D->List D
 |_,[]=>[]
 |k,d::ds=>.tup [.int (k:Int),d]::rX (k+1) ds
theorem sQ:∀(xs:List D) (k i:Nat),(rX k xs)[i]?=xs[i]?.map λd=>D.tup [.int ((k+i:Nat):Int),d]
 |[],_,_=>rfl
 |d::ds,k,0=>rfl
 |d::ds,k,i+1=>by rw[rX,aCV,aCV,sQ ds (k+1) i,Nat.add_right_comm];rfl
def RE (xs:List D):CL xs=rX 0 xs:=aDs λi=>by rw[jJ,sQ,aEd]
def wI (m:Nat):Nat->List D->List Int->List Int
 |_,[],ts=>ts
 |k,d::ds,ts=>wI m (k+1) ds (ts.set (k%m) (ts.getD (k%m) 0+intD d))
def yN (m:Nat):List Int:=(aBu m).map λ(k:Nat)=>5*(k:Int)*k+3*k
def x5 (xs:List D)(most:Int):Nat:=(4+(cJ xs 0).fmod (most-3)).toNat
def yG (xs:List D)(most:Int):List Int:=wI (x5 xs most) 0 ((xs.take 63).drop 2) (yN<|x5 xs most)
def gE (xs:List D)(most:Int):List G.V:=(yG xs most).map λt=>OQ t ((cJ xs 1).fmod 5)
theorem DG (m:Nat)(hm:0<m):∀(ds:List D) (k:Nat) (ts:List Int),M1 1048576 ds->ts.length=m->(∀t∈ts,bits t<=1100000+k)->(wI m k ds ts).length=m/\∀t∈wI m k ds ts,bits t<=1100000+k+ds.length
 |[],k,ts,_,h,hb=>⟨h,hb⟩
 |d::ds,k,ts,hi,h,hb=>by
  have:=DG m hm ds (k+1) (ts.set (k%m)<|ts.getD (k%m) 0+intD d) (λx hx=>hi x (.tail _ hx)) (by simpa using h) (λt ht=>by
   rcases List.mem_or_eq_of_mem_set ht with ht|rfl
   ·exact f7 (hb t ht) (by lia)
   ·have hk:k%m<ts.length:=by rw[h];exact aDJ _ hm
    have h1:bits (ts.getD (k%m) 0)<=1100000+k:=by rw[aAn,aAg hk];exact hb _ (aBs hk)
    obtain⟨i,rfl,ya⟩:=hi d (.head _);exact bits_add h1 (f7 ya (by lia)))
  refine⟨this.1,λt ht=>f7 (this.2 t ht) ?_⟩;simp only[aAx];lia
def fY (xs:List D){most:Int}(h0:4<=most):4<=x5 xs most/\(x5 xs most:Int)<=most/\(x5 xs most:Int)=4+(cJ xs 0).fmod (most-3):=by have:=aY (a:=cJ xs 0) (b:=most-3) (by lia);unfold x5;lia
def DX (m:Nat)(h:m<=20):(yN m).length=m/\∀t∈yN m,bits t<=1100000:=by
 unfold yN;refine⟨by simp,λt ht=>?_⟩;obtain⟨k,hk,rfl⟩:=aAo.mp ht;have ke:k<m:=by simpa using hk
 have k3:(k:Int)*k<=20*20:=Int.mul_le_mul (by lia) (by lia) (by lia) (by decide);have k2:0<=(k:Int)*k:=aBK (by lia) (by lia);rw[aFl];exact f7 (K5 (n:=30) (by lia) (by lia)) (by decide)
def LN {xs:List D}{most:Int}(hi:M1 1048576 xs)(h0:4<=most)(h1:most<=20):(yG xs most).length=x5 xs most/\∀t∈yG xs most,bits t<=1100061:=by
 have hm:=fY xs h0;have t0:=DX (x5 xs most) (by lia);have:=DG (x5 xs most) (by lia) ((xs.take 63).drop 2) 0 (yN<|x5 xs most) (λx hx=>hi x (aEq<|aDw hx)) t0.1 t0.2;refine⟨this.1,λt ht=>f7 (this.2 t ht) ?_⟩;have:((xs.take 63).drop 2).length<=61:=by simp;lia
 lia
open Classical in
def fB:List D->R D
 |[.lst xs,.int most]=>if M1 1048576 xs/\xs.length<=63/\4<=most/\most<=20 then .ok (.lst ((gE xs most).map vd))else .bad
 |_=>.bad
def zK {xs:List D}{most:Int}(hi:M1 1048576 xs)(hl:xs.length<=63)(h0:4<=most)(h1:most<=20):fB [.lst xs,.int most]=.ok (.lst ((gE xs most).map vd)):=if_pos ⟨hi,hl,h0,h1⟩
def JN {xs:List D}{most:Int}(hi:M1 1048576 xs)(h0:4<=most)(h1:most<=20):(∀p∈gE xs most,Sz 40 p)/\4<=(gE xs most).length/\((gE xs most).length:Int)<=most:=by have t:=LN hi h0 h1;have m:=fY xs h0;unfold gE;refine⟨λp hp=>?_,by rw[aAk,t.1];lia,by rw[aAk,t.1];lia⟩;obtain⟨a,_,rfl⟩:=aAo.mp hp;exact VN ..
def VI (xs:List D):NF (.lst xs) (some 2) (some 63)=.ok (.lst ((xs.take 63).drop 2)):=by
 show R.ok (D.lst<|cutD xs (some 2)<|some 63)=_;rw[List.drop_take];show R.ok (D.lst<|List.take (min 63 xs.length-min 2 xs.length)<|List.drop (min 2 xs.length) xs)=_;by_cases h:xs.length<=2
 ·rw[aFx (by lia),aFx (by lia)];simp
 ·rw[aFF (by lia:2<=xs.length)];by_cases h2:xs.length<=63
  ·rw[aDU (by simp;lia),aDU (by simp;lia)]
  ·rw[aFF (by lia)]
open Classical in
def fD (pts:List G.V):List G.V:=if G.l4 pts then pts else match pts with
 |[]=>[]
 |P::r=>(P::r)++[⟨P.x+1,P.y,P.z⟩,⟨P.x,P.y+1,P.z⟩,⟨P.x,P.y,P.z+1⟩]
open Classical in
def dM:List D->R D
 |[.lst ds]=>match F7 ds with
  |some pts=>if pts≠[]/\(∀p∈pts,Sz 300 p)/\pts.length<=1000 then .ok (.lst ((fD pts).map vd))else .bad
  |_=>.bad
 |_=>.bad
def oI {α β:Type}{G:D->Ev->R Ev}{fe:Ev->R D}{ρ:Ev}(rep:α->D)(rp:β->D)(g:α->β)(l:List α)(h:∀a∈l,∃ρ1,G (rep a) ρ=.ok ρ1/\fe ρ1=.ok (rp (g a))):u4 G (λ_=>.ok true) fe ρ (l.map rep)=.ok ((l.map g).map rp):=by rw[aBi];exact K6 rep _ l h
theorem nE {α:Type}{G:D->Ev->R Ev}{F:Ev->R Out}{x:D}{Iv:Ev->Prop}(rep:α->D)(p:α->Prop)(Iw:Ev->Prop)(hw:∀ρ,Iw ρ->Iv ρ):∀(l:List α) (ρ:Ev),Iw ρ->(∀a∈l,∀ρ,Iw ρ->(p a/\N7 G F (rep a) ρ=.ok (.rt x))\/(¬p a/\∃ρ2,N7 G F (rep a) ρ=.ok (.nx ρ2)/\Iw ρ2))->((∃a∈l,p a)/\M3 G F (l.map rep) ρ=.ok (.rt x))\/(¬(∃a∈l,p a)/\∃ρ2,M3 G F (l.map rep) ρ=.ok (.nx ρ2)/\Iv ρ2)
 |[],ρ,h,_=>.inr ⟨λ⟨a,q,_⟩=>(by cases q),ρ,rfl,hw ρ h⟩
 |a::l,ρ,h,hs=>by
  have go:∀{o},N7 G F (rep a) ρ=.ok o->∃ρ1,G (rep a) ρ=.ok ρ1/\F ρ1=.ok o:=λ{o} e=>by
   unfold N7 at e;cases e1:G (rep a) ρ with
   |ok ρ1=>rw[e1]at e;exact⟨ρ1,rfl,e⟩
   |ex z=>rw[e1]at e;cases e
   |bad=>rw[e1]at e;cases e
  rcases hs a (.head _) ρ h with⟨hp,e⟩|⟨hp,ρ2,e,h2⟩
  ·obtain⟨ρ1,e1,e2⟩:=go e;exact .inl ⟨⟨a,.head _,hp⟩,gM e1 e2⟩
  ·obtain⟨ρ1,e1,e2⟩:=go e;rw[aAy,S8 e1 e2];rcases nE rep p Iw hw l ρ2 h2 (λb hb=>hs b (.tail _ hb))with⟨⟨b,hb,q⟩,e3⟩|⟨q,e3⟩
   ·exact .inl ⟨⟨b,.tail _ hb,q⟩,e3⟩
   ·exact .inr ⟨λ⟨b,hb,q'⟩=>by
     cases hb with
     |head=>exact hp q'
     |tail _ hb=>exact q ⟨b,hb,q'⟩,e3⟩
def PC {α:Type}{G:D->Ev->R Ev}{F F2:Ev->R Out}{x d:D}{l:List α}{ρ:Ev}(rep:α->D)(p:α->Prop)(Iw:Ev->Prop)(h:Iw ρ)(hs:∀a∈l,∀ρ,Iw ρ->(p a/\N7 G F (rep a) ρ=.ok (.rt x))\/(¬p a/\∃ρ2,N7 G F (rep a) ρ=.ok (.nx ρ2)/\Iw ρ2))(yes:(∃a∈l,p a)->x=d)(no:¬(∃a∈l,p a)->∀ao,Iw ao->L4 (F2 ao)=.ok d):L4 (C3 (M3 G F (l.map rep) ρ) F2)=.ok d:=by
 rcases nE (Iv:=Iw) rep p Iw (λ_ h=>h) l ρ h hs with⟨q,e⟩|⟨q,ρ2,e,h2⟩
 ·rw[e,<-yes q];rfl
 ·rw[e];exact no q ρ2 h2
def yE (pts:List G.V):J7 (pts.map vd)<=5:=by
 induction pts with
 |nil=>simp[J7]
 |cons v l ih=>rw[aAy,J7];simp[E6,J7]at ih⊢;lia
def OU (pts:List G.V):HD (.lst (pts.map vd)) (.lst [])=.ok (.bl (!pts.isEmpty)):=by have:=yE pts;unfold HD;rw[if_pos ⟨by rw[E6];lia,by simp[E6,J7]⟩];cases pts<;>simp[w6,X0]
def XF (W:List G.V)(u v:G.V):Prop:=G.cr u v≠0/\∃w∈W,G.c8 (G.cr u v) w≠0
def YN (W:List G.V)(u:G.V):Prop:=∃v∈W,XF W u v
def PZ {P:G.V}{ps:List G.V}(h:∃u∈(P::ps).map (· -P),YN ((P::ps).map (· -P)) u):fD (P::ps)=P::ps:=by unfold fD;rw[if_pos];obtain⟨u,hu,v,hv,c,w,hw,q⟩:=h;obtain⟨u,ba,rfl⟩:=aAo.mp hu;obtain⟨v,hv',rfl⟩:=aAo.mp hv;obtain⟨w,hw',rfl⟩:=aAo.mp hw;exact(G.nS<|.head _).mpr ⟨u,ba,v,hv',c,w,hw',q⟩
def XU {P:G.V}{ps:List G.V}(h:¬∃u∈(P::ps).map (· -P),YN ((P::ps).map (· -P)) u):fD (P::ps)=(P::ps)++[⟨P.x+1,P.y,P.z⟩,⟨P.x,P.y+1,P.z⟩,⟨P.x,P.y,P.z+1⟩]:=by unfold fD;rw[if_neg];intro s;obtain⟨u,hu,v,hv,c,w,hw,q⟩:=(G.nS<|aAL (a:=P)).mp s;exact h ⟨_,aBk hu,_,aBk hv,c,_,aBk hw,q⟩
def HG {pts:List G.V}(h:pts≠[]):G.l4 (fD pts):=by
 match pts,h with
 |P::r,_=>
  unfold fD;split
  ·assumption
  ·exact G.yD P (.head _)
def GN {pts:List G.V}(h:pts≠[])(hs:∀p∈pts,Sz 300 p)(hl:pts.length<=1000):dM [.lst (pts.map vd)]=.ok (.lst ((fD pts).map vd)):=by simp only[dM,u3];exact if_pos ⟨h,hs,hl⟩
def OB {pts:List G.V}(hs:∀p∈pts,Sz 40 p):(∀p∈fD pts,Sz 41 p)/\(fD pts).length<=pts.length+3:=by
 unfold fD;split
 ·exact⟨λp hp=>(hs p hp).mono,by lia⟩
 ·match pts,hs with
  |[],hs=>exact⟨λp hp=>(nomatch hp),aBc _⟩
  |P::r,hs=>
   refine⟨λp hp=>?_,by simp⟩;have hP:=hs P (.head _);have m:∀{i:Int},bits i<=40->bits i<=41:=λh=>f7 h (by lia);have a1:∀{i:Int},bits i<=40->bits (i+1)<=41:=λh=>bits_add h (show bits 1<=40 by decide);rcases aAP.mp hp with hp|hp
   ·exact(hs p hp).mono
   ·simp only[aAd,aAE,or_false]at hp;rcases hp with rfl|rfl|rfl
    ·exact⟨a1 hP.1,m hP.2.1,m hP.2.2⟩
    ·exact⟨m hP.1,a1 hP.2.1,m hP.2.2⟩
    ·exact⟨m hP.1,m hP.2.1,a1 hP.2.2⟩
end M
namespace DL
open PySem PySem.Spec L2
open PyProof.Rows hiding St
section
variable [Tabs]
end
end DL
namespace DL
open PySem PySem.Spec L2
open PyProof.Rows hiding St st
variable [Tabs]
section
end
end DL
namespace SD
open PySem
def IsD (h:Heap)(d:Addr)(es:Array DictEntry)(ep:Nat):Prop:=∃o,h.get? d=some o/\o.ExactDict/\o.data=.dict es ep
def IsD.at (x:IsD h d es ep)(e:∀o,h.get? d=some o->h'.get? d=some o):IsD h' d es ep:=let⟨o,a,r⟩:=x;⟨o,e o a,r⟩
def IsD.type {s:Shared}(x:IsD s.heap d es ep):s.TypeIs (.ref d) "dict":=let⟨o,a,r,_⟩:=x;⟨o,a,r.1⟩
section
variable{prog:Program} {w:World} {A:Around} {E:C8} {s:Shared} {d it:Addr} {es:Array DictEntry} {ep i:Nat}
def QI {Q:C8}(hd:(d==sysModules)=false)(hm:IsD s.heap d es ep)
  (hQ:Q (.ref s.heap.objs.size) {s with heap:=s.heap.push {cls:=.type "dict_keyiterator",data:=.fields #[.ref d,.int 0 0,.int es.size 0,.int ep 0]}}):wpAny (model prog w) A (pyIter (.ref d)) Q E s:=by
 have hT:=hm.type;obtain⟨o,ho,hc,zo⟩:=hm;refine aDW hT F.slot_dict_iter (aBf F.slot_dict_iter hT F.entry_dict_iter (aAa ?_)<|F.args_dict_iter_1 _);unfold Builtin.Dict.dictSlotNone;refine aAa (wpAny_notOrdered_dict hT<|aAb (?_:wpAny _ _ (aFH d>>=_) _ _ s));unfold aFH;rw[if_neg (by rw[hd];decide)];refine aAa (aAb<|aAa<|wpAny_dictEntries ho zo<|aAa<|wpAny_dictEpoch ho zo<|aAa<|aAS<|aAb ⟨_,rfl, "dict_keyiterator",_,⟨_,aAp _ rfl,rfl⟩,aDh.lookup,?_⟩);simpa[rawInt]using hQ
def EI {Q:Option Value->Shared->Prop}(hh:A.handled=none)(hit:s.heap.IsKeyIter it d i es.size ep)(hm:IsD s.heap d es ep)
  (hQ:∀(hi:i<es.size) h',h'.IsKeyIter it d (i+1) es.size ep->Heap.SameBut it s.heap h'->Q (some es[i].key) {s with heap:=h'}) (hE:es.size<=i->∀h',Heap.ExtBut it s.heap h'->Q none {s with heap:=h'}):wpAny (model prog w) A (pyNext (.ref it)) Q E s:=by
 have hT:=hit.typeIs;obtain⟨o,ho,hc,hd⟩:=hit;obtain⟨od,hod,gg,hdd⟩:=hm;have hown:Builtin.Dict_items.ownsTuple "dict_keyiterator"=false:=by decide
 unfold pyNext;refine aAa (aDR<|aBV (name:=aCw "__next__") hT aDh<|aBf aDh hT F.entry_dict_keyiterator_next (aAa<|aAb<|aAa<|aAa ?_)<|F.args_dict_keyiterator_next_1 _);refine aAa (aDa hT<|aAb<|aAa<|aFS ho hd ?_);simp only[hown,aAt,if_false];show wpAny _ _ (if(aDj d==Value.none)=true then _ else _) _ _ s;rw[if_neg (by intro z;cases z)];refine aAa (aAb<|aAa<|wpAny_dictEntries hod hdd ?_);rw[if_neg (by simp)];refine aAa (aAb<|aAa<|wpAny_dictEpoch hod hdd ?_);rw[if_neg (by simp)];refine aAb ?_;by_cases hi:i<es.size
 ·simp only[show¬((i:Int)<0)by lia,if_false,aBy,aAw hi];refine aAa ?_;refine aAa (aDa hT<|aAb<|aAa<|wpAny_isOneOf_keyiter hT ?_);show wpAny _ _ (setField (.ref it) 1 (rawInt<|(i:Int)+1)>>=_) _ _ s;refine aAa (aFT ho hd (by simp) ?_);have hit':(s.heap.update it (Obj.mapFields (·.setIfInBounds 1 (rawInt<|(i:Int)+1)))).IsKeyIter it d (i+1) es.size ep:=⟨_,aAY _ ho (Obj.isFreed_of_fields<|Obj.data_mapFields hd _),(Obj.cls_mapFields ..).trans hc,by rw[Obj.data_mapFields hd];simp[rawInt]⟩;refine aAa (aAJ (aAa (wpAny_isOneOf_keyiter (s:={s with heap:=s.heap.update it (Obj.mapFields (·.setIfInBounds 1 (rawInt<|(i:Int)+1)))}) hit'.typeIs (?_:wpAny _ _ (pure es[i].key) _ _ _))));exact aAb (aAb ⟨_,rfl,aAb (hQ hi _ hit'<|aEx ..)⟩)
 ·have hi:es.size<=i:=by lia
  simp only[show¬((i:Int)<0)by lia,if_false,aBy,aBz hi];refine aAa ?_;refine aAa (aDa hT<|aAb (?_:wpAny _ _ (setField (.ref it) 0 .none>>=_) _ _ s));refine aAa (aFT ho hd (by simp) (?_:wpAny _ _ (newExc (.type "StopIteration") []>>=_) _ _ _));refine aAa ?_;simp only[newExc,newTuple];refine aAa (aAS (aAa (m:=firstArgMember _ _) (aFZ (a:=Value.none) (by first|rfl|(simp only[firstArgMember];rfl)) (aAS ?_ (by size_fits)))) (by size_fits));simp only[raiseNew];refine aAa (wpAny_handled ?_);rw[show A.in1.handled=none from hh];refine aAa (aAb<|wpAny_throw ?_);refine aAa (aCY (T:= "StopIteration") (b:=true) ⟨_,aAp _ rfl,rfl⟩ aFU<|aAb<|hE hi _<|((aEx ..).extBut.push _).push _)
end
def MB {prog:Program}{w:World}{A:Around}(hh:A.handled=none)(I d:Addr)(af:d≠I)(es:Array DictEntry)(ep:Nat):
  Walks prog w A I [I,d] [I] es.size (λi v=>∃e,es[i]?=some e/\v=e.key) (λi h=>h.IsKeyIter I d i es.size ep/\IsD h d es ep)where
 sub:=λb hb=>by simp at hb;simp[hb]
 frame:=λ_ _ _ st hk=>⟨Heap.IsKeyIter.at st.1 λo e=>hk I (by simp) o e,st.2.at λo e=>hk d (by simp) o e⟩
 item:=λi s Q E hi st hQ=>EI hh st.1 st.2 (hE:=λz=>by lia) λhi h' hit hs=>hQ _ h' s.toks ⟨es[i],aAw hi,rfl⟩ ⟨hit,st.2.at λo e=>(hs.2 d af).trans e⟩ λb o hb e=>(hs.2 b (λz=>hb (by simp[z]))).trans e
 done:=λs Q E st hQ=>EI hh st.1 st.2 (λz=>by lia) λ_ h' he=>hQ h' s.toks λb o hb e=>he b o (λz=>hb (by simp[z])) e
 self:=λ_ _ _ _ st hQ=>wpAny_pyIter_keyiter st.1 hQ
section
variable{prog:Program} {w:World} {A:Around} {E:C8} {s:Shared} {d:Addr} {es:Array DictEntry} {ep:Nat}
def WP (hd:(d==sysModules)=false):PySem.W.KdlSrc prog w "dict" d d es.size (λi v=>∃e,es[i]?=some e/\v=e.key) (λh=>IsD h d es ep)where
 type:=λs h=>h.type
 there:=λh ⟨o,g,_⟩=>⟨aAf g,aAf g⟩
 keep:=λh h' x k=>x.at λo e=>k d (.inl rfl) o e
 notList:=by decide
 notTuple:=by decide
 hint:=λA E s Q ok q=>PySem.W.kdl_hint_dict ok.type q
 iter:=λA s hh ok=>⟨_,λi h=>h.IsKeyIter s.heap.objs.size d i es.size ep/\IsD h d es ep,λE Q q=>QI hd ok q,MB hh _ d (by obtain⟨o,g,_⟩:=ok;exact aAi (aAf g)) es ep,⟨_,aAp _ rfl,rfl,rfl⟩,ok.at λo e=>aAc _ e⟩
def collect_dk {Q:List Value->Shared->Prop}(hh:A.handled=none)(hd:(d==sysModules)=false)(hm:IsD s.heap d es ep)(hn:es.size<=sizeLine)
  (hQ:∀h' tk,(∀b o,s.heap.get? b=some o->h'.get? b=some o)->Q (es.toList.map (·.key)) {s with heap:=h',toks:=tk}):wpAny (model prog w) A (collect (.ref d)) Q E s:=by
 have ar:d<s.heap.objs.size:=by obtain⟨o,g,_⟩:=hm;exact aAf g
 unfold collect;refine aAa (aFR<|aBr PySem.F.entry_proto_collect ?_);rw[aAX PySem.F.plain_proto_collect _];show wpAny _ A.in1 (newList []>>=λl=>again (.builtin "list.__iadd__" ⟨[l,.ref d],[]⟩)) _ _ s;have hk1:∀b o,s.heap.get? b=some o->(s.heap.push {cls:=.type "list",data:=.seq ([]:List Value).toArray}).get? b=some o:=λb o e=>aAc _ e;have key:∀R:Result->Shared->Prop,(∀h' tk ic c',(∀b o,b≠s.heap.objs.size->(s.heap.push {cls:=.type "list",data:=.seq ([]:List Value).toArray}).get? b=some o->h'.get? b=some o)->h'.get? s.heap.objs.size=some {cls:=.type "list",dict:=none,data:=.seq ic c',slots:=#[]}->ItemsOf (λi v=>∃e,es[i]?=some e/\v=e.key) ic es.size->R (.ok (.ret (.ref s.heap.objs.size))) {s with heap:=h',toks:=tk})->
   codeAny (model prog w) A (.builtin "list.__iadd__" ⟨[.ref s.heap.objs.size,.ref d],[]⟩) R {s with heap:=s.heap.push {cls:=.type "list",data:=.seq ([]:List Value).toArray}}:=λR hR=>aBr PySem.F.entry_list_iadd (by
  rw[aAX PySem.F.plain_list_iadd _];exact PySem.W.kdl_extend (s:={s with heap:=s.heap.push {cls:=.type "list",data:=.seq ([]:List Value).toArray}}) (WP (es:=es) (ep:=ep) hd) hh (hm.at λo e=>hk1 d o e) s.heap.objs.size (aCh ar) (aCh ar) (.ref s.heap.objs.size) 0 (aAp _ rfl) hR hn)
 refine aAa (aAS<|aAb ⟨aBO PySem.F.plain_list_iadd _,key _ λh' tk acc c kp hS dc=>?_⟩);show wpAny _ A (load s.heap.objs.size>>=_) _ _ _;refine aAa (wpAny_load (s:={s with heap:=h',toks:=tk}) hS<|aAb ?_);have ea:acc.toList=es.toList.map (·.key):=by
  apply aDs;intro i;rw[aAD,aAB,aAB];by_cases hi:i<es.size
  ·have ue:i<acc.size:=by rw[dc.1];exact hi
   obtain⟨e,he,hv⟩:=dc.2 i _ (aAw ue);rw[he,aAw ue,hv];rfl
  ·rw[aBz (by rw[dc.1];lia),aBz (by lia)];rfl
 show Q acc.toList _;rw[ea];exact hQ h' tk λb o e=>kp b o (aAi<|aAf e) (hk1 b o e)
end
end SD
namespace DL
open PySem L2
section
variable [Tabs]
open Classical in
def uw (i:Nat) (ρ:Ev):R (List D):=match ρ[i]? with
 |some (.d kvs)=>if(kvs.map (·.1)).all X8=true/\kvs.length<=63 then .ok (Q9 (kvs.map (·.1)))else .bad
 |_=>.bad
theorem nA {K:PySem.W.Frag}{H:Hp}{O:Addr->Prop}:∀{es:List DictEntry} {kvs:List (D×D)},lY K H O es kvs->w9 K H O (es.map (·.key)) (kvs.map (·.1))
 |[],[],_=>.nil
 |e::es,p::kvs,.cons h t=>by obtain⟨⟨a,ea,r⟩,_⟩:=h;exact .cons ⟨.ref a,by show RelV (.ref a) e.key;rw[ea];rfl,r⟩ (nA t)
def AN (i:Nat){x:Str}{p p2 pos:Pos}(hh:X.calm=true)(hu:X.A.units+300<cLine)(hN:X.N[i]?=some x:=by rfl)(hv:zJ X.env.scope x:=by first|exact aCM rfl|exact aBW (aCM rfl)|exact aBW (aBW rfl))(hd:(x==("__debug__":Str))=false:=by decide)(gg:(x==("__classdict__":Str))=false:=by decide)
  (hg:Gl X "sorted":=by rfl) (hm:X.mg "sorted"=none:=by assumption) (hvb:bootBuiltins "sorted"=some (.builtin "sorted"):=by decide+kernel) (he:starEach [.Name x p2] X.env=(false,eval (.Name x p2) X.env)::starEach [] X.env:=by rfl) (bf:(backTo pos (starEach [] X.env)).any (·.1)=false:=by rfl):
  PF X (.Call (.Name "sorted" p) [.Name x p2] [] pos) (uw i):=by
 refine vU λpins s σ H Q I H9 O0 O ρ E q=>?_;unfold uw at q;cases e2:ρ[i]? with
 |none=>rw[e2]at q;exact aAm q
 |some sl=>
  rw[e2]at q;cases sl with
  |d kvs=>
   dsimp only at q;by_cases hc:(kvs.map (·.1)).all X8=true/\kvs.length<=63
   ·rw[if_pos hc]at q;obtain⟨a,o,es,h1,_,_,h4,h5,h6,nd⟩:=E.slot i _ e2;refine aAM (N0 I hg hm hvb ?_ (by decide) (by decide));have mo:PA X [.Name x p2] _:=J9 (R3 hN hv hd gg) aV he;refine aBF (D9 (mo pos pins s σ H (λvs H1=>vs=[.ref a]/\H1=H) I ⟨_,h1,rfl,rfl⟩) λus s1 ⟨vs,H1,I1,r1,ev,eH⟩=>?_) he bf;subst ev eH;obtain⟨u,rfl,ru⟩:=vals1 r1;cases ru;obtain⟨lh,ug⟩:=hc;obtain⟨hsys,hx,ea,ep,zo,ees⟩:=h5;have hD:SD.IsD s1.heap a ea ep:=⟨o,(I1.hok a _ h4).1,hx,zo⟩;have pt:∀d∈kvs.map (·.1),X8 d=true:=aBC.mp lh;have st:w9 X.K H1 O (ea.toList.map (·.key)) (kvs.map (·.1)):=by rw[ees];exact nA h6
    have hlen:(ea.toList.map (·.key)).length=kvs.length:=by rw[st.length,aAk]
    have hsz:ea.size=kvs.length:=by rw[<-hlen];simp
    have each:∀u∈ea.toList.map (·.key),∃d,d∈kvs.map (·.1)/\X8 d=true/\HV s1.heap u d:=λu hu=>by obtain⟨d,hd,v,rv,rp⟩:=st.get hu;exact⟨d,hd,pt d hd,Y9 I1 rp (L7<|pt d hd) rv⟩
    refine TS.sorted_keys (vs:=ea.toList.map (·.key)) (f:=true) (key:=HS s1.heap) (C:=λs'=>∃h' tk,s'={s1 with heap:=h',toks:=tk}/\∀b o,s1.heap.get? b=some o->h'.get? b=some o)
     (λ{Q'} hq=>SD.collect_dk (by simp[I1.ok.hd hh]) hsys hD (by rw[hsz];exact aAr ug (by decide)) λh' tk k=>hq _ ⟨h',tk,rfl,k⟩)
     (λs' ⟨h',tk,es',k⟩ s6 k6 x hx y hy prog w A E hA {Q} qq=>?_) (λh2 s' ⟨h',tk,es',k⟩ s6 k6 A {Q} qq=>?_) (by rw[hlen];lia) λs' gu h' l ⟨h1,tk,es',k⟩ pm srt k2 hl ⟨n,gl⟩=>?_
    ·subst es';obtain⟨d,_,pd,sr⟩:=each x hx;obtain⟨d',_,pd',wc⟩:=each y hy;rw[eF pd sr,eF pd' wc]at qq;exact KC pd pd' (sr.keeps λb o e _=>k6 b o (k b o e)) (wc.keeps λb o e _=>k6 b o (k b o e)) qq
    ·subst es';refine yP (λx hx=>?_) h2 qq;obtain⟨d,_,pd,sr⟩:=each x hx;exact⟨d,pd,sr.keeps λb o e _=>k6 b o (k b o e)⟩
    ·subst es';obtain⟨ou,st3,p2,we⟩:=iI (key:=HS s1.heap) st pm srt (λu d ⟨v,rv,rp⟩ hd=>eF (pt d hd) (Y9 I1 rp (L7<|pt d hd) rv)) pt nd;have e3:ou=Q9 (kvs.map (·.1)):=dH we (U3 _) λd=>by rw[p2.mem_iff,G8 pt]
     subst e3;obtain⟨wv,ph,lu⟩:=st3.ac2;have I2':=I1.kept (h':=h1) (t':=tk) k;have I3:=I2'.laid (a:=l) (o:=.lst wv) (h':=h') (t':=tk) k2 hl ⟨by rw[lu.length,p2.length_eq,aAk];exact aAr ug (by decide),gu,n,ph,gl⟩;exact⟨.ref l,_,I3,rfl,q wv _ l (Same.refl _) (I2'.hok.fresh hl) lu⟩
   ·rw[if_neg hc]at q;exact aAm q
  |_=>exact aAm q
end
end DL
namespace M
open PySem L2 DL
variable [Tabs]
def lN (xs:List D) (most:Int):List G.V:=if((cJ xs 1).fdiv 5).fmod 3=0 then fD (gE xs most)else(fD<|gE xs most).map (xM<|UK<|(cJ xs 1).fdiv 5).put
open Classical in
def mN:List D->R D
 |[.lst xs,.int most]=>if M1 1048576 xs/\xs.length<=63/\4<=most/\most<=20 then .ok (.lst ((lN xs most).map vd))else .bad
 |_=>.bad
def NP {xs:List D}{most:Int}(hi:M1 1048576 xs)(hl:xs.length<=63)(h0:4<=most)(h1:most<=20):mN [.lst xs,.int most]=.ok (.lst ((lN xs most).map vd)):=if_pos ⟨hi,hl,h0,h1⟩
def XA {l:List Int}{P:G.V}(h:bU l)(hP:Sz 41 P):Sz 300 ((xM l).put P):=by
 have g:∀k,bits (l.getD k 0)<=100:=λk=>by
  rw[aAn];cases e:l[k]? with
  |none=>exact(show bits 0<=100 by decide)
  |some i=>exact h.2 i (aAl e)
 have hx:bits (P.x+l.getD 0 0*P.y)<=142:=bits_add (f7 hP.1 (by decide)) (bits_mul (g 0) hP.2.1);have hy:bits (P.y+l.getD 1 0*P.z)<=142:=bits_add (f7 hP.2.1 (by decide)) (bits_mul (g 1) hP.2.2);have hz:bits (P.z+l.getD 2 0*(P.x+l.getD 0 0*P.y))<=243:=bits_add (f7 hP.2.2 (by decide)) (bits_mul (g 2) hx);have ad:∀{x:Int} (k:Nat),bits x<=243->bits (x+l.getD k 0)<=300:=λk h=>f7 (bits_add h (f7 (g k) (by decide))) (by decide);have hx':=f7 hx (show 142<=243 by decide);have hy':=f7 hy (show 142<=243 by decide);unfold xM G.Sl.put;dsimp only;split
 ·exact⟨ad 3 hy',ad 4 hx',ad 5 hz⟩
 ·exact⟨ad 3 hx',ad 4 hy',ad 5 hz⟩
def HE (s:G.Sl){pts:List G.V}(h:G.l4 pts):G.l4 (pts.map s.put):=G.IU s.unit (λX hX=>by rw[<-s.ae4];exact aBk hX) h
def RN {xs:List D}{most:Int}(hi:M1 1048576 xs)(h0:4<=most)(h1:most<=20):G.l4 (lN xs most)/\(∀p∈lN xs most,Sz 300 p)/\((lN xs most).length:Int)<=most+3:=by
 obtain⟨p1,p2,p3⟩:=JN hi h0 h1;have ne:gE xs most≠[]:=λz=>by rw[z]at p2;simp at p2
 have s:=HG ne;obtain⟨z1,z2⟩:=OB p1;unfold lN;split
 ·exact⟨s,λp hp=>(z1 p hp).mono,by lia⟩
 ·refine⟨HE _ s,λp hp=>?_,by rw[aAk];lia⟩;obtain⟨q,hq,rfl⟩:=aAo.mp hp;exact XA (KB _) (z1 q hq)
def SW (c P:G.V):G.V×Int:=(G.cE c (G.q9 c),G.c8 (G.cE c<|G.q9 c) P)
def iK (A B C:G.V):SW (G.cr (B-A) (C-A)) A=G.d4 A B C:=rfl
def Z8 (f:G.V×Int):D:=qP f.1 f.2
open Classical in
def gK:List D->R D:=v1 λa b c=>v1 λd e f=>sK (if(⟨a,b,c⟩:G.V)≠0/\Sz 2003 ⟨a,b,c⟩/\Sz 1000 ⟨d,e,f⟩then .ok (Z8<|SW ⟨a,b,c⟩ ⟨d,e,f⟩)else .bad)
def qU {c P:G.V}(h:c≠0)(hc:Sz 2003 c)(hP:Sz 1000 P):gK [vd c,vd P]=.ok (Z8 (SW c P)):=if_pos ⟨h,hc,hP⟩
open Classical in
def aE:List D->R D
 |[.lst ds]=>match F7 ds with
  |some pts=>if W8 900 pts/\G.l4 pts/\(d8 pts).length<=14 then .ok (.lst ((k7 (d8 pts)).map Z8))else .bad
  |_=>.bad
 |_=>.bad
def BG {pts:List G.V}(h1:W8 900 pts)(h2:G.l4 pts)(h3:(d8 pts).length<=14):aE [.lst (pts.map vd)]=.ok (.lst ((k7 (d8 pts)).map Z8)):=by simp only[aE,u3];exact if_pos ⟨h1,h2,h3⟩
def cG (a n:Nat):List D:=(List.range' a n).map λ(k:Nat)=>D.int (k:Int)
def ZV {a b:Nat}(ha:a<=1000000)(h:b<=1000000):dZ [.int (a:Int),.int (b:Int)]=.ok (cG a (b-a)):=by
 show(if oP (a:Int) (b:Int) 1 then R.ok (tR a 1<|fW a b 1)else R.bad)=_;rw[if_pos ⟨by decide,by decide,by lia,by lia,by lia,by lia⟩];have e:fW (a:Int) (b:Int) 1=b-a:=by
  unfold fW;split
  ·simp
  ·lia
 rw[e];unfold tR cG;rw[List.range'_eq_map_range,aBi];congr 1;refine aDF λk _=>?_;simp
def bj {n:Nat}(h:n<=1000000):dZ [.int (n:Int)]=.ok (cG 0 n):=by rw[aj h];unfold cG;rw[List.range_eq_range']
theorem nC {G:D->Ev->R Ev}{F:Ev->R Out}(Iv:Nat->Ev->Prop):∀{n a:Nat} {ρ:Ev},(∀i,a<=i->i<a+n->∀ρ,Iv i ρ->∃ρ2,N7 G F (.int (i:Int)) ρ=.ok (.nx ρ2)/\Iv (i+1) ρ2)->Iv a ρ->∃ao,M3 G F (cG a n) ρ=.ok (.nx ao)/\Iv (a+n) ao
 |0,a,ρ,_,h=>⟨ρ,rfl,h⟩
 |n+1,a,ρ,hs,h=>by
  obtain⟨ρ2,e,h2⟩:=hs a (aAh _) (by lia) ρ h;obtain⟨ao,e',h'⟩:=nC Iv (n:=n) (λi h1 h2=>hs i (by lia) (by lia)) h2;refine⟨ao,?_,by rw[show a+(n+1)=a+1+n by lia];exact h'⟩;show M3 G F (.int (a:Int)::cG (a+1) n) ρ=_;unfold N7 at e;cases e1:G (.int (a:Int)) ρ with
  |ok ρ1=>rw[e1]at e;exact(S8 e1 e).trans e'
  |ex z=>rw[e1]at e;cases e
  |bad=>rw[e1]at e;cases e
def N9 (kvs:List (D×D)):List D:=kvs.map (·.1)
def CY (S:List G.V)(kvs:List (D×D)):Prop:=(N9 kvs).Nodup/\∀x∈N9 kvs,∃f:G.V×Int,x=Z8 f/\G.IsFace S f.1 f.2
def Cov (S:List G.V)(kvs:List (D×D))(i j k:Nat):Prop:=∀A B C,S[i]?=some A->S[j]?=some B->S[k]?=some C->(G.Up S A B C->Z8 (G.d4 A B C)∈N9 kvs)/\(G.Dn S A B C->Z8 (G.d4 A C B)∈N9 kvs)
def S5 (S:List G.V)(kvs:List (D×D))(i j k:Nat):Prop:=∀i' j' k',i'<j'->j'<k'->(i'<i\/(i'=i/\(j'<j\/(j'=j/\k'<k))))->Cov S kvs i' j' k'
def CY.put {S:List G.V}{kvs:List (D×D)}{f:G.V×Int}{v:D}(h:CY S kvs)(hf:G.IsFace S f.1 f.2):CY S (W9 kvs (Z8 f) v):=by
 refine⟨rA _ _ _ h.1,λx hx=>?_⟩;rcases U5.mp hx with hx|rfl
 ·exact h.2 x hx
 ·exact⟨f,rfl,hf⟩
theorem mX {S:List G.V}:∀{l:List D},l.Nodup->(∀x∈l,∃f:G.V×Int,x=Z8 f/\G.IsFace S f.1 f.2)->∃fs:List (G.V×Int),l=fs.map Z8/\fs.Nodup/\∀f∈fs,G.IsFace S f.1 f.2
 |[],_,_=>⟨[],rfl,.nil,λf hf=>by cases hf⟩
 |x::l,nd,h=>by
  obtain⟨f,rfl,hf⟩:=h _ (.head _);obtain⟨n1,n2⟩:=aAG.mp nd;obtain⟨fs,rfl,nf,zl⟩:=mX n2 λy hy=>h y (.tail _ hy);refine⟨f::fs,rfl,aAG.mpr ⟨λz=>n1 (aBk z),nf⟩,λg hg=>?_⟩;cases hg with
  |head=>exact hf
  |tail _ hg=>exact zl g hg
def CY.few {S:List G.V}{kvs:List (D×D)}(hs:G.l4 S)(ho:S.Pairwise λa b=>G.i7 (b-a))(qi:S.length<=14)(h:CY S kvs):kvs.length<=63:=by
 obtain⟨fs,e,nd,hf⟩:=mX h.1 h.2;have few:=G.aH hs ho nd hf;have three:=G.dP hs ho hf;have nn:S.length*S.length<=14*S.length:=Nat.mul_le_mul_right _ qi;have:kvs.length=fs.length:=by have:=congrArg aFW e;unfold N9 at this;rw[aAk,aAk]at this;exact this
 lia
def aQ (S:List G.V)(c A:G.V):List Int:=S.map λX=>G.c8 c (X-A)
def HC (c A:G.V):G.c8 c (A-A)=0:=by simp[G.c8]
def DA {S:List G.V}{c A:G.V}(hA:A∈S):(((∀X∈S,G.c8 c (X-A)<=0)/\∃X∈S,G.c8 c (X-A)<0)↔aN (aQ S c A)=0/\qK (aQ S c A)<0)/\(((∀X∈S,0<=G.c8 c (X-A))/\∃X∈S,0<G.c8 c (X-A))↔qK (aQ S c A)=0/\0<aN (aQ S c A)):=by
 have mem:∀x,x∈aQ S c A↔∃X∈S,G.c8 c (X-A)=x:=λx=>aAo;have z0:(0:Int)∈aQ S c A:=(mem 0).mpr ⟨A,hA,HC c A⟩;have ne:aQ S c A≠[]:=λz=>by rw[z]at z0;cases z0
 have up:∀X∈S,G.c8 c (X-A)<=aN (aQ S c A)/\qK (aQ S c A)<=G.c8 c (X-A):=λX hX=>⟨fC ((mem _).mpr ⟨X,hX,rfl⟩),uJ ((mem _).mpr ⟨X,hX,rfl⟩)⟩;have u0:=fC z0;have d0:=uJ z0;obtain⟨Y,hY,eY⟩:=(mem _).mp (cN ne);obtain⟨Z,hZ,eZ⟩:=(mem _).mp (yR ne);refine⟨⟨λ⟨h,X,hX,l⟩=>?_,λh=>⟨λX hX=>?_,Z,hZ,by lia⟩⟩,λ⟨h,X,hX,l⟩=>?_,λh=>⟨λX hX=>?_,Y,hY,by lia⟩⟩
 ·have:=h Y hY;have:=up X hX
  lia
 ·have:=up X hX
  lia
 ·have:=h Z hZ;have:=up X hX
  lia
 ·have:=up X hX
  lia
open Classical in
def MY (S:List G.V) (kvs:List (D×D)) (A B C:G.V):List (D×D):=if G.Up S A B C then W9 kvs (Z8<|G.d4 A B C) (.bl true)else kvs
open Classical in
def QE (S:List G.V) (kvs:List (D×D)) (A B C:G.V):List (D×D):=if G.Dn S A B C then W9 (MY S kvs A B C) (Z8<|G.d4 A C B) (.bl true)else MY S kvs A B C
def OE {S:List G.V}{kvs:List (D×D)}{A B C:G.V}(hA:A∈S)(hB:B∈S)(hC:C∈S)(h:CY S kvs):CY S (MY S kvs A B C)/\(∀x∈N9 kvs,x∈N9 (MY S kvs A B C))/\(G.Up S A B C->Z8 (G.d4 A B C)∈N9 (MY S kvs A B C)):=by
 unfold MY;split
 ·rename_i u;exact⟨h.put (G.mH hA hB hC u),λx hx=>U5.mpr (.inl hx),λ_=>U5.mpr (.inr rfl)⟩
 ·rename_i u;exact⟨h,λx hx=>hx,λz=>absurd z u⟩
def WM {S:List G.V}{kvs:List (D×D)}{A B C:G.V}(hA:A∈S)(hB:B∈S)(hC:C∈S)(h:CY S kvs):CY S (QE S kvs A B C)/\(∀x∈N9 kvs,x∈N9 (QE S kvs A B C))/\(G.Up S A B C->Z8 (G.d4 A B C)∈N9 (QE S kvs A B C))/\(G.Dn S A B C->Z8 (G.d4 A C B)∈N9 (QE S kvs A B C)):=by
 obtain⟨a1,a2,a3⟩:=OE (B:=B) (C:=C) hA hB hC h;unfold QE;split
 ·rename_i u;exact⟨a1.put (G.mH hA hC hB<|G.DU.mp u),λx hx=>U5.mpr (.inl (a2 x hx)),λz=>U5.mpr (.inl (a3 z)),λ_=>U5.mpr (.inr rfl)⟩
 ·rename_i u;exact⟨a1,a2,a3,λz=>absurd z u⟩
def S5.step {S:List G.V}{kvs gc:List (D×D)}{i j k:Nat}(h:S5 S kvs i j k)(hk:∀x∈N9 kvs,x∈N9 gc)(hc:Cov S gc i j k):S5 S gc i j (k+1):=λi' j' k' a b l=>by
 by_cases q:i'<i\/(i'=i/\(j'<j\/(j'=j/\k'<k)))
 ·intro A B C e1 e2 e3;have:=h i' j' k' a b q A B C e1 e2 e3;exact⟨λu=>hk _ (this.1 u),λu=>hk _ (this.2 u)⟩
 ·have:i'=i/\j'=j/\k'=k:=by lia
  obtain⟨rfl,rfl,rfl⟩:=this;exact hc
def S5.j {S:List G.V}{kvs:List (D×D)}{i j:Nat}(h:S5 S kvs i j S.length):S5 S kvs i (j+1) 0:=λi' j' k' a b l A B C e1 e2 e3=>by have:k'<S.length:=(aAv.mp e3).1;exact h i' j' k' a b (by lia) A B C e1 e2 e3
def S5.i {S:List G.V}{kvs:List (D×D)}{i:Nat}(h:S5 S kvs i S.length 0):S5 S kvs (i+1) 0 0:=λi' j' k' a b l A B C e1 e2 e3=>by have:j'<S.length:=(aAv.mp e2).1;exact h i' j' k' a b (by lia) A B C e1 e2 e3
def S5.j0 {S:List G.V}{kvs:List (D×D)}{i:Nat}(h:S5 S kvs i 0 0):S5 S kvs i (i+1) 0:=λi' j' k' a b l=>h i' j' k' a b (by lia)
def S5.k0 {S:List G.V}{kvs:List (D×D)}{i j:Nat}(h:S5 S kvs i j 0):S5 S kvs i j (j+1):=λi' j' k' a b l=>h i' j' k' a b (by lia)
def NN {S:List G.V}{kvs:List (D×D)}(hs:G.l4 S)(K:CY S kvs)(h:S5 S kvs S.length 0 0)(x:D):x∈N9 kvs↔∃f:G.V×Int,x=Z8 f/\G.IsFace S f.1 f.2:=by
 refine⟨K.2 x,λ⟨f,e,hf⟩=>?_⟩;obtain⟨A,B,C,⟨i,j,k,a,b,e1,e2,e3⟩,q⟩:=(G.HU hs).mp hf;have:=h i j k a b (.inl (aAv.mp e1).1) A B C e1 e2 e3;rw[e];rcases q with⟨u,q⟩|⟨u,q⟩
 ·rw[<-show G.d4 A B C=f from q];exact this.1 u
 ·rw[<-show G.d4 A C B=f from q];exact this.2 u
def qN {pts:List G.V}{kvs:List (D×D)}(h1:W8 900 pts)(h2:G.l4 pts)(h3:(d8 pts).length<=14)(K:CY (d8 pts) kvs)(h:S5 (d8 pts) kvs (d8 pts).length 0 0):Q9 (N9 kvs)=(k7 (d8 pts)).map Z8:=by
 obtain⟨m,r,e,L⟩:=X7 h1 h2 (by lia);have qr:=h3;rw[e]at qr;have FL:=F1 L qr;rw[<-e]at FL L;have pt:∀d∈N9 kvs,X8 d=true:=λd hd=>by obtain⟨f,rfl,_⟩:=K.2 d hd;rfl
 refine dH (U3 _) ?_ λd=>?_
 ·have:=FL.2;unfold pW at this;unfold ND;rw[aBD]at this⊢;exact this
 ·rw[G8 pt,NN L.good.solid K h,aAo];constructor
  ·rintro⟨f,rfl,hf⟩;exact⟨f,(FL.1 f).mpr hf,rfl⟩
  ·rintro⟨f,hf,rfl⟩;exact⟨f,rfl,(FL.1 f).mp hf⟩
def LJ {G:D->Ev->R Ev}{F:Ev->R Out}{Post:Ev->Prop}{n a:Nat}{ρ:Ev}(Iv:Nat->Ev->Prop)(hs:∀i,a<=i->i<a+n->∀ρ,Iv i ρ->∃ρ2,N7 G F (.int (i:Int)) ρ=.ok (.nx ρ2)/\Iv (i+1) ρ2)(h0:Iv a ρ)(fin:∀ao,Iv (a+n) ao->Post ao):∃ρ2,M3 G F (cG a n) ρ=.ok (.nx ρ2)/\Post ρ2:=by obtain⟨ao,e,h⟩:=nC Iv hs h0;exact⟨ao,e,fin ao h⟩
def PX {G:D->Ev->R Ev}{F F2:Ev->R Out}{d:D}{n a:Nat}{ρ:Ev}(Iv:Nat->Ev->Prop)(hs:∀i,a<=i->i<a+n->∀ρ,Iv i ρ->∃ρ2,N7 G F (.int (i:Int)) ρ=.ok (.nx ρ2)/\Iv (i+1) ρ2)(h0:Iv a ρ)(h2:∀ao,Iv (a+n) ao->L4 (F2 ao)=.ok d):L4 (C3 (M3 G F (cG a n) ρ) F2)=.ok d:=by obtain⟨ao,e,h⟩:=nC Iv hs h0;rw[e];exact h2 ao h
def IR {r:R Out}{ρ:Ev}{F:Ev->R Out}{x:R Out}(h1:r=.ok (.nx ρ))(h2:F ρ=x):C3 r F=x:=by rw[h1];exact h2
def DO {kvs:List (D×D)}{f:G.V×Int}{v:D}{a b:Sl}{r:Ev}(h:kvs.length<=63):rE 2 (a::b::.d kvs::r) (Z8 f) v=.ok (.nx (a::b::.d (W9 kvs (Z8 f) v)::r)):=if_pos ⟨rfl,rfl,aAr h (by decide)⟩
def zV {S:List G.V}{i:Nat}{A:G.V}(h:S[i]?=some A):L3 (.lst (S.map vd)) (.int (i:Int))=.ok (vd A):=N1 (by rw[V6 (by lia),aBy,aAD,h];rfl)
def KL (A B C:G.V):(⟨0-(G.cr (B-A) (C-A)).x,0-(G.cr (B-A) (C-A)).y,0-(G.cr (B-A) (C-A)).z⟩:G.V)=G.cr (C-A) (B-A):=by rw[G.vK];apply G.ext<;>simp
def QL {S:List G.V}{c A:G.V}(h:S≠[]):lL [.lst ((aQ S c A).map D.int)]=.ok (.int (aN (aQ S c A)))/\CQ [.lst ((aQ S c A).map D.int)]=.ok (.int (qK (aQ S c A))):=by
 have ne:aQ S c A≠[]:=by unfold aQ;simpa using h
 constructor
 ·simp only[lL,cM];exact if_pos ne
 ·simp only[CQ,cM];exact if_pos ne
def pv1 (p:D)(S:List G.V)(i:Nat)(ρ:Ev):Prop:=∃kvs a3 a4 a5 a6 a7,ρ=[Sl.v p,Sl.v (.lst (S.map vd)),.d kvs,a3,a4,a5,a6,a7]/\CY S kvs/\S5 S kvs i 0 0
def pv2 (p:D)(S:List G.V)(i j:Nat)(ρ:Ev):Prop:=∃kvs a4 a5 a6 a7,ρ=[Sl.v p,Sl.v (.lst (S.map vd)),.d kvs,.v (.int (i:Int)),a4,a5,a6,a7]/\CY S kvs/\S5 S kvs i j 0
def pv3 (p:D)(S:List G.V)(i j k:Nat)(ρ:Ev):Prop:=∃kvs a5 a6 a7,ρ=[Sl.v p,Sl.v (.lst (S.map vd)),.d kvs,.v (.int (i:Int)),.v (.int (j:Int)),a5,a6,a7]/\CY S kvs/\S5 S kvs i j k
open Classical in
def rF:List D->R D:=v4 λa b c d=>v1 λx y z=>sK (if Sz 2003 ⟨a,b,c⟩/\Sz 1000 ⟨x,y,z⟩then .ok (.bl (decide (G.c8 ⟨a,b,c⟩ ⟨x,y,z⟩=d)))else .bad)
def XC {f:G.V×Int}{P:G.V}(h:Sz 2003 f.1)(hP:Sz 1000 P):rF [Z8 f,vd P]=.ok (.bl (decide (G.c8 f.1 P=f.2))):=if_pos ⟨h,hP⟩
def wX {f:G.V×Int}{P:G.V}(h:Sz 2003 f.1)(hP:Sz 1000 P):j4 [Z8 f,vd P]=.ok (.int (G.c8 f.1 P)):=if_pos ⟨⟨n9 h.1,n9 h.2.1,n9 h.2.2⟩,n9 hP.1,n9 hP.2.1,n9 hP.2.2⟩
def IK {α:Type}{l:List α}(nd:l.Nodup):2<l.length↔∃a b c,a∈l/\b∈l/\c∈l/\a≠b/\a≠c/\b≠c:=by
 constructor
 ·intro h;match l,h,nd with
  |a::b::c::l,_,nd=>
   refine⟨a,b,c,by simp,by simp,by simp,?_,?_,?_⟩
   ·rintro rfl;simp at nd
   ·rintro rfl;simp at nd
   ·rintro rfl;simp at nd
 ·rintro⟨a,b,c,ha,hb,hc,h1,h2,h3⟩
  classical
  have n3:[a,b,c].Nodup:=by simp[h1,h2,h3]
  have:=G.O5 n3 (m:=l) λv hv=>by simp only[aAd,aAE,or_false]at hv;rcases hv with rfl|rfl|rfl<;>assumption
  exact this
def QA (fs:List (G.V×Int)) (X:G.V):List (G.V×Int):=fs.filter λf=>decide (G.c8 f.1 X=f.2)
def vJ {pts:List G.V}(h1:W8 900 pts)(h2:G.l4 pts)(h3:(d8 pts).length<=14):((d8 pts).filter λX=>decide (2<(QA (k7 (d8 pts)) X).length))=A2 pts:=by
 obtain⟨m,r,e,L⟩:=X7 h1 h2 (by lia);have qr:=h3;rw[e]at qr;have FL:=F1 L qr;rw[<-e]at FL L;have nd:(k7<|d8 pts).Nodup:=M2 (V9 FL.2);have hs:=L.good.solid;have ho:=L.good.ord;refine dU ((F4 pts).sublist List.filter_sublist) (F4 _) λX=>?_;rw[aCz,decide_eq_true_eq,oV h1 h2 h3,IK (l:=QA (k7<|d8 pts) X) (nd.sublist List.filter_sublist)];have on:∀f,f∈QA (k7<|d8 pts) X↔G.IsFace (d8 pts) f.1 f.2/\G.c8 f.1 X=f.2:=λf=>by unfold QA;rw[aCz,decide_eq_true_eq,FL.1]
 constructor
 ·rintro⟨hX,a,b,c,ha,hb,hc,ab,ac,bc⟩;rw[on]at ha hb hc;exact⟨a,ha.1,G.AR hs ho hX ha.1 hb.1 hc.1 ha.2 hb.2 hc.2 ab ac bc⟩
 ·rintro⟨f,hf,hX⟩;obtain⟨g1,g2,f1,f2,n1,n2,n3,x1,x2,x3⟩:=G.uE hs ho hf hX;have ni:=(G.d6.mp<|(hf.aa2 ho).aa3 hX).1;exact⟨ni,f,g1,g2,(on f).mpr ⟨hf,x1⟩,(on g1).mpr ⟨f1,x2⟩,(on g2).mpr ⟨f2,x3⟩,n1,n2,n3⟩
open Classical in
def U7:List D->R D
 |[.lst ds,.lst es]=>match F7 ds with
  |some pts=>if es=(k7 (d8 pts)).map Z8/\W8 900 pts/\G.l4 pts/\(d8 pts).length<=14 then .ok (.lst ((A2 pts).map vd))else .bad
  |_=>.bad
 |_=>.bad
def wM {pts:List G.V}(h1:W8 900 pts)(h2:G.l4 pts)(h3:(d8 pts).length<=14):U7 [.lst (pts.map vd),.lst ((k7 (d8 pts)).map Z8)]=.ok (.lst ((A2 pts).map vd)):=by simp only[U7,u3];exact if_pos ⟨rfl,h1,h2,h3⟩
def vS (cs:List G.V)(k:Int):G.V:=cs.getD (k.fmod cs.length).toNat 0
def lw (g:Int->Int->Int)(a b:G.V):G.V:=⟨g a.x b.x,g a.y b.y,g a.z b.z⟩
def lq (g:Int->Int->Int->Int)(a b c:G.V):G.V:=⟨g a.x b.x c.x,g a.y b.y c.y,g a.z b.z c.z⟩
def sG (c k:Int):Int:=(c.fdiv 9000*k).fmod 2000000000000000000000000000001-1000000000000000000000000000000
def WU (w:Int)(A B C:G.V):G.V:=if w=3 then lq (λa b d=>(a+7*b+8*d).fdiv 16) A B C else lw (λa b=>(a+b).fdiv 2) A B
def RT (c:Int)(cs:List G.V):G.V:=WU (c.fmod 6) (vS cs<|c.fdiv 6) (vS cs<|c.fdiv 70) (vS cs<|c.fdiv 800)
def UJ (c:Int)(cs:List G.V):G.V:=
 if c.fmod 6=0 then vS cs (c.fdiv 6)
 else if c.fmod 6=1 then lw (λa b=>(a+b).fdiv 2) (vS cs<|c.fdiv 6) (vS cs<|c.fdiv 70)
 else if c.fmod 6=2 then lq (λa b d=>(a+b+d).fdiv 3) (vS cs<|c.fdiv 6) (vS cs<|c.fdiv 70) (vS cs<|c.fdiv 800)
 else if c.fmod 6=4 then⟨(RT c cs).x+sG c 5,(RT c cs).y+sG c 6,(RT c cs).z+sG c 7⟩
 else⟨(RT c cs).x+(c.fdiv 9000).fmod 3-1,(RT c cs).y+(c.fdiv 18000).fmod 3-1,(RT c cs).z+(c.fdiv 27000).fmod 3-1⟩
open Classical in
def aR:List D->R D
 |[.int c,.lst ds]=>match F7 ds with
  |some cs=>if bits c<=3000000/\cs≠[]/\(∀p∈cs,Sz 400 p)/\cs.length<=1000 then .ok (vd (UJ c cs))else .bad
  |_=>.bad
 |_=>.bad
def uO {cs:List G.V}(h:cs≠[])(k:Int):vS cs k∈cs/\cs[(k.fmod cs.length).toNat]?=some (vS cs k)/\0<=k.fmod cs.length:=by
 have l0:(0:Int)<cs.length:=by
  have:cs.length≠0:=λz=>h (aCZ z)
  lia
 have r:=aY (a:=k) l0;have hk:(k.fmod cs.length).toNat<cs.length:=by lia
 unfold vS;rw[aAn,aAg hk];exact⟨aBs hk,rfl,r.1⟩
def ZK {cs:List G.V}(h:cs≠[])(k:Int):L3 (.lst (cs.map vd)) (.int (k.fmod cs.length))=.ok (vd (vS cs k)):=by obtain⟨_,e,r⟩:=uO h k;exact N1 (by rw[V6 r,aAD,e];rfl)
def IC {c:Int}{cs:List G.V}(hc:bits c<=3000000)(h:cs≠[])(hs:∀p∈cs,Sz 400 p)(hl:cs.length<=1000):aR [.int c,.lst (cs.map vd)]=.ok (vd (UJ c cs)):=by simp only[aR,u3];exact if_pos ⟨hc,h,hs,hl⟩
def WS {c:Int}{cs:List G.V}(h:cs≠[])(hs:∀p∈cs,Sz 400 p):Sz 900 (UJ c cs):=by
 have a:∀k,Sz 400 (vS cs k):=λk=>hs _ (uO h k).1;have f2:∀{x y:Int},bits x<=400->bits y<=400->bits ((x+y).fdiv 2)<=450:=λh1 h2=>f7 (bits_fdiv<|bits_add h1 h2) (by decide);have f3:∀{x y z:Int},bits x<=400->bits y<=400->bits z<=400->bits ((x+y+z).fdiv 3)<=450:=λh1 h2 h3=>f7 (bits_fdiv (bits_add (bits_add h1 h2) (f7 h3 (by decide)))) (by decide);have f16:∀{x y z:Int},bits x<=400->bits y<=400->bits z<=400->bits ((x+7*y+8*z).fdiv 16)<=450:=λ{x y z} h1 h2 h3=>f7 (bits_fdiv (bits_add (n:=421) (f7 (bits_add (n:=410) (f7 h1 (by decide)) (f7 (bits_mul (show bits 7<=10 by decide) h2) (by decide))) (by decide)) (f7 (bits_mul (show bits 8<=10 by decide) h3) (by decide)))) (by decide);have dp:Sz 450 (RT c cs):=by
  unfold RT WU;split
  ·exact⟨f16 (a _).1 (a _).1 (a _).1,f16 (a _).2.1 (a _).2.1 (a _).2.1,f16 (a _).2.2 (a _).2.2 (a _).2.2⟩
  ·exact⟨f2 (a _).1 (a _).1,f2 (a _).2.1 (a _).2.1,f2 (a _).2.2 (a _).2.2⟩
 have fr:∀k,bits (sG c k)<=450:=λk=>by unfold sG;exact f7 (bits_sub (n:=110) (bits_fmod (by decide) (by decide)) (by decide)) (by decide)
 have ad:∀{x y:Int},bits x<=450->bits y<=450->bits (x+y)<=900:=λh1 h2=>f7 (bits_add h1 h2) (by decide);have st:∀{x:Int} (y:Int),bits x<=450->bits (x+y.fmod 3-1)<=900:=λ{x} y h1=>by exact f7 (bits_sub (bits_add h1 (bits_fmod (by decide) (by decide))) (show bits 1<=451 by decide)) (by decide)
 unfold UJ
 repeat' split
 ·exact(a _).mono
 ·exact⟨f7 (f2 (a _).1 (a _).1) (by decide),f7 (f2 (a _).2.1 (a _).2.1) (by decide),f7 (f2 (a _).2.2 (a _).2.2) (by decide)⟩
 ·exact⟨f7 (f3 (a _).1 (a _).1 (a _).1) (by decide),f7 (f3 (a _).2.1 (a _).2.1 (a _).2.1) (by decide),f7 (f3 (a _).2.2 (a _).2.2 (a _).2.2) (by decide)⟩
 ·exact⟨ad dp.1 (fr 5),ad dp.2.1 (fr 6),ad dp.2.2 (fr 7)⟩
 ·exact⟨st _ dp.1,st _ dp.2.1,st _ dp.2.2⟩
open Classical in
def gZ:List D->R D
 |[.lst xs]=>if xs.length<=63/\M1 1048576 xs then .ok (.bl true)else .bad
 |_=>.bad
def RW {L:List G.V}{t:Int}(h0:t≠0)(hb:bits t<=250)(hs:∀p∈L,Sz 300 p)(S:G.l4 L)(hl:L.length<=14):W8 900 (L.map (G.vV t))/\G.l4 (L.map (G.vV t))/\(d8 (L.map (G.vV t))).length<=14/\∀p∈L.map (G.vV t),Sz 550 p:=by
 have z:∀p∈L.map (G.vV t),Sz 550 p:=λp hp=>by obtain⟨q,hq,rfl⟩:=aAo.mp hp;have:=hs q hq;exact⟨bits_mul hb this.1,bits_mul hb this.2.1,bits_mul hb this.2.2⟩
 refine⟨⟨λp hp=>(z p hp).mono,by rw[aAk];lia⟩,G.FN h0 (λX hX=>aBk hX) S,?_,z⟩;exact aAr (zZ _) (by rw[aAk];exact hl)
def QM {p:G.V}(h:Sz 300 p):Sz 400 (G.vV 6 p):=⟨f7 (bits_mul (show bits 6<=10 by decide) h.1) (by decide),f7 (bits_mul (show bits 6<=10 by decide) h.2.1) (by decide),f7 (bits_mul (show bits 6<=10 by decide) h.2.2) (by decide)⟩
def BO {pts:List G.V}(h1:W8 900 pts)(h2:G.l4 pts)(h3:(d8 pts).length<=14){P:G.V}(hP:Sz 900 P):iH [.lst ((A2 pts).map vd),vd P]=.ok (.int (G.U4 (d8 pts) P)):=by obtain⟨b1,b2,b3,b4,b5,b6⟩:=sI h1 h2 h3;simp only[iH,u3,mL];rw[if_pos ⟨b2,b1,by rw[b3];exact b4,hP⟩,b3];congr 2;exact G.LC (by simp only[b6]) (by simp only[b6])
def RU {a b:Int}(ha:0<=a)(ha1:a<=100)(hb:0<=b)(hb1:b<=100):∃ds,dZ [.int a,.int b]=.ok ds/\∀d∈ds,∃k:Int,d=.int k/\0<=k/\k<=100:=by
 refine⟨cG a.toNat (b.toNat-a.toNat),?_,λd hd=>?_⟩
 ·have:=ZV (a:=a.toNat) (b:=b.toNat) (by lia) (by lia);rw[Int.toNat_of_nonneg ha,Int.toNat_of_nonneg hb]at this;exact this
 ·unfold cG at hd;obtain⟨k,hk,rfl⟩:=aAo.mp hd;rw[List.mem_range'_1]at hk;exact⟨k,rfl,by lia,by lia⟩
def tw (x p f c:D)(ρ:Ev):Prop:=∃a4 a5 a6 a7 a8 a9,ρ=[.v x,.v p,.v f,.v c,a4,a5,a6,a7,a8,a9]
end M
namespace DL
open PySem PySem.Spec L2
open PyProof.Rows hiding St
variable [Tabs]
section
abbrev yX (X:Cx)(e:Expr)(es:List Expr):Prop:=starEach (e::es) X.env=(false,eval e X.env)::starEach es X.env
def t7 {i:Int}{j}:PB X (.Constant (.int i) j pos) (UO (.int i)):=d5.pb
def IN {e1:Expr}{f1:Ev->R D}(c:v5 X.prog X.w X.K X.mg X.base k x 1 m)(hr:Room k' X.A)(a1:PD X e1 f1)(hk:k<=k':=by decide)(s1:yX X e1 []:=by rfl)(hg:Gl X x:=by rfl)(ia:(x==("__debug__":Str))=false:=by decide)(bf:(backTo pos (starEach [] X.env)).any (·.1)=false:=by rfl):
 PD X (.Call (.Name x p) [e1] [] pos) (λρ=>((p8 f1 Q7) ρ).bind m):=uS c (hr.mono hk) (j2 a1 u9 s1) (A4 aP) hg ia s1 bf
def T1 {e1 e2:Expr}{f1 f2:Ev->R D}(c:v5 X.prog X.w X.K X.mg X.base k x 2 m)(hr:Room k' X.A)(a1:PD X e1 f1)(a2:PD X e2 f2)(hk:k<=k':=by decide)(s1:yX X e1 [e2]:=by rfl)(s2:yX X e2 []:=by rfl)(hg:Gl X x:=by rfl)(ia:(x==("__debug__":Str))=false:=by decide)(bf:(backTo pos (starEach [e2] X.env)).any (·.1)=false:=by rfl):
 PD X (.Call (.Name x p) [e1,e2] [] pos) (λρ=>((p8 f1 (p8 f2 Q7)) ρ).bind m):=uS c (hr.mono hk) (j2 a1 (j2 a2 u9 s2) s1) (A4<|A4 aP) hg ia s1 bf
def pc3 {e1 e2 e3:Expr}{f1 f2 f3:Ev->R D}(c:v5 X.prog X.w X.K X.mg X.base k x 3 m)(hr:Room k' X.A)(a1:PD X e1 f1)(a2:PD X e2 f2)(a3:PD X e3 f3)(hk:k<=k':=by decide)(s1:yX X e1 [e2,e3]:=by rfl)(s2:yX X e2 [e3]:=by rfl)(s3:yX X e3 []:=by rfl)(hg:Gl X x:=by rfl)(ia:(x==("__debug__":Str))=false:=by decide)(bf:(backTo pos (starEach [e2,e3] X.env)).any (·.1)=false:=by rfl):
 PD X (.Call (.Name x p) [e1,e2,e3] [] pos) (λρ=>((p8 f1 (p8 f2 (p8 f3 Q7))) ρ).bind m):=uS c (hr.mono hk) (j2 a1 (j2 a2 (j2 a3 u9 s3) s2) s1) (A4<|A4<|A4 aP) hg ia s1 bf
def pc4 {e1 e2 e3 e4:Expr}{f1 f2 f3 f4:Ev->R D}(c:v5 X.prog X.w X.K X.mg X.base k x 4 m)(hr:Room k' X.A)(a1:PD X e1 f1)(a2:PD X e2 f2)(a3:PD X e3 f3)(a4:PD X e4 f4)(hk:k<=k':=by decide)(s1:yX X e1 [e2,e3,e4]:=by rfl)(s2:yX X e2 [e3,e4]:=by rfl)(s3:yX X e3 [e4]:=by rfl)(s4:yX X e4 []:=by rfl)(hg:Gl X x:=by rfl)(ia:(x==("__debug__":Str))=false:=by decide)(bf:(backTo pos (starEach [e2,e3,e4] X.env)).any (·.1)=false:=by rfl):
 PD X (.Call (.Name x p) [e1,e2,e3,e4] [] pos) (λρ=>((p8 f1 (p8 f2 (p8 f3 (p8 f4 Q7)))) ρ).bind m):=uS c (hr.mono hk) (j2 a1 (j2 a2 (j2 a3 (j2 a4 u9 s4) s3) s2) s1) (A4<|A4<|A4<|A4 aP) hg ia s1 bf
def GH {e1 e2:Expr}{f1 f2:Ev->R D}{j}(a1:PD X e1 f1)(a2:PD X e2 f2)(s1:yX X e1 [e2]:=by rfl)(s2:yX X e2 []:=by rfl):PD X (.Tuple [e1,e2] j pos) (λρ=>((p8 f1 (p8 f2 Q7)) ρ).bind aF):=uH (j2 a1 (j2 a2 u9 s2) s1)
def DM {e1 e2 e3:Expr}{f1 f2 f3:Ev->R D}{j}(a1:PD X e1 f1)(a2:PD X e2 f2)(a3:PD X e3 f3)(s1:yX X e1 [e2,e3]:=by rfl)(s2:yX X e2 [e3]:=by rfl)(s3:yX X e3 []:=by rfl):PD X (.Tuple [e1,e2,e3] j pos) (λρ=>((p8 f1 (p8 f2 (p8 f3 Q7))) ρ).bind aF):=uH (j2 a1 (j2 a2 (j2 a3 u9 s3) s2) s1)
def yZ {id:String}{g:List D->R D}{e:Expr}{f:Ev->R D}(hc:aG X (.builtin id) g)(a:PB X e f)(hg:Gl X x:=by rfl)(hm:X.mg x=none:=by assumption)(hv:bootBuiltins x=some (.builtin id):=by decide+kernel)(hn:x≠ "__name__":=by decide)(ia:(x==("__debug__":Str))=false:=by decide)(s1:yX X e []:=by rfl)(bf:(backTo pos (starEach [] X.env)).any (·.1)=false:=by rfl):
 PD X (.Call (.Name x p) [e] [] pos) (λρ=>(p8 f Q7 ρ).bind g):=E9 hc (j3 a l9 s1) hg hm hv hn ia s1 bf
def vT {fr:List Str}{scope:Scope}{tp:Pos}{elt:Expr}{fe:Ev->R D}(h:∀pins fp s0 H1 C,PD (GQ X pins s0 H1 ([x]++fr) scope (cQ X scope C) C fp) elt fe)(nd:([x]++fr).Nodup:=by decide+kernel)(hx:Loc (relabel scope X.env) x:=by first|exact aCM rfl|exact aBW rfl)(hf:(scope.names.lookup x==some .cell)=true\/(relabel scope X.env).names.lookup x=some .local:=by first|exact .inl rfl|exact .inr rfl):
  ∀(pins:N5) (fp:List Addr) (X':Cx),(∃s9 Ha C,X'=GQ X pins s9 Ha ([x]++fr) scope (cQ X scope C) C fp)->KP X' (.Name x tp) (λd ρ=>.ok (ρ.set 0 (.v d)))/\UR X' [] (λ_=>.ok true)/\PD X' elt fe:=by
 rintro pins fp X2 ⟨s0,H1,C,rfl⟩;exact⟨l8 0 nd rfl hx hf,DF,h pins fp s0 H1 C⟩
def kq {fr:List Str}{scope:Scope}{tp:Pos}{elt c:Expr}{fe:Ev->R D}{ft:Ev->R Bool}(h:∀pins fp s0 H1 C,EC (GQ X pins s0 H1 ([x]++fr) scope (cQ X scope C) C fp) c ft/\PD (GQ X pins s0 H1 ([x]++fr) scope (cQ X scope C) C fp) elt fe)(nd:([x]++fr).Nodup:=by decide+kernel)(hx:Loc (relabel scope X.env) x:=by first|exact aCM rfl|exact aBW rfl)(hf:(scope.names.lookup x==some .cell)=true\/(relabel scope X.env).names.lookup x=some .local:=by first|exact .inl rfl|exact .inr rfl):
  ∀(pins:N5) (fp:List Addr) (X':Cx),(∃s9 Ha C,X'=GQ X pins s9 Ha ([x]++fr) scope (cQ X scope C) C fp)->KP X' (.Name x tp) (λd ρ=>.ok (ρ.set 0 (.v d)))/\UR X' [c] ft/\PD X' elt fe:=by
 rintro pins fp X2 ⟨s0,H1,C,rfl⟩;exact⟨l8 0 nd rfl hx hf,SC (h pins fp s0 H1 C).1,(h pins fp s0 H1 C).2⟩
end
end DL
namespace K22
open PySem L2 DL M
def top (i:Nat):Stmt:=PySem.Challenge.pw_stakebodies_k22_where_by_planes.main.body.getD i (.Pass ⟨0,0,0,0⟩)
abbrev Y4:Stmt:=top 5
abbrev qE:List Str:=["P", "Q"]
def nU:FnScope qE ["P", "Q"] (c7 Y4):=E8
abbrev gB:Stmt:=top 6
abbrev zN:List Str:=["u", "v"]
def xO:FnScope zN ["u", "v"] (c7 gB):=E8
abbrev bA:Stmt:=top 7
abbrev tN:List Str:=["u", "v"]
def qM:FnScope tN ["u", "v"] (c7 bA):=E8
abbrev O8:Stmt:=top 8
abbrev jC:List Str:=["numbers", "divisor", "number", "rest", "further"]
def iF:FnScope jC ["numbers"] (c7 O8):=E8
abbrev R6:Stmt:=top 9
abbrev lU:List Str:=["P", "Q", "R", "cross", "divisor", "upright"]
def jM:FnScope lU ["P", "Q", "R"] (c7 R6):=E8
abbrev kR:Stmt:=top 10
abbrev GC:List Str:=["plane", "P", "height"]
def BI:FnScope GC ["plane", "P"] (c7 kR):=E8
abbrev P4:Stmt:=top 13
abbrev kQ:List Str:=["ways", "way"]
def iR:FnScope kQ ["ways"] (c7 P4):=E8
abbrev B6:Stmt:=top 14
abbrev N4:List Str:=["points", "ways", "along", "upright"]
def lP:FnScope N4 ["points"] (c7 B6):=E8
abbrev Y7:Stmt:=top 15
abbrev pV:List Str:=["points"]
def nI:FnScope pV ["points"] (c7 Y7):=E8
abbrev X3:Stmt:=top 16
abbrev lF:List Str:=["plane", "points"]
def sT:FnScope lF ["plane", "points"] (c7 X3):=E8
abbrev Y0:Stmt:=top 17
abbrev pR:List Str:=["pair", "points", "along", "upright", "outermost", "P", "way"]
def oO:FnScope pR ["pair", "points"] (c7 Y0):=E8
abbrev bY:Stmt:=top 18
abbrev uV:List Str:=["points", "least", "upward", "touched"]
def pS:FnScope uV ["points"] (c7 bY):=E8
abbrev kE:Stmt:=top 19
abbrev GB:List Str:=["upright", "P", "Q", "R"]
def AM:FnScope GB ["upright", "P", "Q", "R"] (c7 kE):=E8
abbrev bQ:Stmt:=top 20
abbrev tE:List Str:=["upright", "points", "chain", "P"]
def pM:FnScope tE ["upright", "points"] (c7 bQ):=E8
abbrev kI:Stmt:=top 21
abbrev HL:List Str:=["upright", "points", "there", "back"]
def BB:FnScope HL ["upright", "points"] (c7 kI):=E8
abbrev Z7:Stmt:=top 22
abbrev pT:List Str:=["ring"]
def nD:FnScope pT ["ring"] (c7 Z7):=E8
abbrev cA:Stmt:=top 23
abbrev vG:List Str:=["first", "about", "touched_by", "faces", "walked", "waiting", "pair", "plane", "ring", "step"]
def fI:FnScope vG ["first", "about", "touched_by"] (c7 cA):=E8
abbrev K3:Stmt:=top 24
abbrev gD:List Str:=["points", "spread", "about", "touched_by"]
def lE:FnScope gD ["points"] (c7 K3):=E8
abbrev aT:Stmt:=top 26
abbrev pA:List Str:=["land", "P"]
def wH:FnScope pA ["land", "P"] (c7 aT):=E8
abbrev cI:Stmt:=top 28
abbrev xD:List Str:=["script", "k"]
def vH:FnScope xD ["script", "k"] (c7 cI):=E8
abbrev gJ:Stmt:=top 29
abbrev AA:List Str:=["one", "other"]
def xU:FnScope AA ["one", "other"] (c7 gJ):=E8
abbrev bN:Stmt:=top 30
abbrev tT:List Str:=["u", "v"]
def qH:FnScope tT ["u", "v"] (c7 bN):=E8
abbrev W0:Stmt:=top 31
abbrev mV:List Str:=["u", "v"]
def lW:FnScope mV ["u", "v"] (c7 W0):=E8
abbrev bC:Stmt:=top 32
abbrev vF:List Str:=["total", "way", "wide", "stir", "found", "k"]
def qJ:FnScope vF ["total", "way"] (c7 bC):=E8
abbrev J5:Stmt:=top 33
abbrev Z3:List Str:=["script", "most", "many", "totals", "k", "cell"]
def mW:FnScope Z3 ["script", "most"] (c7 J5):=E8
abbrev L5:Stmt:=top 34
abbrev bS:List Str:=["points", "ways", "u", "v", "crossed", "x", "y", "z"]
def qL:FnScope bS ["points"] (c7 L5):=E8
abbrev Q0:Stmt:=top 35
abbrev fK:List Str:=["cell", "slants", "far"]
def pG:FnScope fK ["cell"] (c7 Q0):=E8
abbrev W4:Stmt:=top 36
abbrev mU:List Str:=["point", "slants", "x", "y", "z"]
def lV:FnScope mU ["point", "slants"] (c7 W4):=E8
abbrev X6:Stmt:=top 37
abbrev lA:List Str:=["script", "most", "points", "cell"]
def sZ:FnScope lA ["script", "most"] (c7 X6):=E8
abbrev S4:Stmt:=top 38
abbrev jA:List Str:=["crossed", "point", "one", "number", "other"]
def pU:FnScope jA ["crossed", "point"] (c7 S4):=E8
abbrev J1:Stmt:=top 39
abbrev Z1:List Str:=["points", "some", "found", "i", "j", "k", "crossed", "worths"]
def pF:FnScope Z1 ["points"] (c7 J1):=E8
abbrev kS:Stmt:=top 40
abbrev HX:List Str:=["plane", "point"]
def BV:FnScope HX ["plane", "point"] (c7 kS):=E8
abbrev L6:Stmt:=top 41
abbrev dW:List Str:=["points", "planes"]
def lR:FnScope dW ["points", "planes"] (c7 L6):=E8
abbrev A6:Stmt:=top 42
abbrev G7:List Str:=["cell", "corners", "one", "two", "three", "way", "point"]
def pN:FnScope G7 ["cell", "corners"] (c7 A6):=E8
abbrev dD:Stmt:=top 43
abbrev JL:List Str:=["script", "points", "planes", "corners", "k", "point", "sides", "due", "handed", "found"]
def JF:FnScope JL ["script"] (c7 dD):=E8
def dR:Stmt:=(u5 K3).getD 2 (.Pass ⟨0,0,0,0⟩)
abbrev DV:Str:= "faces_of.<locals>.about"
def I9:Stmt:=(u5 K3).getD 3 (.Pass ⟨0,0,0,0⟩)
abbrev iL:Str:= "faces_of.<locals>.touched_by"
def tbK:List (Pos×Str):=[(DB dR,DV),(DB I9,iL)]
section
variable [Tabs]
variable{P:Program} {w:World} {K:PySem.W.Frag} {mg:cF} {base:Heap}
def p6 (g:cR K mg "way_between" Y4):v5 P w K mg base 1 "way_between" 2 n4:=by
 refine' n6 (k:=0) (F:=_) g nU (λhr hu eh nd=>?b) λds d hl h=>?_
 case b=>refine' (c9<|j1<|DM (b9 t6 (PD.pb<|f6 (b8 1) d5)<|PD.pb<|f6 (b8 0) d5) (b9 t6 (PD.pb<|f6 (b8 1) d5)<|PD.pb<|f6 (b8 0) d5)<|b9 t6 (PD.pb<|f6 (b8 1) d5)<|PD.pb<|f6 (b8 0) d5)
 replace h:=C7 h;obtain⟨a,b,c,ds,rfl,h⟩:=h;replace h:=C7 h;obtain⟨a',b',c',ds,rfl,h⟩:=h;replace h:=G9 h;obtain⟨rfl,h⟩:=h;exact h
def C4 (g:cR K mg "cross_of" gB):v5 P w K mg base 1 "cross_of" 2 v6:=by
 refine' n6 (k:=0) (F:=_) g xO (λhr hu eh nd=>?b) λds d hl h=>?_
 case b=>refine' (c9<|j1<|DM (b9 t6 (PD.pb<|b9 k5 (PD.pb<|f6 (b8 0) d5)<|PD.pb<|f6 (b8 1) d5)<|PD.pb<|b9 k5 (PD.pb<|f6 (b8 0) d5)<|PD.pb<|f6 (b8 1) d5) (b9 t6 (PD.pb<|b9 k5 (PD.pb<|f6 (b8 0) d5)<|PD.pb<|f6 (b8 1) d5)<|PD.pb<|b9 k5 (PD.pb<|f6 (b8 0) d5)<|PD.pb<|f6 (b8 1) d5)<|b9 t6 (PD.pb<|b9 k5 (PD.pb<|f6 (b8 0) d5)<|PD.pb<|f6 (b8 1) d5)<|PD.pb<|b9 k5 (PD.pb<|f6 (b8 0) d5)<|PD.pb<|f6 (b8 1) d5)
 replace h:=C7 h;obtain⟨a,b,c,ds,rfl,h⟩:=h;replace h:=C7 h;obtain⟨a',b',c',ds,rfl,h⟩:=h;replace h:=G9 h;obtain⟨rfl,h⟩:=h;split at h
 ·rename_i hz;obtain⟨⟨h1,h2,h3⟩,h4,h5,h6⟩:=hz;rw[<-h];simp[j5,f8 (k8.of h2 h6),f8 (k8.of h3 h5),f8 (k8.of h3 h4),f8 (k8.of h1 h6),f8 (k8.of h1 h5),f8 (k8.of h2 h4)]
 ·cases h
def y7 (g:cR K mg "product_of" bA):v5 P w K mg base 1 "product_of" 2 j4:=by
 refine' n6 (k:=0) (F:=_) g qM (λhr hu eh nd=>?b) λds d hl h=>?_
 case b=>refine' (c9<|j1<|b9 l7 (PD.pb<|b9 l7 (PD.pb<|b9 k5 (PD.pb<|f6 (b8 0) d5)<|PD.pb<|f6 (b8 1) d5)<|PD.pb<|b9 k5 (PD.pb<|f6 (b8 0) d5)<|PD.pb<|f6 (b8 1) d5)<|PD.pb<|b9 k5 (PD.pb<|f6 (b8 0) d5)<|PD.pb<|f6 (b8 1) d5)
 replace h:=TQ h;obtain⟨a,b,c,t,ds,rfl,h⟩:=h;replace h:=C7 h;obtain⟨a',b',c',ds,rfl,h⟩:=h;replace h:=G9 h;obtain⟨rfl,h⟩:=h;split at h
 ·rename_i hz;obtain⟨⟨h1,h2,h3⟩,h4,h5,h6⟩:=hz;rw[<-h];simp[j5,UF,UM,UP,f8 (k8.of h1 h4),f8 (k8.of h2 h5),f8 (k8.of h3 h6)]
 ·cases h
def P3 (qt:mg "abs"=none)(g:cR K mg "common_divisor" O8):v5 P w K mg base 1 "common_divisor" 1 B8:=by
 refine' n6 (k:=0) (F:=_) g iF (λhr hu eh nd=>?b) λds d hl h=>?_
 case b=>
  refine' (c5 (i9 1 d5 nd)
   (c5 (D6 aAR rfl (mO<|c6 0) (l8 2 nd) (c5 (i9 3 (yZ LK<|b8 2) nd)
   (c9 (eS (VD 3) aAR (j9 (lJ hu) (b8 3) t7) (c5 (i9 4 (b9 u8 (b8 1)<|b8 3) nd)
   (c5 (i9 1 (c6 3) nd)
   (c9<|i9 3 (c6 4) nd)))))))
   (c9<|j1<|c6 1)))
 match ds,h with
 |[.tup [.int a,.int b,.int c]],h=>
  rw[<-h];simp only[j5,aAy,aFB,aBq,aEA,B8];simp only[cC,NM,R.aa0,sS,A1,aAx,aBU,aGj,aGk,aEC,aED,aBG,aBH];refine cK (λrest ρ=>∃(g:Nat) (n r f:Sl),ρ=[.v (.tup [.int a,.int b,.int c]),.v (.int g),n,r,f]/\∃ns:List Int,rest=ns.map D.int/\ns.foldl (λg n=>aFY g n.natAbs) g=G.q9 ⟨a,b,c⟩) ?_ ⟨0,_,_,_,rfl,[a,b,c],rfl,by simp[G.q9]⟩ ?_
  ·rintro d ds ρ ⟨g,n,r,f,rfl,ns,e1,e2⟩;match ns,e1,e2 with
   |x::ns,e1,e2=>
    injection e1 with e3 e4;subst e3 e4;simp only[W7,aBG,aBH,nQ,uM,oG,EA,R.aa0,KW,A1];have ea:(if x<0 then-x else x)=(x.natAbs:Int):=by split<;>lia
    rw[ea];refine nN (λm ρ=>∃(p q:Nat) (f:Sl),ρ=[.v (.tup [.int a,.int b,.int c]),.v (.int p),.v (.int x),.v (.int q),f]/\q<m/\aFY p q=aFY g x.natAbs) ?_ (by rintro ρ ⟨p,q,f,_,h,_⟩;lia) ⟨g,x.natAbs,f,rfl,by show x.natAbs<((x.natAbs:Int).natAbs)+2;lia,rfl⟩ ?_
    ·rintro m ρ ⟨p,q,f,rfl,hq,hg⟩;by_cases h0:(q:Int)=0
     ·exact .inl (by simp[h0])
     ·have h1:q≠0:=by lia
      refine .inr ⟨by simp[h1],_,?_,q,p%q,Sl.v (.int ((p%q:Nat):Int)),rfl,?_,?_⟩
      ·have em:M9 (.int (p:Int)) (.int (q:Int))=.ok (.int ((p%q:Nat):Int)):=by rw[oB h0,aDv _ (by lia)];rfl
       simp[em]
      ·have:=aDJ p (show 0<q by lia)
       lia
      ·rw[aFI,<-Nat.gcd_rec,aFI];exact hg
    ·rintro m ρ ⟨p,q,f,rfl,hq,hg⟩ hc;have h0:q=0:=by
      by_cases z:q=0
      ·exact z
      ·simp[z]at hc
     subst h0;refine⟨p,_,_,_,rfl,ns,rfl,?_⟩;rw[<-e2,aDm,<-hg,Nat.gcd_zero_right]
  ·rintro ρ ⟨g,n,r,f,rfl,ns,e1,e2⟩;have:ns=[]:=by simpa using e1.symm
   subst this;simp at e2;simp[e2]
def R4 (C4:v5 P w K mg base 1 "cross_of" 2 v6)(p6:v5 P w K mg base 1 "way_between" 2 n4)(P3:v5 P w K mg base 1 "common_divisor" 1 B8)(y7:v5 P w K mg base 1 "product_of" 2 j4)(g:cR K mg "plane_through" R6):v5 P w K mg base 2 "plane_through" 3 R7:=by
 refine' n6 (k:=1) (F:=_) g jM (λhr hu eh nd=>?b) λds d hl h=>?_
 case b=>
  refine' (c5 (i9 3 (T1 C4 hr (T1 p6 hr (c6 0)<|c6 1)<|T1 p6 hr (c6 0)<|c6 2) nd)
   (c5 (i9 4 (IN P3 hr<|c6 3) nd)
   (c5 (w5 (j9 (N6 hu) (b8 4) t7) (c9 jQ) m9)
   (c5 (i9 5 (DM (b9 p7 (PD.pb<|f6 (b8 3) d5)<|b8 4) (b9 p7 (PD.pb<|f6 (b8 3) d5)<|b8 4)<|b9 p7 (PD.pb<|f6 (b8 3) d5)<|b8 4) nd)
   (c9<|j1<|uH<|j2 (f6 (b8 5) d5)<|j2 (f6 (b8 5) d5)<|j2 (f6 (b8 5) d5)<|j2 (T1 y7 hr (c6 5)<|c6 0) u9)))))
 replace h:=C7 h;obtain⟨a,b,c,ds,rfl,h⟩:=h;replace h:=C7 h;obtain⟨d,e,f,ds,rfl,h⟩:=h;replace h:=C7 h;obtain⟨g,h',i,ds,rfl,h⟩:=h;replace h:=G9 h;obtain⟨rfl,h⟩:=h
 ·skip
  split at h
  ·rename_i hz;obtain⟨⟨p,q,r⟩,hc⟩:=hz;rw[<-h];obtain⟨P,eP⟩:∃P:G.V,P=⟨a,b,c⟩:=⟨_,rfl⟩;obtain⟨Q,eQ⟩:∃P:G.V,P=⟨d,e,f⟩:=⟨_,rfl⟩;obtain⟨R',eR⟩:∃P:G.V,P=⟨g,h',i⟩:=⟨_,rfl⟩;rw[<-eP]at p hc;rw[<-eQ]at q hc;rw[<-eR]at r hc;have vP:(.tup [.int a,.int b,.int c]:D)=vd P:=by rw[eP]
   have vQ:(.tup [.int d,.int e,.int f]:D)=vd Q:=by rw[eQ]
   have vR:(.tup [.int g,.int h',.int i]:D)=vd R':=by rw[eR]
   rw[vP,vQ,vR,<-eP,<-eQ,<-eR];have sc:=(q.sub p).cr (r.sub p);have c1:=Z9 (u:=Q-P) (v:=R'-P) (q.sub p).mono (r.sub p).mono;obtain⟨g0,g1,g2⟩:=G.fA hc;have gne:((G.q9 (G.cr (Q-P)<|R'-P):Nat):Int)≠0:=by lia
   have gb:qX ((G.q9 (G.cr (Q-P)<|R'-P):Nat):Int):=⟨gne,n9 (rB sc)⟩;have dv:=zU (G.cr (Q-P)<|R'-P);have pl:G.d4 P Q R'=(G.cE (G.cr (Q-P)<|R'-P) (G.q9<|G.cr (Q-P)<|R'-P),G.c8 (G.cE (G.cr (Q-P)<|R'-P)<|G.q9<|G.cr (Q-P)<|R'-P) P):=rfl;rw[pl];generalize hC:G.cr (Q-P) (R'-P)=C at*
   have sn:Sz 2003 (G.cE C<|G.q9 C):=by have f1:=bits_fdiv (b:=(G.q9 C:Int)) sc.1;have f2:=bits_fdiv (b:=(G.q9 C:Int)) sc.2.1;have f3:=bits_fdiv (b:=(G.q9 C:Int)) sc.2.2;rw[dI g0]at f1 f2 f3;exact⟨f1,f2,f3⟩
   have d1:∀t:Int,M6 (.int t) (.int (G.q9 C:Nat))=.ok (.int (t/(G.q9 C:Nat))):=λt=>by rw[T8 gb,dI g0]
   have p2:=bP (u:=G.cE C (G.q9 C)) (v:=P) sn.mono p.mono;have e0:(((G.q9 C:Nat):Int)==0)=false:=by simpa using gne
   simp only[G.cE]at p2;have p2':j4 [.tup [.int (C.x/(G.q9 C:Nat)),.int (C.y/(G.q9 C:Nat)),.int (C.z/(G.q9 C:Nat))],vd P]=_:=p2;simp[j5,c1,dv,e0,d1,p2',G.cE]
  ·cases h
def aJ (g:cR K mg "side_of" kR):v5 P w K mg base 1 "side_of" 2 G2:=by
 refine' n6 (k:=0) (F:=_) g BI (λhr hu eh nd=>?b) λds d hl h=>?_
 case b=>
  refine' (c5 (i9 2 (b9 t6 (PD.pb<|b9 l7 (PD.pb<|b9 l7 (PD.pb<|b9 k5 (PD.pb<|f6 (b8 0) d5)<|PD.pb<|f6 (b8 1) d5)<|PD.pb<|b9 k5 (PD.pb<|f6 (b8 0) d5)<|PD.pb<|f6 (b8 1) d5)<|PD.pb<|b9 k5 (PD.pb<|f6 (b8 0) d5)<|PD.pb<|f6 (b8 1) d5)<|PD.pb<|f6 (b8 0) d5) nd)
   (c5 (w5 (j9 kW (b8 2) t7) (c9<|j1 d5) m9)
   (c5 (w5 (j9 yS (b8 2) t7) (c9<|j1<|kB d5) m9)
   (c9<|j1 d5))))
 replace h:=MW h;obtain⟨a,b,c,d,ds,rfl,h⟩:=h;replace h:=C7 h;obtain⟨x,y,z,ds,rfl,h⟩:=h;replace h:=G9 h;obtain⟨rfl,h⟩:=h
 ·skip
  split at h
  ·rename_i hz;obtain⟨⟨h1,h2,h3⟩,h4,h5,h6⟩:=hz;rw[<-h];obtain⟨t,et⟩:∃t,a*x+b*y+c*z-d=t:=⟨_,rfl⟩;have e0:HK (.int (a*x+b*y+c*z)) (.int d)=.ok (.int t):=by rw[<-et];rfl
   rw[et];unfold sgn;by_cases p:0<t
   ·simp[-uZ,j5,f8 (k8.of h1 h4),f8 (k8.of h2 h5),f8 (k8.of h3 h6),p,e0]
   ·by_cases n:t<0
    ·simp[-uZ,j5,f8 (k8.of h1 h4),f8 (k8.of h2 h5),f8 (k8.of h3 h6),p,n,e0]
    ·simp[-uZ,j5,f8 (k8.of h1 h4),f8 (k8.of h2 h5),f8 (k8.of h3 h6),p,n,e0]
  ·cases h
def G5 (de:NG K mg "NO_WAY" [0,0,0])(g:cR K mg "first_real_way" P4):v5 P w K mg base 1 "first_real_way" 1 z8:=by
 refine' n6 (k:=0) (F:=_) g iR (λhr hu eh nd=>?b) λds d hl h=>?_
 case b=>
  refine' (c5 (D6 aAR rfl (t5<|c6 0) (l8 1 nd)<|c9<|w5 (j9 (lJ hu) (b8 1)<|PD.pb<|tK de) (c9<|j1<|c6 1) m9)
   (c9<|j1 BA))
 match ds,h with
 |[.lst xs],h=>
  simp only[z8]at h;split at h
  ·rename_i ws hw;rw[p5 hw];rw[<-h];simp[j5];generalize Sl.v (D.lst<|aCu vd ws)=a;generalize Sl.no=b;clear h hw;induction ws generalizing b with
   |nil=>rfl
   |cons v ws ih=>
    rw[aAy,G.A5];by_cases hv:v=0
    ·rw[S8 (ρ2:=[a,.v (vd v)]) rfl (by simp[-jI,oq,hv]),ih];simp[hv]
    ·rw[gM (x:=vd v) rfl (by simp[-jI,oq,hv])];simp[hv,CF]
  ·cases h
def F8 (p6:v5 P w K mg base 1 "way_between" 2 n4)(G5:v5 P w K mg base 1 "first_real_way" 1 z8)(C4:v5 P w K mg base 1 "cross_of" 2 v6)(y7:v5 P w K mg base 1 "product_of" 2 j4)(cb:mg "len"=none)(b_any:mg "any"=none)(g:cR K mg "dimension_of" B6):v5 P w K mg base 2 "dimension_of" 1 B5:=by
 refine' n6 (k:=1) (F:=_) g lP (λhr hu eh nd=>?b) λds d hl h=>?_
 case b=>
  refine' (c5 (w5 (j9 (N6 hu) (PD.pb<|yZ P6<|b8 0) t7) (c9 jQ) m9)
   (c5 (aS 1 ["P"] ["points"] [0] nd rfl (A0 (sc:=c7 B6) (N:=N4)) (t5<|c6 0) (vT λ_ _ _ _ _=>(T1 p6 hr (f6 (b8 1) d5)<|c6 0))<|λ_=>l6)
   (c5 (i9 2 (IN G5 hr<|c6 1) nd)
   (c5 (w5 (j9 OH (b8 2)<|PD.pb BA) (c9<|j1 d5) m9)
   (c5 (i9 3 (IN G5 hr<|B0 ["way"] ["along"] [2] rfl (A0 (sc:=c7 B6) (N:=N4)) (t5<|c6 1) (vT λ_ _ _ _ _=>(T1 C4 hr (c6 1)<|c6 0))<|λ_=>l6) nd)
   (c5 (w5 (j9 OH (b8 3)<|PD.pb BA) (c9<|j1 d5) m9)
   (c5 (w5 (mI<|yZ (YL rfl)<|PD.pb<|B0 ["way"] ["upright"] [3] rfl (A0 (sc:=c7 B6) (N:=N4)) (t5<|c6 1) (vT λ_ _ _ _ _=>(vD (lJ hu) (PD.pb<|T1 y7 hr (c6 1)<|c6 0) t7))<|λ_=>l6) (c9<|j1 d5) m9)
   (c9<|j1 d5))))))))
 match ds,h with
 |[.lst xs],h=>
  simp only[B5]at h;split at h
  ·rename_i pts hw;rw[p5 hw];split at h
   ·rename_i hz;rw[<-h];obtain⟨af,hs⟩:=hz;match pts,af with
    |p::ps,_=>
    obtain⟨xs',hxs⟩:∃xs',(p::ps).map vd=xs':=⟨_,rfl⟩;have i0:L3 (.lst xs') (.int 0)=.ok (vd p):=N1 (by rw[V6 (by decide),<-hxs];rfl);have c1:u4 (λd ρ=>R.ok (aCG ρ 0<|Sl.v d)) (λx=>R.ok true) (λρ=>(((pK 1 ρ).bind λx=>L3 x (D.int 0)).bind λd=>((Q4 0 ρ).bind λd=>R.ok [d]).bind λds=>R.ok (d::ds)).bind n4) [.no,.v (.lst xs')] xs'=.ok (((p::ps).map (· -p)).map vd):=by rw[aBi];rw[show u4 _ _ _ _ xs'=u4 _ _ _ _ ((p::ps).map vd)by rw[hxs]];refine K6 vd _ _ λq hq=>⟨[.v (vd q),Sl.v (.lst xs')],rfl,?_⟩;show((L3 (.lst xs')<|.int 0).bind _).bind _=_;rw[i0];rfl
    have hw:∀w∈(p::ps).map (· -p),Sz 1001 w:=λw hw=>by obtain⟨q,hq,rfl⟩:=aAo.mp hw;exact(hs.1 q hq).sub (hs.1 p (.head _))
    have oo:(((p::ps).map (· -p)).map vd).length<=sizeLine:=by rw[aAk,aAk];exact small hs.2
    have bf:xs'.length<=sizeLine:=by rw[<-hxs,aAk];exact small hs.2
    have hl0:((xs'.length:Int)==0)=false:=by rw[<-hxs];simp;lia
    have f1:=zW ((p::ps).map (· -p));unfold G.T5;dsimp only;rw[hxs];generalize(p::ps).map (· -p)=W at*
    have f2:=λu=>zW (W.map<|G.cr u);cases ha:G.A5 W with
    |none=>rw[ha]at f1;simp[j5,f9,bf,hl0,c1,f1,CF,IV]
    |some al=>
     rw[ha]at f1;obtain⟨hm,_⟩:=G.u6 ha;have sal:=hw al hm;have c2:u4 (λd ρ=>R.ok (aCG ρ 0<|Sl.v d)) (λx=>R.ok true) (λρ=>((Q4 1 ρ).bind λd=>((Q4 0 ρ).bind λd=>R.ok [d]).bind λds=>R.ok (d::ds)).bind v6) [.no,.v (vd al)] (W.map vd)=.ok ((W.map<|G.cr al).map vd):=by rw[aBi];refine K6 vd _ _ λq hq=>⟨[.v (vd q),Sl.v (vd al)],rfl,?_⟩;show v6 [vd al,vd q]=_;exact Z9 sal.mono (hw q hq).mono
     have f2:=zW (W.map<|G.cr al);have eW:(W.map vd).length=W.length:=aAk ..;rw[eW]at oo;cases hb:G.A5 (W.map<|G.cr al)with
     |none=>rw[hb]at f2;simp only[aBi]at c2 f2;simp only[hb];simp[j5,f9,bf,hl0,c1,f1,CF,IV,oo,c2,f2]
     |some up=>
      rw[hb]at f2;obtain⟨kg,_⟩:=G.u6 hb;have sup:Sz 2003 up:=by obtain⟨q,hq,rfl⟩:=aAo.mp kg;exact(sal.cr<|hw q hq).mono
      have c3:u4 (λd ρ=>R.ok (aCG ρ 0<|Sl.v d)) (λx=>R.ok true) (λρ=>(((Q4 1 ρ).bind λd=>((Q4 0 ρ).bind λd=>R.ok [d]).bind λds=>R.ok (d::ds)).bind j4).bind λx=>HD x (D.int 0)) [.no,.v (vd up)] (W.map vd)=.ok ((W.map λw=>decide (G.c8 up w≠0)).map D.bl):=by rw[aBi];refine K6 vd _ _ λq hq=>⟨[.v (vd q),Sl.v (vd up)],rfl,?_⟩;show(j4 [vd up,vd q]).bind _=_;rw[bP sup.mono (hw q hq).mono,R.aa0,JM];congr 2;rw[aCQ];simp
      have f3:=XG (W.map λw=>decide (G.c8 up w≠0));have ean:(W.map λw=>decide (G.c8 up w≠0)).any id=W.any λw=>decide (G.c8 up w≠0):=by rw[List.any_map];rfl
      rw[ean]at f3;simp only[aBi]at c2 f2 c3 f3;simp only[hb];generalize(λw=>decide (G.c8 up w≠0))=Bf at*
      cases hc:W.any Bf with
      |false=>rw[hc]at f3;simp[j5,f9,bf,hl0,c1,f1,CF,IV,oo,c2,f2,c3,f3]
      |true=>rw[hc]at f3;simp[j5,f9,bf,hl0,c1,f1,CF,IV,oo,c2,f2,c3,f3]
   ·cases h
  ·cases h
def Z2 (F8:v5 P w K mg base 2 "dimension_of" 1 B5)(g:cR K mg "refuse_flat" Y7):v5 P w K mg base 3 "refuse_flat" 1 D4:=by
 refine' n6 (k:=2) (F:=_) g nI (λhr hu eh nd=>?b) λds d hl h=>?_
 case b=>refine' (c9<|w5 (j9 yS (PD.pb<|IN F8 hr<|c6 0) t7) (c9 jQ) m9)
 match ds,h with
 |[.lst xs],h=>
  simp only[D4]at h;split at h
  ·rename_i pts hw;rw[p5 hw];split at h
   ·rename_i hz;rw[<-h];obtain⟨hs,h3⟩:=hz;have af:pts≠[]:=λe=>by subst e;cases h3
    have e:=KQ af hs;rw[h3]at e;simp[j5,e]
   ·cases h
  ·cases h
def F3 (aJ:v5 P w K mg base 1 "side_of" 2 G2)(g:cR K mg "points_on" X3):v5 P w K mg base 2 "points_on" 2 z7:=by
 refine' n6 (k:=1) (F:=_) g sT (λhr hu eh nd=>?b) λds d hl h=>?_
 case b=>refine' (c9<|j1<|B0 ["P"] ["plane"] [0] rfl (A0 (sc:=c7 X3) (N:=lF)) (t5<|c6 1) (kq λ_ _ _ _ _=>⟨(j9 (N6 hu) (PD.pb<|T1 aJ hr (c6 1)<|c6 0) t7),(c6 0)⟩)<|λ_=>l6)
 replace h:=MW h;obtain⟨a,b,c,d,ds,rfl,h⟩:=h;replace h:=uC h;obtain⟨xs,ds,rfl,h⟩:=h;replace h:=G9 h;obtain⟨rfl,h⟩:=h
 ·skip
  split at h
  ·rename_i pts hw;rw[p5 hw];split at h
   ·rename_i hz;rw[<-h];have e:=G4 vd (G:=λd ρ=>R.ok (aCG ρ 0<|Sl.v d)) (ft:=λρ=>((((Q4 1 ρ).bind λd=>((Q4 0 ρ).bind λd=>R.ok [d]).bind λds=>R.ok (d::ds)).bind G2).bind λx=>UG x (D.int 0)).bind vO) (fe:=Q4 0) (ρ:=[.no,.v (.tup [D.int a,D.int b,D.int c,D.int d])])
     (λX=>decide (G.c8 ⟨a,b,c⟩ X=d)) vd pts λP hP=>⟨[.v (vd P),Sl.v (D.tup [D.int a,D.int b,D.int c,D.int d])],rfl,by simp[DQ hz.1.mono (hz.2.1 P hP).mono,wz,G.c8];exact decide_eq_decide.mpr (by lia),λ_=>rfl⟩
    simp[j5,f9,small hz.2.2,e];rfl
   ·cases h
  ·cases h
def J6 (p6:v5 P w K mg base 1 "way_between" 2 n4)(y7:v5 P w K mg base 1 "product_of" 2 j4)(C4:v5 P w K mg base 1 "cross_of" 2 v6)(R4:v5 P w K mg base 2 "plane_through" 3 R7)(de:NG K mg "NO_WAY" [0,0,0])(g:cR K mg "plane_about" Y0):v5 P w K mg base 3 "plane_about" 2 D1:=by
 refine' n6 (k:=2) (F:=_) g oO (λhr hu eh nd=>?b) λds d hl h=>?_
 case b=>
  refine' (c5 (i9 2 (T1 p6 hr (f6 (b8 0) d5)<|f6 (b8 0) d5) nd)
   (c5 (i9 3 (tK de) nd)
   (c5 (i9 4 (f6 (b8 0) d5) nd)
   (c5 (D6 aAR rfl (t5<|c6 1) (l8 5 nd) (c5 (i9 6 (T1 p6 hr (f6 (b8 0) d5)<|c6 5) nd)
   (c9 (w5 (EM.pt<|uQ (j9 (N6 hu) (b8 3)<|PD.pb<|tK de)<|EH<|j9 kW (PD.pb<|T1 y7 hr (c6 3)<|c6 6) t7) (c5 (i9 3 (T1 C4 hr (c6 2)<|c6 6) nd)
   (c9<|i9 4 (c6 5) nd)) m9))))
   (c9<|j1<|pc3 R4 hr (f6 (b8 0) d5) (f6 (b8 0) d5)<|c6 4)))))
 replace h:=YH h;obtain⟨ys,ds,rfl,h⟩:=h;replace h:=uC h;obtain⟨xs,ds,rfl,h⟩:=h;replace h:=G9 h;obtain⟨rfl,h⟩:=h;replace h:=C7 h;obtain⟨a,b,c,ys,rfl,h⟩:=h;replace h:=C7 h;obtain⟨d,e,f,ys,rfl,h⟩:=h;replace h:=G9 h;obtain⟨rfl,h⟩:=h
 ·skip
  split at h
  ·rename_i pts hw;rw[p5 hw];split at h
   ·rename_i hz;rw[<-h];obtain⟨sA,sB,hs,hp⟩:=hz;have vA:(.tup [.int a,.int b,.int c]:D)=vd ⟨a,b,c⟩:=rfl;have vB:(.tup [.int d,.int e,.int f]:D)=vd ⟨d,e,f⟩:=rfl;rw[vA,vB];generalize(⟨a,b,c⟩:G.V)=A at*
    generalize(⟨d,e,f⟩:G.V)=B at*
    simp[j5];have z0:(.tup [.int 0,.int 0,.int 0]:D)=vd 0:=rfl;rw[z0];refine cK (λrest ρ=>∃(up out:G.V) (qs:List G.V) (x y:Sl),ρ=[.v (.tup [vd A,vd B]),.v (.lst (aCu vd pts)),.v (vd<|B-A),.v (vd up),.v (vd out),x,y]/\rest=qs.map vd/\Sz 2003 up/\Sz 1000 out/\(∀X∈qs,Sz 1000 X)/\G.D8 (B-A) A qs up out=G.D8 (B-A) A pts 0 A) ?_ ⟨0,A,pts,_,_,rfl,rfl,⟨by decide,by decide,by decide⟩,sA,hs.1,rfl⟩ ?_
    ·rintro d ds ρ ⟨up,out,qs,x,y,rfl,e1,su,so,sq,e2⟩;match qs,e1 with
     |P::qs,e1=>
      injection e1 with e3 e4;subst e3 e4;have sP:=sq P (.head _);have sw:=sP.sub sA;have e0:=eq0 up;rw[show(.tup [.int 0,.int 0,.int 0]:D)=vd 0 from rfl]at e0;have c1:=Z9 (u:=B-A) (v:=P-A) (sB.sub sA).mono sw.mono;have p1:=bP (u:=up) (v:=P-A) su.mono sw.mono;have w1:=ON A P;have i0:L3 (.tup [vd A,vd B]) (.int 0)=.ok (vd A):=rfl
      conv at e2=>lhs;unfold G.D8
      simp only[W7,aBG,aBH,oG,EA,gS,cC,R.aa0,i0,w1,A1,e0,EG,p1,uT];by_cases vh:up=0
      ·rw[if_pos (.inl vh)]at e2;refine⟨_,?_,G.cr (B-A) (P-A),P,qs,.v (vd P),.v (vd<|P-A),rfl,rfl,(((sB.sub sA).cr sw).mono),sP,λX hX=>sq X (.tail _ hX),e2⟩;rw[decide_eq_true vh];simp only[if_true,R.aa0,c1,A1,aBG,aBH,gS,cC]
      ·rw[decide_eq_false vh];by_cases hd0:0<G.c8 up (P-A)
       ·rw[if_pos (.inr hd0)]at e2;refine⟨_,?_,G.cr (B-A) (P-A),P,qs,.v (vd P),.v (vd<|P-A),rfl,rfl,(((sB.sub sA).cr sw).mono),sP,λX hX=>sq X (.tail _ hX),e2⟩;rw[decide_eq_true hd0];simp only[if_true,aAt,if_false,R.aa0,c1,A1,aBG,aBH,gS,cC]
       ·rw[if_neg (λz=>z.elim vh hd0)]at e2;refine⟨_,?_,up,out,qs,.v (vd P),.v (vd<|P-A),rfl,rfl,su,so,λX hX=>sq X (.tail _ hX),e2⟩;rw[decide_eq_false hd0];simp only[aAt,if_false,R.aa0]
    ·rintro ρ ⟨up,out,qs,x,y,rfl,e1,su,so,sq,e2⟩;have:qs=[]:=by simpa using e1.symm
     subst this;have e2:(up,out)=G.D8 (B-A) A pts 0 A:=e2;have eo:(G.D8 (B-A) A pts 0 A).2=out:=by rw[<-e2]
     unfold G.b7 at hp⊢;rw[eo]at hp⊢;have pl:=NO ⟨sA,sB,so⟩ (RQ hp);simp[pl]
   ·cases h
  ·cases h
def aW (F3:v5 P w K mg base 2 "points_on" 2 z7)(J6:v5 P w K mg base 3 "plane_about" 2 D1)(F8:v5 P w K mg base 2 "dimension_of" 1 B5)(qu:mg "min"=none)(g:cR K mg "first_pair" bY):v5 P w K mg base 8 "first_pair" 1 G1:=by
 refine' n6 (k:=7) (F:=_) g pS (λhr hu eh nd=>?b) λds d hl h=>?_
 case b=>
  have ye:=hr.ad8 (by decide);refine' (c5 (i9 1 (E9 (SL rfl ye)<|j3 (b8 0) l9) nd)
   (c5 (i9 2 (GH (c6 1)<|DM (f6 (b8 1) d5) (f6 (b8 1) d5)<|b9 l7 (PD.pb<|f6 (b8 1) d5) t7) nd)
   (c5 (i9 3 (T1 F3 hr (T1 J6 hr (c6 2)<|c6 0)<|c6 0) nd)
   (c5 (w5 (j9 (N6 hu) (PD.pb<|IN F8 hr<|c6 3) t7) (c9<|j1<|c6 2) m9)
   (c9<|j1<|GH (f6 (b8 3) d5)<|f6 (b8 3) d5)))))
 match ds,h with
 |[.lst xs],h=>
  simp only[G1]at h;split at h
  ·rename_i m pts hw;rw[p5 hw];split at h
   ·rename_i hz;rw[<-h];have hm:=WX hz.good.ord;have s1:W8 1000 (m::pts):=hz.sz.mono;have sm:Sz 900 m:=hz.sz.1 m (.head _);obtain⟨hp,tm,out,to,af⟩:=G.wR hz.good.solid hz.good.mem hz.good.least;have ab:=W6 sm.mono (NY sm) s1 hp;have asz:=xP sm.mono (NY sm) s1;rw[ZH]at ab;have po:=iU (d:=(G.b7 m (m+G.kk) (m::pts)).2) asz.mono s1;obtain⟨x,y,r,et⟩:=OL tm to af;have ts:=OM (n:=(G.b7 m (m+G.kk) (m::pts)).1) (d:=(G.b7 m (m+G.kk) (m::pts)).2) s1;have dm:=KQ (pts:=G.y6 (G.b7 m (m+G.kk) (m::pts)).1 (G.b7 m (m+G.kk) (m::pts)).2 (m::pts)) (by rw[et];simp) ts;have i0:L3 (.lst ((G.y6 (G.b7 m (m+G.kk) (m::pts)).1 (G.b7 m (m+G.kk) (m::pts)).2 (m::pts)).map vd)) (.int 0)=.ok (vd x):=N1 (by rw[et];exact ZB _ _);have i1:L3 (.lst ((G.y6 (G.b7 m (m+G.kk) (m::pts)).1 (G.b7 m (m+G.kk) (m::pts)).2 (m::pts)).map vd)) (.int 1)=.ok (vd y):=N1 (by rw[et];exact bw _ _ _);unfold G.e9;dsimp only;by_cases h2:G.T5 (G.y6 (G.b7 m (m+G.kk) (m::pts)).1 (G.b7 m (m+G.kk) (m::pts)).2 (m::pts))=2
    ·rw[if_pos h2];rw[h2]at dm;generalize(m::pts).map vd=L at*
     generalize(G.y6 (G.b7 m (m+G.kk) (m::pts)).1 (G.b7 m (m+G.kk) (m::pts)).2 (m::pts)).map vd=L2 at*
     generalize(G.b7 m (m+G.kk) (m::pts)).1=pn at*
     generalize(G.b7 m (m+G.kk) (m::pts)).2=pm at*
     simp[j5,hm,ab,po,dm,G.kk]
    ·rw[if_neg h2];have e0:(G.y6 (G.b7 m (m+G.kk) (m::pts)).1 (G.b7 m (m+G.kk) (m::pts)).2 (m::pts)).getD 0 0=x:=by rw[et];rfl
     have e1:(G.y6 (G.b7 m (m+G.kk) (m::pts)).1 (G.b7 m (m+G.kk) (m::pts)).2 (m::pts)).getD 1 0=y:=by rw[et];rfl
     rw[e0,e1];have hb:((G.T5 (G.y6 (G.b7 m (m+G.kk) (m::pts)).1 (G.b7 m (m+G.kk) (m::pts)).2 (m::pts)):Int)==2)=false:=by rw[beq_eq_false_iff_ne];lia
     generalize(m::pts).map vd=L at*
     generalize(G.y6 (G.b7 m (m+G.kk) (m::pts)).1 (G.b7 m (m+G.kk) (m::pts)).2 (m::pts)).map vd=L2 at*
     generalize(G.T5 (G.y6 (G.b7 m (m+G.kk) (m::pts)).1 (G.b7 m (m+G.kk) (m::pts)).2 (m::pts)):Int)=dd at*
     generalize(G.b7 m (m+G.kk) (m::pts)).1=pn at*
     generalize(G.b7 m (m+G.kk) (m::pts)).2=pm at*
     simp[j5,hm,ab,po,dm,hb,i0,i1]
   ·cases h
  ·cases h
def jY (y7:v5 P w K mg base 1 "product_of" 2 j4)(C4:v5 P w K mg base 1 "cross_of" 2 v6)(p6:v5 P w K mg base 1 "way_between" 2 n4)(g:cR K mg "turn_of" kE):v5 P w K mg base 2 "turn_of" 4 eM:=by
 refine' n6 (k:=1) (F:=_) g AM (λhr hu eh nd=>?b) λds d hl h=>?_
 case b=>refine' (c9<|j1<|T1 y7 hr (c6 0)<|T1 C4 hr (T1 p6 hr (c6 1)<|c6 2)<|T1 p6 hr (c6 2)<|c6 3)
 replace h:=C7 h;obtain⟨a,b,c,ds,rfl,h⟩:=h;replace h:=C7 h;obtain⟨d,e,f,ds,rfl,h⟩:=h;replace h:=C7 h;obtain⟨g,h',i,ds,rfl,h⟩:=h;replace h:=C7 h;obtain⟨j,k,l,ds,rfl,h⟩:=h;replace h:=G9 h;obtain⟨rfl,h⟩:=h
 ·skip
  split at h
  ·rename_i hz;obtain⟨p,q,r,s⟩:=hz;rw[<-h];have c1:=Z9 (u:=⟨g,h',i⟩-⟨d,e,f⟩) (v:=⟨j,k,l⟩-⟨g,h',i⟩) (r.sub q).mono (s.sub r).mono;have c2:=bP (u:=⟨a,b,c⟩) (v:=G.cr (⟨g,h',i⟩-⟨d,e,f⟩) (⟨j,k,l⟩-⟨g,h',i⟩)) p.mono ((r.sub q).cr (s.sub r)).mono;simp only[vd,G.UA,G.UN,G.UC,G.PM,G.PU,G.SF]at c1 c2;simp[j5,n4,v1,sK,c1,c2,G.turn,G.i8]
  ·cases h
def S6 (jY:v5 P w K mg base 2 "turn_of" 4 eM)(cb:mg "len"=none)(g:cR K mg "left_chain" bQ):v5 P w K mg base 3 "left_chain" 2 T6:=by
 refine' n6 (k:=2) (F:=_) g pM (λhr hu eh nd=>?b) λds d hl h=>?_
 case b=>
  refine' (c5 (mD 2 (vE u9) nd)
   (c5 (D6 aAR rfl (t5<|c6 1) (l8 3 nd) (c5 (eS (λ_=>1001) aAR (EM.pt<|mF (j9 kW (PD.pb<|yZ P6<|b8 2) t7)<|iZ<|j9 aq (PD.pb<|pc4 jY hr (c6 0) (f6 (b8 2)<|kB d5) (f6 (b8 2)<|kB d5)<|c6 3) t7)<|c9<|RG 2)
   (c9<|bI 2<|c6 3)))
   (c9<|CS 2<|j1<|c6 2)))
 replace h:=C7 h;obtain⟨a,b,c,ds,rfl,h⟩:=h;replace h:=uC h;obtain⟨xs,ds,rfl,h⟩:=h;replace h:=G9 h;obtain⟨rfl,h⟩:=h
 ·skip
  split at h
  ·rename_i pts hw;rw[p5 hw];split at h
   ·rename_i hz;rw[<-h];obtain⟨sn,hs⟩:=hz;have vn:(.tup [.int a,.int b,.int c]:D)=vd ⟨a,b,c⟩:=rfl;rw[vn];generalize(⟨a,b,c⟩:G.V)=n at*
    simp[j5];refine cK (λrest ρ=>∃(c qs:List G.V) (x:Sl),ρ=[.v (vd n),.v (.lst (aCu vd pts)),.o (c.reverse.map vd),x]/\rest=qs.map vd/\(∀X∈c,Sz 1000 X)/\(∀X∈qs,Sz 1000 X)/\c.length+qs.length<=1000/\qs.foldl (λc P=>P::G.X1 n P c) c=G.w8 n pts) ?_ ⟨[],pts,_,rfl,rfl,λX hX=>by(cases hX),hs.1,by simpa using hs.2,rfl⟩ ?_
    ·rintro d ds ρ ⟨c,qs,x,rfl,e1,sc,sq,hl,e2⟩;match qs,e1 with
     |P::qs,e1=>
      injection e1 with e3 e4;subst e3 e4;have sP:=sq P (.head _);simp only[aAx]at hl;simp only[W7,aBG,aBH];refine Exists.elim (nN (n:=1001) (ρ:=[.v (vd n),.v (.lst (aCu vd pts)),.o (c.reverse.map vd),.v (vd P)]) (Post:=λρ=>∃c',ρ=[.v (vd n),.v (.lst (aCu vd pts)),.o (c'.reverse.map vd),.v (vd P)]/\(∀X∈c',Sz 1000 X)/\c'.length<=c.length/\c'=G.X1 n P c)
       (c:=YK (λρ=>((((pK 2 ρ).bind λd=>R.ok [d]).bind LO).bind λx=>WI x (D.int 1)).bind vO) λρ=>((((Q4 0 ρ).bind λd=>(((pK 2 ρ).bind λx=>L3 x (D.int (-2))).bind λd=>(((pK 2 ρ).bind λx=>L3 x (D.int (-1))).bind λd=>((Q4 3 ρ).bind λd=>R.ok [d]).bind λds=>R.ok (d::ds)).bind λds=>R.ok (d::ds)).bind λds=>R.ok (d::ds)).bind eM).bind λx=>cz x (D.int 0)).bind vO) (F:=λρ=>(AB 2 ρ).bind λz=>R.ok (Out.nx z.snd))
       (λm ρ=>∃c',ρ=[.v (vd n),.v (.lst (aCu vd pts)),.o (c'.reverse.map vd),.v (vd P)]/\(∀X∈c',Sz 1000 X)/\c'.length<=c.length/\c'.length<m/\G.X1 n P c'=G.X1 n P c) ?_ (by rintro ρ ⟨c',_,_,_,h,_⟩;lia) ⟨c,rfl,sc,aAh _,by lia,rfl⟩ ?_) ?_
      ·rintro m ρ ⟨c',rfl,sub,ie,hm,ep⟩;match c',sub,ie,hm,ep with
       |[],_,_,_,_=>exact .inl (by simp)
       |[a],_,_,_,_=>exact .inl (by simp)
       |b::a::r,sub,ie,hm,ep=>
        have er:(b::a::r).reverse.map vd=r.reverse.map vd++[vd a,vd b]:=by simp
        have i1:L3 (.lst ((b::a::r).reverse.map vd)) (.int (-1))=.ok (vd b):=N1 (by rw[er];exact UB _ _ _);have i2:L3 (.lst ((b::a::r).reverse.map vd)) (.int (-2))=.ok (vd a):=N1 (by rw[er];exact UI _ _ _);have tn:=ER sn (sub a<|.tail _ (.head _)) (sub b<|.head _) sP;have hg:(1:Int)<(aCu vd (b::a::r).reverse).length:=by rw[aAk,aCD];simp;lia
        by_cases ht:G.turn n a b P<=0
        ·refine .inr ⟨?_,[.v (vd n),.v (.lst (aCu vd pts)),.o ((a::r).reverse.map vd),.v (vd P)],?_,a::r,rfl,λX hX=>sub X (.tail _ hX),?_,?_,?_⟩
         ·simp only[uR,oG,zO,R.aa0,AI,uT,decide_eq_true hg,EG,if_true,cC,gS,i1,i2,tn,AZ,decide_eq_true ht]
         ·show(match(aCu vd (b::a::r).reverse)[(aCu vd (b::a::r).reverse).length-1]? with|some d=>_|none=>_:R (D×Ev)).bind _=_;rw[er];simp
         ·simp only[aAx]at ie⊢;lia
         ·simp only[aAx]at hm⊢;lia
         ·rw[<-ep]
          conv=>rhs;unfold G.X1
          rw[if_pos ht]
        ·refine .inl ?_;simp only[uR,oG,zO,R.aa0,AI,uT,decide_eq_true hg,EG,if_true,cC,gS,i1,i2,tn,AZ,decide_eq_false ht]
      ·rintro m ρ ⟨c',rfl,sub,ie,hm,ep⟩ hc;refine⟨c',rfl,sub,ie,?_⟩;match c',sub,ie,hm,ep,hc with
       |[],_,_,_,ep,_=>exact ep
       |[a],_,_,_,ep,_=>exact ep
       |b::a::r,sub,ie,hm,ep,hc=>
        have er:(b::a::r).reverse.map vd=r.reverse.map vd++[vd a,vd b]:=by simp
        have i1:L3 (.lst ((b::a::r).reverse.map vd)) (.int (-1))=.ok (vd b):=N1 (by rw[er];exact UB _ _ _);have i2:L3 (.lst ((b::a::r).reverse.map vd)) (.int (-2))=.ok (vd a):=N1 (by rw[er];exact UI _ _ _);have tn:=ER sn (sub a<|.tail _ (.head _)) (sub b<|.head _) sP;have hg:(1:Int)<(aCu vd (b::a::r).reverse).length:=by rw[aAk,aCD];simp;lia
        simp only[uR,oG,zO,R.aa0,AI,uT,decide_eq_true hg,EG,if_true,cC,gS,i1,i2,tn,AZ,KN,decide_eq_false_iff_not]at hc;rw[<-ep]
        conv=>rhs;unfold G.X1
        rw[if_neg hc]
      ·rintro ρ2 ⟨ew,c',rfl,sub,ie,epop⟩;refine⟨[.v (vd n),.v (.lst (aCu vd pts)),.o ((P::c').reverse.map vd),.v (vd P)],?_,P::c',qs,_,rfl,rfl,?_,λX hX=>sq X (.tail _ hX),?_,?_⟩
       ·rw[ew];have hz:(aCu vd c'.reverse).length<sizeLine:=by rw[aAk,aCD];exact aDf (show c'.length<=1000 by lia) (by decide)
        simp only[A1,gS,cC,R.aa0];show(if(aCu vd c'.reverse).length<sizeLine then _ else _)=_;rw[if_pos hz];simp
       ·intro X hX;rcases aAd.mp hX with rfl|hX
        ·exact sP
        ·exact sub X hX
       ·simp;lia
       ·rw[<-e2,aDm,epop]
    ·rintro ρ ⟨c,qs,x,rfl,e1,sc,sq,hl,e2⟩;have:qs=[]:=by simpa using e1.symm
     subst this;have e2:c=G.w8 n pts:=e2;subst e2;simp[RM]
   ·cases h
  ·cases h
def kM (S6:v5 P w K mg base 3 "left_chain" 2 T6)(jc:mg "list"=none)(jr:mg "reversed"=none)(g:cR K mg "ring_of" kI):v5 P w K mg base 4 "ring_of" 2 P1:=by
 refine' n6 (k:=3) (F:=_) g BB (λhr hu eh nd=>?b) λds d hl h=>?_
 case b=>
  refine' (c5 (i9 2 (T1 S6 hr (c6 0)<|c6 1) nd)
   (c5 (i9 3 (T1 S6 hr (c6 0)<|PF.pd<|BX (b8 1) rfl) nd)
   (c9<|j1<|b9 l7 (PD.pb<|sE (b8 2) cT<|V4<|kB d5)<|PD.pb<|sE (b8 3) cT<|V4<|kB d5)))
 replace h:=C7 h;obtain⟨a,b,c,ds,rfl,h⟩:=h;replace h:=uC h;obtain⟨xs,ds,rfl,h⟩:=h;replace h:=G9 h;obtain⟨rfl,h⟩:=h
 ·skip
  split at h
  ·rename_i pts hw;rw[p5 hw];split at h
   ·rename_i hz;rw[<-h];obtain⟨sn,hs⟩:=hz;have vn:(.tup [.int a,.int b,.int c]:D)=vd ⟨a,b,c⟩:=rfl;rw[vn];generalize(⟨a,b,c⟩:G.V)=n at*
    have l1:=VA sn hs;have hs2:W8 1000 pts.reverse:=hs.sub (λP hP=>by simpa using hP) (by simp);have l2:=VA sn hs2;rw[aFt (l:=pts)]at l2;have k1:=qZ n pts;have k2:=qZ n pts.reverse;rw[aCD]at k2;have ha:kF (.lst ((G.w8 n pts).reverse.map vd).dropLast) (.lst ((G.w8 n pts.reverse).reverse.map vd).dropLast)=.ok (.lst ((G.k9 n pts).map vd)):=by rw[ED (by simp only[aFK,aAk,aCD];exact aAr (show _<=2000 by have:=hs.2;lia) (by decide))];unfold G.k9;rw[aCE,List.map_dropLast,List.map_dropLast]
    simp[-aFt,j5,l1,l2,OV,ha,fj]
   ·cases h
  ·cases h
def Y5 (jc:mg "list"=none)(b_zip:mg "zip"=none)(g:cR K mg "pairs_round" Z7):v5 P w K mg base 1 "pairs_round" 1 z6:=by
 refine' n6 (k:=0) (F:=_) g nD (λhr hu eh nd=>?b) λds d hl h=>?_
 case b=>refine' (c9<|j1<|PF.pd<|AU (b8 0) (PD.pb<|b9 l7 (PD.pb<|sE (b8 0) (V4 d5) cT)<|PD.pb<|sE (b8 0) cT<|V4 d5) rfl)
 match ds,h with
 |[.lst xs],h=>
  simp only[z6]at h;split at h
  ·rename_i pts hw;rw[p5 hw];split at h
   ·rename_i hz;rw[<-h];have ha:kF (.lst (pts.map vd).tail) (.lst ((pts.map vd).take 1))=.ok (.lst ((pts.tail++pts.take 1).map vd)):=by rw[ED (by simp only[List.length_tail,aBN,aAk];exact XH (by lia))];rw[aCE,List.map_tail,List.map_take]
    have hzz:(pts.map vd).length=((pts.tail++pts.take 1).map vd).length:=by
     simp only[aAk,aAN,List.length_tail,aBN]
     lia
    have hzp:QX [.lst (pts.map vd),.lst ((pts.tail++pts.take 1).map vd)]=.ok ((G.T7 pts).map F9):=by show(if _ then _ else _)=_;rw[if_pos hzz,rN (β:=Unit)];rfl
    simp[-aCE,-List.map_tail,-List.map_take,j5,TH,VW,ha,hzp]
   ·cases h
  ·cases h
def bL (J6:v5 P w K mg base 3 "plane_about" 2 D1)(kM:v5 P w K mg base 4 "ring_of" 2 P1)(Y5:v5 P w K mg base 1 "pairs_round" 1 z6)(cb:mg "len"=none)(bu:mg "sorted"=none)(g:cR K mg "faces_from" cA):SA P w K mg base 8 3 "faces_from" G0:=by
 obtain⟨f,fd,nv,F0⟩:=g;refine' QH (k:=7) (F:=_) F0 fI rfl (F0.binds λ_ _ _ _ _ _ us hl=>match us,hl with|[_,_,_],_=>rfl) nv (λcdv A outer s H E hr=>?hb) ?hm
 case hb=>
  have hu:=hr.units;have eh:=hr.ae7;have ye:=hr.ad8 (by decide);have nd:=fI.nd;refine' (c5 (mD 3 (vE u9) nd)
   (c5 (xH 4 nd)
   (c5 (mD 5 (vE<|j2 (c6 0) u9) nd)
   (c5 (eS (λ_=>5000) aAR (j9 kW (PD.pb<|yZ P6<|b8 5) t7) (c5 (CC 6 5 nd)
   (c9 (w5 (IF 4 (c6 6) eh) (c5 (i9 7 (T1 J6 hr (c6 6) (wK 1 (k:=3) (Φ:=IM P w K mg base 3 1) rfl (j2 (f6 (b8 6) d5) u9) (A4 aP) (hr.mono (by decide)))) nd)
   (c5 (i9 8 (T1 kM hr (sE (b8 7) cT<|V4 d5) (wK 2 (k:=3) (Φ:=IM P w K mg base 3 1) rfl (j2 (c6 7) u9) (A4 aP) (hr.mono (by decide)))) nd)
   (c5 (bI 3<|GH (c6 7)<|c6 8)
   (c9 (D6 aAR rfl (t5<|IN Y5 hr<|c6 8) (l8 9 nd) (c5 (fU 4 xT (c6 9) eh)
   (c9<|bI 5<|GH (f6 (b8 9) d5)<|f6 (b8 9) d5))))))) m9))))
   (c9<|j1<|PF.pd<|AW (b8 3) rfl ye)))))
 case hm=>
  intro d m1 m2 d' h;simp only[G0]at h;split at h
  ·rename_i xs hm1;split at h
   ·rename_i m pts hw;split at h
    ·rename_i hz;rw[<-h];obtain⟨hz,qi,hd,e1,e2⟩:=hz;rw[p5 hw]at e1 e2;subst hd e1 e2;have s1:(1:Nat)<=sizeLine:=by decide
     simp only[kG,cC,nQ,uM,R.aa0,aAx,aBU,aEd,s1,if_true,A1];exact ZX (Φ:=IM P w K mg base 3 1) hz qi
    ·cases h
   ·cases h
  ·cases h
def qY:Nst:=⟨"about",DV,D7 dR,u5 dR,c7 dR,DB dR,["corner"],[],["spread"],[1],(λρ=>(Q4 1 ρ).bind λd=>.ok (.rt d)),J2,2⟩
def dS:Nst:=⟨"touched_by",iL,D7 I9,u5 I9,c7 I9,DB I9,["plane"],[],["spread"],[1],(λρ=>((p8 (Q4 0) (p8 (Q4 1) Q7) ρ).bind z7).bind λd=>.ok (.rt d)),C5,3⟩
def FT {f:Addr}{cdv:Value}{A:Around}{outer:List Env}{s:Shared}{H:Hp}{E:XK}:NstOk (TC P w K mg base gD "faces_of" (c7 K3) f cdv A outer s H E) 2 qY where
 sc:=⟨rfl,rfl,rfl,by decide+kernel,by decide+kernel,by decide+kernel,λx h=>DZ h,by decide+kernel⟩
 one:=rfl
 body:=λfa cd clos A outer s H hr=>by have hu:=hr.units;exact(c9<|j1<|c6 1)
 mm:=by
  intro wd ds d h1 h2 h;match wd,ds,h1,h2,h with
  |[_],[_],_,_,h=>cases h;rfl
 bind:=λclos doc pm cd ctv us hl=>match us,hl with|[_],_=>rfl
 len:=rfl
 at_:=λi j x h1 h2=>match i,h1,h2 with
  |0,h1,h2=>by obtain rfl:1=j:=aAj h1;obtain rfl:("spread":Str)=x:=aAj h2;exact⟨rfl,rfl⟩
  |i+1,h1,_=>nomatch(show(none:Option Nat)=some j from h1)
 d0:=rfl
 k0:=rfl
 nm:=rfl
 lc:=.inl rfl
 st:=.inl rfl
 dbg:=by decide
 cdt:=by decide
def nT (F3:v5 P w K mg base 2 "points_on" 2 z7){f:Addr}{cdv:Value}{A:Around}{outer:List Env}{s:Shared}{H:Hp}{E:XK}:NstOk (TC P w K mg base gD "faces_of" (c7 K3) f cdv A outer s H E) 2 dS where
 sc:=⟨rfl,rfl,rfl,by decide+kernel,by decide+kernel,by decide+kernel,λx h=>DZ h,by decide+kernel⟩
 one:=rfl
 body:=λfa cd clos A outer s H hr=>by have hu:=hr.units;exact(c9<|j1<|T1 F3 hr (c6 0)<|c6 1)
 mm:=by
  intro wd ds d h1 h2 h;match wd,ds,h1,h2,h with
  |[w],[p],_,_,h=>have h:z7 [p,w]=.ok d:=h;show L4 (((p8 (Q4 0) (p8 (Q4 1) Q7) [.v p,.v w]).bind z7).bind λd=>.ok (.rt d))=.ok d;have e:p8 (Q4 0) (p8 (Q4 1) Q7) [.v p,.v w]=.ok [p,w]:=rfl;rw[e,R.aa0,h];rfl
 bind:=λclos doc pm cd ctv us hl=>match us,hl with|[_],_=>rfl
 len:=rfl
 at_:=λi j x h1 h2=>match i,h1,h2 with
  |0,h1,h2=>by obtain rfl:1=j:=aAj h1;obtain rfl:("spread":Str)=x:=aAj h2;exact⟨rfl,rfl⟩
  |i+1,h1,_=>nomatch(show(none:Option Nat)=some j from h1)
 d0:=rfl
 k0:=rfl
 nm:=rfl
 lc:=.inl rfl
 st:=.inl rfl
 dbg:=by decide
 cdt:=by decide
def fQ {Pt:Addr}(F3:v5 P w K mg base 2 "points_on" 2 z7)(Z2:v5 P w K mg base 3 "refuse_flat" 1 D4)(aW:v5 P w K mg base 8 "first_pair" 1 G1)(bL:SA P w K mg base 8 3 "faces_from" G0)(bu:mg "sorted"=none)(kr:mg "set"=none)(hB:gO mg base)(hTt:(Pt,tbK)∈Tabs.tbs)(g:ZY K mg "faces_of" K3 Pt):v5 P w K mg base 9 "faces_of" 1 U6:=by
 obtain⟨f,fd,cd,nv,hK,F0⟩:=g;refine' PJ (k:=8) (F:=_) F0 lE (F0.fn.binds λ_ _ _ _ _ _ us hl=>match us,hl with|[_],_=>rfl) nv (λA outer s H E hr=>?hb) ?hm
 case hb=>
  have hu:=hr.units;have eh:=hr.ae7;have ye:=hr.ad8 (by decide);have nd:=lE.nd;refine' (c5 (OC<|IN Z2 hr<|c6 0)
   (c5 (i9 1 (PF.pd<|bH (b8 0) rfl ye) nd)
   (CD (n1:=qY) (n2:=dS) (clos1:=[("spread",s.heap.objs.size+1)]) (clos2:=[("spread",s.heap.objs.size+1)]) (tb:=tbK) FT (nT F3) ?co1 ?co2 ?hA hB rfl hK hTt (by decide+kernel) (by decide+kernel) (by decide+kernel) (by decide+kernel) (by decide) nd bL (hr.mono (by decide)) (IN aW hr<|c6 1) (λ_=>rfl))))
  case co1=>exact⟨rfl,rfl,rfl,λx c h=>h,λx hx=>⟨_,by obtain rfl:x= "spread":=aBm.mp hx;rfl⟩⟩
  case co2=>exact⟨rfl,rfl,rfl,λx c h=>h,λx hx=>⟨_,by obtain rfl:x= "spread":=aBm.mp hx;rfl⟩⟩
  case hA=>exact FW
 case hm=>
  intro ds d hl h;match ds,h with
  |[.lst xs],h=>
   simp only[U6]at h;split at h
   ·rename_i pts hw;rw[p5 hw];split at h
    ·rename_i hz;rw[<-h];obtain⟨h1,h2,h3⟩:=hz;obtain⟨m,r,e,L⟩:=X7 h1 h2 (by lia);have ss:=KD (pts:=pts) (by lia);have fl:=QN (h1.mono (n:=1000)) h2;rw[e]at h3 ss⊢;have fp:=ZT L;have ff:=VU L h3;obtain⟨L1,eL⟩:∃L1,(m::r).map vd=L1:=⟨_,rfl⟩;rw[eL]at ss fp ff;show L4 (C3 ((D4 [D.lst (pts.map vd)]).bind λ_=>R.ok (Out.nx [.v (.lst (pts.map vd)),.no,.no,.no])) _)=_;rw[fl,R.aa0,A1];show L4 (C3 (((ZF<|.lst (pts.map vd)).bind λds=>R.ok (D.lst ds)).bind λd=>R.ok (Out.nx [.v (.lst (pts.map vd)),.v d,.no,.no])) _)=_;rw[ss,R.aa0,R.aa0,A1];show L4 (((G1 [D.lst L1]).bind λd1=>(R.ok [D.lst L1]).bind λw1=>(R.ok [D.lst L1]).bind λw2=>G0 d1 (J2 w1) (C5 w2)).bind λd=>R.ok (Out.rt d))=_;rw[fp,R.aa0,R.aa0,R.aa0,ff];rfl
    ·cases h
   ·cases h
end
end K22
namespace K22
open PySem L2 DL M
section
variable [Tabs]
variable{P:Program} {w:World} {K:PySem.W.Frag} {mg:cF} {base:Heap}
def fV (fQ:v5 P w K mg base 9 "faces_of" 1 U6)(aJ:v5 P w K mg base 1 "side_of" 2 G2)(ku:mg "max"=none)(g:cR K mg "where_in" aT):v5 P w K mg base 10 "where_in" 2 iH:=by
 refine' n6 (k:=9) (F:=_) g wH (λhr hu eh nd=>?b) λds d hl h=>?_
 case b=>refine' (c9<|j1<|kB<|E9 (iV rfl)<|j3 (PD.pb<|B0 ["face"] ["P"] [1] rfl (A0 (sc:=c7 aT) (N:=pA)) (t5<|IN fQ hr<|c6 0) (vT λ_ _ _ _ _=>(T1 aJ hr (f6 (b8 0) d5)<|c6 1))<|λ_=>l6) l9)
 match ds,h with
 |[.lst xs,p],h=>
  simp only[iH]at h;split at h
  ·rename_i pts P' e1 e2;rw[p5 e1,jG e2];split at h
   ·rename_i hz;rw[<-h];obtain⟨h1,h2,h3,hP⟩:=hz;have FO:=JU h1 h2 h3;obtain⟨hf,af,hl⟩:=kK h1 h2 h3;have ie:(k7<|d8 pts).length<=sizeLine:=aAr hl (by decide);have cm:∀(ρ:Ev),ρ.length=2->Q4 1 ρ=.ok (vd P')->u4 (λd ρ=>R.ok (aCG ρ 0<|Sl.v d)) (λx=>R.ok true) (λρ=>(((pK 0 ρ).bind λx=>L3 x (D.int 0)).bind λd=>((Q4 1 ρ).bind λd=>R.ok [d]).bind λds=>R.ok (d::ds)).bind G2) ρ ((k7<|d8 pts).map (o6<|d8 pts))=.ok (((k7<|d8 pts).map λf=>sgn (G.c8 f.1 P'-f.2)).map D.int):=λρ hρ e1=>by
     rw[G4 (r:=λd=>match d with|.tup [p,_]=>(match G2 [p,vd P']with|.ok x=>x|_=>.non)|_=>.non)]
     ·congr 1;rw[aBi,aBi];refine aDF λf hF=>?_;simp only[aGi,rL h1 hP ((hf f).mp hF)]
     ·intro d hd;obtain⟨f,hF,rfl⟩:=aAo.mp hd;match ρ,hρ with
      |[a,b],_=>refine⟨_,rfl,?_⟩;have zv:Q4 1 [.v (o6 (d8 pts) f),b]=.ok (vd P'):=e1;have i0:L3 (o6 (d8 pts) f) (.int 0)=.ok (qP f.1 f.2):=EZ rfl;have sf:=rL h1 hP ((hf f).mp hF);simp[zv,i0,sf]
    simp[j5,FO,ie];rw[cm _ (by rfl) (by rfl)];have mx:lL [.lst (((k7<|d8 pts).map λf=>sgn (G.c8 f.1 P'-f.2)).map D.int)]=.ok (.int (aN<|(k7<|d8 pts).map λf=>sgn (G.c8 f.1 P'-f.2))):=by simp only[lL,cM];exact if_pos (by simpa using af)
    have wm:=GU hf af P';generalize(k7<|d8 pts).map (λf=>sgn (G.c8 f.1 P'-f.2))=ns at*
    simp[mx,YJ,wm]
   ·exact absurd h (by simp)
  ·exact absurd h (by simp)
end
end K22
namespace K22
open PySem L2 DL M
section
variable [Tabs]
variable{P:Program} {w:World} {K:PySem.W.Frag} {mg:cF} {base:Heap}
def C1 (cb:mg "len"=none)(g:cR K mg "_law_cell" cI):v5 P w K mg base 1 "_law_cell" 2 X5:=by
 refine' n6 (k:=0) (F:=_) g vH (λhr hu eh nd=>?b) λds d hl h=>?_
 case b=>
  refine' (c5 (w5 (j9 yS (b8 1)<|PD.pb<|yZ P6<|b8 0) (c9<|j1<|f6 (b8 0)<|c6 1) m9)
   (c9<|j1<|b9 l7 (PD.pb<|b9 l7 (PD.pb<|b9 k5 (PD.pb<|b9 k5 t7<|b8 1)<|b8 1)<|PD.pb<|b9 k5 t7<|b8 1) t7))
 match ds,h with
 |[.lst xs,.int k],h=>
  simp only[X5]at h;split at h
  ·rename_i hz;obtain⟨h0,h1⟩:=hz;rw[<-h];have hb:bits k<=20:=K5 (by lia) (by lia);have ya:bits (6*k)<=30:=K5 (by lia) (by lia);by_cases hk:k<xs.length
   ·have e:xs[k.toNat]?=some xs[k.toNat]:=aAg (by lia);have e2:lS xs k=some xs[k.toNat]:=by rw[V6 h0,e]
    simp[j5,hk,N1 e2,rD,e]
   ·have e:xs[k.toNat]?=none:=aBJ.mpr (by lia);simp[j5,hk,rD,e,f8 (k8.of (show bits 6<=10 by decide) hb),f8 (k8.of ya hb),f8 (k8.of (show bits 5<=10 by decide) hb),M.yA]
  ·cases h
def K1 (g:cR K mg "_law_way" gJ):v5 P w K mg base 1 "_law_way" 2 n4:=by
 refine' n6 (k:=0) (F:=_) g xU (λhr hu eh nd=>?b) λds d hl h=>?_
 case b=>refine' (c9<|j1<|DM (b9 t6 (PD.pb<|f6 (b8 1) d5)<|PD.pb<|f6 (b8 0) d5) (b9 t6 (PD.pb<|f6 (b8 1) d5)<|PD.pb<|f6 (b8 0) d5)<|b9 t6 (PD.pb<|f6 (b8 1) d5)<|PD.pb<|f6 (b8 0) d5)
 replace h:=C7 h;obtain⟨a,b,c,ds,rfl,h⟩:=h;replace h:=C7 h;obtain⟨a',b',c',ds,rfl,h⟩:=h;replace h:=G9 h;obtain⟨rfl,h⟩:=h;exact h
def M8 (g:cR K mg "_law_cross" bN):v5 P w K mg base 1 "_law_cross" 2 v6:=by
 refine' n6 (k:=0) (F:=_) g qH (λhr hu eh nd=>?b) λds d hl h=>?_
 case b=>refine' (c9<|j1<|DM (b9 t6 (PD.pb<|b9 k5 (PD.pb<|f6 (b8 0) d5)<|PD.pb<|f6 (b8 1) d5)<|PD.pb<|b9 k5 (PD.pb<|f6 (b8 0) d5)<|PD.pb<|f6 (b8 1) d5) (b9 t6 (PD.pb<|b9 k5 (PD.pb<|f6 (b8 0) d5)<|PD.pb<|f6 (b8 1) d5)<|PD.pb<|b9 k5 (PD.pb<|f6 (b8 0) d5)<|PD.pb<|f6 (b8 1) d5)<|b9 t6 (PD.pb<|b9 k5 (PD.pb<|f6 (b8 0) d5)<|PD.pb<|f6 (b8 1) d5)<|PD.pb<|b9 k5 (PD.pb<|f6 (b8 0) d5)<|PD.pb<|f6 (b8 1) d5)
 replace h:=C7 h;obtain⟨a,b,c,ds,rfl,h⟩:=h;replace h:=C7 h;obtain⟨a',b',c',ds,rfl,h⟩:=h;replace h:=G9 h;obtain⟨rfl,h⟩:=h;split at h
 ·rename_i hz;obtain⟨⟨h1,h2,h3⟩,h4,h5,h6⟩:=hz;rw[<-h];simp[j5,f8 (k8.of h2 h6),f8 (k8.of h3 h5),f8 (k8.of h3 h4),f8 (k8.of h1 h6),f8 (k8.of h1 h5),f8 (k8.of h2 h4)]
 ·cases h
def o8 (g:cR K mg "_law_product" W0):v5 P w K mg base 1 "_law_product" 2 j4:=by
 refine' n6 (k:=0) (F:=_) g lW (λhr hu eh nd=>?b) λds d hl h=>?_
 case b=>refine' (c9<|j1<|b9 l7 (PD.pb<|b9 l7 (PD.pb<|b9 k5 (PD.pb<|f6 (b8 0) d5)<|PD.pb<|f6 (b8 1) d5)<|PD.pb<|b9 k5 (PD.pb<|f6 (b8 0) d5)<|PD.pb<|f6 (b8 1) d5)<|PD.pb<|b9 k5 (PD.pb<|f6 (b8 0) d5)<|PD.pb<|f6 (b8 1) d5)
 replace h:=TQ h;obtain⟨a,b,c,t,ds,rfl,h⟩:=h;replace h:=C7 h;obtain⟨a',b',c',ds,rfl,h⟩:=h;replace h:=G9 h;obtain⟨rfl,h⟩:=h;split at h
 ·rename_i hz;obtain⟨⟨h1,h2,h3⟩,h4,h5,h6⟩:=hz;rw[<-h];simp[j5,UF,UM,UP,f8 (k8.of h1 h4),f8 (k8.of h2 h5),f8 (k8.of h3 h6)]
 ·cases h
def bO (bp:mg "range"=none)(dh:mg "tuple"=none)(g:cR K mg "_law_point" bC):v5 P w K mg base 1 "_law_point" 2 aI:=by
 refine' n6 (k:=0) (F:=_) g qJ (λhr hu eh nd=>?b) λds d hl h=>?_
 case b=>
  refine' (c5 (w5 (j9 (N6 hu) (b8 1) t7) (c5 (i9 2 (b9 l7 (PD.pb<|b9 k5 t7<|PD.pb<|b9 bK t7 t7) t7) nd)
   (c9<|j1<|DM (b9 t6 (PD.pb<|b9 u8 (b8 0)<|b8 2)<|PD.pb<|b9 bK t7 t7) (b9 t6 (PD.pb<|b9 u8 (PD.pb<|b9 p7 (b8 0)<|b8 2)<|b8 2)<|PD.pb<|b9 bK t7 t7)<|b9 t6 (PD.pb<|b9 u8 (PD.pb<|b9 p7 (b8 0)<|PD.pb<|b9 k5 (b8 2)<|b8 2)<|b8 2)<|PD.pb<|b9 bK t7 t7)) m9)
   (c5 (w5 (j9 (N6 hu) (b8 1) t7) (c5 (i9 3 (b9 u8 (PD.pb<|b9 l7 (PD.pb<|b9 k5 (b8 0) t7) t7) t7) nd)
   (c5 (mD 4 (vE u9) nd)
   (c5 (D6 aAR rfl (B7<|j3 t7 l9) (l8 5 nd) (c5 (i9 3 (b9 u8 (PD.pb<|b9 l7 (PD.pb<|b9 l7 (PD.pb<|b9 k5 (b8 3)<|b8 3)<|PD.pb<|b9 k5 t7<|b8 5) t7) t7) nd)
   (c9<|bI 4<|b9 t6 (PD.pb<|b9 u8 (b8 3) t7)<|PD.pb<|b9 bK t7 t7)))
   (c9<|j1<|D2 V2<|j3 (b8 4) l9)))) m9)
   (c5 (i9 2 (f6 (PD.pb<|oD<|j2 d5<|j2 d5<|j2 d5 u9)<|c6 1) nd)
   (c9<|j1<|DM (b9 t6 (PD.pb<|b9 u8 (b8 0)<|b8 2)<|PD.pb<|b9 p7 (b8 2) t7) (b9 t6 (PD.pb<|b9 u8 (PD.pb<|b9 p7 (b8 0)<|b8 2)<|b8 2)<|PD.pb<|b9 p7 (b8 2) t7)<|b9 t6 (PD.pb<|b9 u8 (PD.pb<|b9 p7 (b8 0)<|PD.pb<|b9 k5 (b8 2)<|b8 2)<|b8 2)<|PD.pb<|b9 p7 (b8 2) t7))))
 match ds,h with
 |[.int t,.int way],h=>
  simp only[aI]at h;split at h
  ·rename_i hc;rw[<-h];obtain⟨hc,h0,h4⟩:=hc;have p9:BR (.int 10) (.int 9)=.ok (.int 1000000000):=(oR ⟨by decide,by decide,by decide⟩).trans (by rfl);have mw:∀{x w:Int},0<w->M9 (.int x) (.int w)=.ok (.int (x.fmod w)):=λhw=>I0 hw;have wd:∀{w:Int},0<w->bits w<=80->J3 (.int w) (.int w)=.ok (.int (w*w))/\M6 (.int t) (.int w)=.ok (.int (t.fdiv w))/\M6 (.int t) (.int (w*w))=.ok (.int (t.fdiv<|w*w))/\M6 (.int w) (.int 2)=.ok (.int (w.fdiv 2)):=λ{w} w0 wb=>by have ww:0<w*w:=aAU w0 w0;exact⟨f8 (k8.of wb wb),T8 ⟨by lia,n9 wb⟩,T8 ⟨by lia,n9 (bits_mul wb wb)⟩,kO (by decide) (by decide)⟩
   rcases(show way=4\/way=3\/way=0\/way=1\/way=2 by lia)with rfl|rfl|rfl|rfl|rfl
   ·have m0:J3 (.int t) (.int 40009)=.ok (.int (t*40009)):=f8 (k8.of hc (show bits 40009<=80 by decide));have r1:∀x:Int,bits (x.fmod 2147483647)<=80:=λx=>bits_fmod (by decide) (by decide);have b0:J3 (.int (UW t)) (.int (UW t))=.ok (.int (UW t*UW t)):=f8 (k8.of (r1 _)<|r1 _);have b1:∀s k:Int,J3 (.int (mR s k)) (.int (mR s k))=.ok (.int (mR s k*mR s k)):=λs k=>f8 (k8.of (r1 _)<|r1 _);have f0:(t*40009+6007).fmod 2147483647=UW t:=rfl;have f1:∀s:Int,(s*s+11).fmod 2147483647=mR s 0:=λs=>by unfold mR;simp
    have f2:∀s:Int,(s*s+5003+11).fmod 2147483647=mR s 1:=λs=>by unfold mR;simp
    have f3:∀s:Int,(s*s+10006+11).fmod 2147483647=mR s 2:=λs=>by unfold mR;simp
    have mp:∀x:Int,M9 (.int x) (.int 2147483647)=.ok (.int (x.fmod 2147483647)):=λx=>mw (by decide);have mq:∀x:Int,M9 (.int x) (.int 2000000011)=.ok (.int (x.fmod 2000000011)):=λx=>mw (by decide);have k0:J3 (.int 5003) (.int 0)=.ok (.int 0):=(f8 (k8.of (show bits 5003<=80 by decide) (show bits 0<=80 by decide))).trans (by rfl);have k1:J3 (.int 5003) (.int 1)=.ok (.int 5003):=(f8 (k8.of (show bits 5003<=80 by decide) (show bits 1<=80 by decide))).trans (by rfl);have k2:J3 (.int 5003) (.int 2)=.ok (.int 10006):=(f8 (k8.of (show bits 5003<=80 by decide) (show bits 2<=80 by decide))).trans (by rfl);simp[j5,p9,m0,mp,mq,f0,f1,f2,f3,b0,b1,k0,k1,k2,M3,yO,OQ,TZ,gz,vd,kL,aF,sizeLine,xJ]
   ·have k0:J3 (.int 2) (.int 1000000000)=.ok (.int 2000000000):=(f8 (k8.of (show bits 2<=80 by decide) (show bits 1000000000<=80 by decide))).trans (by rfl);obtain⟨e1,e2,e3,e4⟩:=wd (w:=2000000001) (by decide) (by decide);have mp:∀x:Int,M9 (.int x) (.int 2000000001)=.ok (.int (x.fmod 2000000001)):=λx=>mw (by decide);simp only[aFm]at e1 e3;simp[j5,p9,k0,e1,e2,e3,mp,OQ,fL,dw,vd,aF,sizeLine]
   ·obtain⟨e1,e2,e3,e4⟩:=wd (w:=3) (by decide) (by decide);have mp:∀x:Int,M9 (.int x) (.int 3)=.ok (.int (x.fmod 3)):=λx=>mw (by decide);simp only[aFm]at e1 e3;simp[j5,e1,e2,e3,e4,mp,OQ,fL,dw,vd,aF,sizeLine,L3,lS,yY]
   ·obtain⟨e1,e2,e3,e4⟩:=wd (w:=5) (by decide) (by decide);have mp:∀x:Int,M9 (.int x) (.int 5)=.ok (.int (x.fmod 5)):=λx=>mw (by decide);simp only[aFm]at e1 e3;simp[j5,e1,e2,e3,e4,mp,OQ,fL,dw,vd,aF,sizeLine,L3,lS,yY]
   ·obtain⟨e1,e2,e3,e4⟩:=wd (w:=9) (by decide) (by decide);have mp:∀x:Int,M9 (.int x) (.int 9)=.ok (.int (x.fmod 9)):=λx=>mw (by decide);simp only[aFm]at e1 e3;simp[j5,e1,e2,e3,e4,mp,OQ,fL,dw,vd,aF,sizeLine,L3,lS,yY]
  ·exact absurd h (by simp)
def Z5 (C1:v5 P w K mg base 1 "_law_cell" 2 X5)(bO:v5 P w K mg base 1 "_law_point" 2 aI)(bp:mg "range"=none)(je:mg "enumerate"=none)(g:cR K mg "_law_points" J5):v5 P w K mg base 2 "_law_points" 2 fB:=by
 refine' n6 (k:=1) (F:=_) g mW (λhr hu eh nd=>?b) λds d hl h=>?_
 case b=>
  refine' (c5 (i9 2 (b9 l7 t7<|PD.pb<|b9 u8 (PD.pb<|T1 C1 hr (c6 0) d5)<|PD.pb<|b9 t6 (b8 1) t7) nd)
   (c5 (GM 3 ["k"] [] [] nd rfl (A0 (sc:=c7 J5) (N:=Z3)) (B7<|j3 (b8 2) l9) (vT λ_ _ _ _ _=>(b9 l7 (PD.pb<|b9 k5 (PD.pb<|b9 k5 t7<|b8 0)<|b8 0)<|PD.pb<|b9 k5 t7<|b8 0))<|λ_=>l6)
   (c5 (D6 aAR rfl (JK<|sE (b8 0) (V4 d5)<|V4 d5) (iG (n:=2) rfl<|z9 (l8 4 nd)<|z9 (l8 5 nd) dF)<|c9<|GX 3 (b9 l7 (PD.pb<|f6 (b8 3)<|b9 u8 (b8 4)<|b8 2)<|b8 5)<|b9 u8 (b8 4)<|b8 2)
   (c9<|CS 3<|j1<|B0 ["total"] ["script"] [0] rfl (A0 (sc:=c7 J5) (N:=Z3)) (t5<|c6 3) (vT λ_ _ _ _ _=>(T1 bO hr (c6 0)<|b9 u8 (PD.pb<|T1 C1 hr (c6 1) d5) t7))<|λ_=>l6))))
 match ds,h with
 |[.lst xs,.int most],h=>
  simp only[fB]at h;split at h
  ·rename_i hc;rw[<-h];obtain⟨hi,hl,h0,h1⟩:=hc;obtain⟨c0,b0⟩:=FA hi 0 (by decide) (by decide);obtain⟨c1,b1⟩:=FA hi 1 (by decide) (by decide);have mr:=fY xs h0;have md:M9 (.int (cJ xs 0)) (.int (most-3))=.ok (.int ((cJ xs 0).fmod (most-3))):=I0 (by lia);have rg:dZ [.int (4+(cJ xs 0).fmod (most-3))]=.ok ((aBu<|x5 xs most).map λ(k:Nat)=>D.int (k:Int)):=by rw[<-mr.2.2];exact aj (by lia)
   have t0:=DX (x5 xs most) (by lia);have cm:u4 (λd ρ=>R.ok (aCG ρ 0<|Sl.v d)) (λx=>R.ok true) (λρ=>(((pK 0 ρ).bind λy=>J3 (D.int 5) y).bind λx=>(pK 0 ρ).bind λy=>J3 x y).bind λx=>((pK 0 ρ).bind λy=>J3 (D.int 3) y).bind λy=>kF x y) [.no] ((aBu<|x5 xs most).map λ(k:Nat)=>D.int (k:Int))=.ok ((yN<|x5 xs most).map D.int):=by
    unfold yN;rw[aBi];refine K6 (λ(k:Nat)=>D.int (k:Int)) _ _ λk hk=>⟨[.v (.int k)],rfl,?_⟩;have ke:k<x5 xs most:=by simpa using hk
    have kb:bits (k:Int)<=80:=K5 (by lia) (by lia);have m1:J3 (.int 5) (.int k)=.ok (.int (5*k)):=f8 (k8.of (show bits 5<=80 by decide) kb);have m2:J3 (.int (5*(k:Int))) (.int k)=.ok (.int (5*k*k)):=f8 (k8.of (bits_mul (show bits 5<=80 by decide) kb) kb);have m3:J3 (.int 3) (.int k)=.ok (.int (3*k)):=f8 (k8.of (show bits 3<=80 by decide) kb);simp[m1,m2,m3]
   have en:KR [.lst ((xs.take 63).drop 2)]=.ok (rX 0<|(xs.take 63).drop 2):=by rw[<-RE];rfl
   have l1:x5 xs most<=sizeLine:=aAr (show x5 xs most<=20 by lia) (by decide);have hlc:((xs.take 63).drop 2).length<=61:=by simp;lia
   have hic:M1 1048576 ((xs.take 63).drop 2):=λx hx=>hi x (aEq<|aDw hx);have TK:=LN hi h0 h1;have q5:=aY (a:=cJ xs 1) (b:=5) (by decide);have m5:M9 (.int (cJ xs 1)) (.int 5)=.ok (.int ((cJ xs 1).fmod 5)):=I0 (by decide);have cf:u4 (λd ρ=>R.ok (aCG ρ 0<|Sl.v d)) (λx=>R.ok true) (λρ=>((Q4 0 ρ).bind λd=>(((((Q4 1 ρ).bind λd=>R.ok [d,D.int 1]).bind X5).bind λx=>M9 x (D.int 5)).bind λd=>R.ok [d]).bind λds=>R.ok (d::ds)).bind aI) [.no,.v (.lst xs)] ((yG xs most).map D.int)=.ok ((gE xs most).map vd):=by unfold gE;rw[aBi];refine K6 D.int _ _ λt ht=>⟨[.v (.int t),Sl.v (.lst xs)],rfl,?_⟩;have:=GG (t:=t) (way:=(cJ xs 1).fmod 5) (f7 (TK.2 t ht) (by decide)) q5.1 (by lia);simp[c1,m5,this]
   have l2:((yG xs most).map D.int).length<=sizeLine:=by rw[aAk,TK.1];exact aAr (show x5 xs most<=20 by lia) (by decide)
   have mpos:0<x5 xs most:=by lia
   simp only[<-mr.2.2]at rg md⊢;simp-implicitDefEqProofs [j5,c0,md,rg,cm,l1,f9,VI,en,<-mr.2.2];refine cK (λds ρ=>∃(k:Nat) (ys:List D) (ts:List Int) (a b:Sl),ds=rX k ys/\ρ=[.v (.lst xs),.v (.int most),.v (.int (x5 xs most:Int)),.o (ts.map D.int),a,b]/\wI (x5 xs most) k ys ts=yG xs most/\ts.length=x5 xs most/\M1 1048576 ys) ?_ ⟨0,(xs.take 63).drop 2,yN (x5 xs most),_,_,rfl,rfl,rfl,t0.1,hic⟩ ?_
   ·rintro d ds ρ ⟨k,ys,ts,a,b,e1,rfl,e3,e4,e5⟩;match ys,e1,e3,e5 with
    |y::ys,e1,e3,e5=>
     obtain⟨i,rfl,hb⟩:=e5 _ (.head _);injection e1 with e1 e2;subst e1 e2;have hk:k%x5 xs most<ts.length:=by rw[e4];exact aDJ _ mpos
     have mk:M9 (.int (k:Int)) (.int (x5 xs most:Int))=.ok (.int ((k%x5 xs most:Nat):Int)):=(I0 (by lia)).trans (by rw[aDv _ (by lia)];rfl);have ix:L3 (.lst (ts.map D.int)) (.int ((k%x5 xs most:Nat):Int))=.ok (.int (ts.getD (k%x5 xs most) 0)):=N1 (by rw[V6 (by lia),aBy,aAD,aAn,aAg hk];rfl)
     have ixn:yY (ts.map D.int).length ((k%x5 xs most:Nat):Int)=some (k%x5 xs most):=by unfold yY;rw[if_pos (by lia),if_pos (by rw[aAk];lia),aBy]
     refine⟨[.v (.lst xs),.v (.int most),.v (.int (x5 xs most:Int)),.o ((ts.set (k%x5 xs most)<|ts.getD (k%x5 xs most) 0+i).map D.int),.v (.int (k:Int)),.v (.int i)],?_,k+1,ys,_,_,_,rfl,rfl,e3,by simpa using e4,λx hx=>e5 x (.tail _ hx)⟩;clear e3;rw[aAk]at ixn;generalize k%x5 xs most=j at*
     generalize ts.getD j 0=tj at*
     simp[N7,fG,O9,kZ,mk,ix,VP,ixn]
   ·rintro ρ ⟨k,ys,ts,a,b,e1,rfl,e3,e4,e5⟩;match ys,e1,e3 with
    |[],_,e3=>
     have e3:ts=yG xs most:=e3;subst e3;have l3:(yG xs most).length<=sizeLine:=by rw[aAk]at l2;exact l2
     simp[RM,L8,l3,cf]
  ·exact absurd h (by simp)
def bV (K1:v5 P w K mg base 1 "_law_way" 2 n4)(M8:v5 P w K mg base 1 "_law_cross" 2 v6)(o8:v5 P w K mg base 1 "_law_product" 2 j4)(g:cR K mg "_law_solid" L5):v5 P w K mg base 2 "_law_solid" 1 dM:=by
 refine' n6 (k:=1) (F:=_) g qL (λhr hu eh nd=>?b) λds d hl h=>?_
 case b=>
  refine' (c5 (aS 1 ["one"] ["points"] [0] nd rfl (A0 (sc:=c7 L5) (N:=bS)) (t5<|c6 0) (vT λ_ _ _ _ _=>(T1 K1 hr (f6 (b8 1) d5)<|c6 0))<|λ_=>l6)
   (c5 (D6 aAR rfl (t5<|c6 1) (l8 2 nd) (c9 (D6 aAR rfl (t5<|c6 1) (l8 3 nd) (c5 (i9 4 (T1 M8 hr (c6 2)<|c6 3) nd)
   (c9<|w5 (EM.pt<|mF (j9 (lJ hu) (b8 4)<|PD.pb<|DM d5 d5 d5)<|iZ<|j9 (lJ hu) (PD.pb<|B0 ["w"] ["crossed"] [4] rfl (A0 (sc:=c7 L5) (N:=bS)) (t5<|c6 1) (kq λ_ _ _ _ _=>⟨(j9 (lJ hu) (PD.pb<|T1 o8 hr (c6 1)<|c6 0) t7),(c6 0)⟩)<|λ_=>l6)<|PD.pb<|oD u9) (c9<|j1<|c6 0) m9)))))
   (c5 (uX (f6 (b8 0) d5)<|iG (n:=3) rfl<|z9 (l8 5 nd)<|z9 (l8 6 nd)<|z9 (l8 7 nd) dF)
   (c9<|j1<|b9 l7 (b8 0)<|PD.pb<|oD<|j2 (DM (b9 l7 (b8 5) t7) (c6 6)<|c6 7)<|j2 (DM (c6 5) (b9 l7 (b8 6) t7)<|c6 7)<|j2 (DM (c6 5) (c6 6)<|b9 l7 (b8 7) t7) u9))))
 match ds,h with
 |[.lst xs],h=>
  simp only[dM]at h;split at h
  ·rename_i pts e1;rw[p5 e1];split at h
   ·rename_i hz;rw[<-h];obtain⟨af,hs,hl⟩:=hz;match pts,af with
    |P::ps,_=>
    have yes:=PZ (P:=P) (ps:=ps);have no:=XU (P:=P) (ps:=ps);obtain⟨pts,hpts⟩:∃q,P::ps=q:=⟨_,rfl⟩;have i0:L3 (.lst (pts.map vd)) (.int 0)=.ok (vd P):=N1 (by rw[V6 (by decide),<-hpts];rfl);rw[hpts]at yes no hs hl⊢;have c1:u4 (λd ρ=>R.ok (aCG ρ 0<|Sl.v d)) (λx=>R.ok true) (λρ=>(((pK 1 ρ).bind λx=>L3 x (D.int 0)).bind λd=>((Q4 0 ρ).bind λd=>R.ok [d]).bind λds=>R.ok (d::ds)).bind n4) [.no,.v (.lst (pts.map vd))] (pts.map vd)=.ok ((pts.map (· -P)).map vd):=by rw[aBi];refine K6 vd _ _ λq hq=>⟨[.v (vd q),Sl.v (.lst (pts.map vd))],rfl,?_⟩;show((L3 (.lst (pts.map vd))<|.int 0).bind _).bind _=_;rw[i0];rfl
    have hw:∀w∈pts.map (· -P),Sz 301 w:=λw hw=>by obtain⟨q,hq,rfl⟩:=aAo.mp hw;exact(hs q hq).sub (hs P (by rw[<-hpts];exact .head _))
    have bf:pts.length<=sizeLine:=aAr hl (by decide);have oo:(pts.map (· -P)).length<=sizeLine:=by rw[aAk];exact bf
    generalize pts.map (· -P)=W at*
    have c2:∀u∈W,∀v∈W,u4 (λd ρ=>R.ok (aCG ρ 0<|Sl.v d)) (λρ=>((((Q4 1 ρ).bind λd=>((Q4 0 ρ).bind λd=>R.ok [d]).bind λds=>R.ok (d::ds)).bind j4).bind λx=>HD x (D.int 0)).bind vO) (Q4 0) [.no,.v (vd<|G.cr u v)] (W.map vd)=.ok ((W.filter λw=>decide (G.c8 (G.cr u v) w≠0)).map vd):=λu hu v hv=>by refine G4 vd _ _ _ λw hW=>⟨[.v (vd w),Sl.v (vd<|G.cr u v)],rfl,?_,λ_=>rfl⟩;show((j4 [vd (G.cr u v),vd w]).bind _).bind _=_;rw[bP ((hw u hu).cr (hw v hv)).mono (hw w hW).mono,R.aa0,JM];show R.ok _=_;congr 1;rw[aCQ];simp
    simp[j5,f9,bf,c1,L8];refine PC (x:=.lst (pts.map vd)) vd (YN W) (λρ=>∃a b c,ρ=[.v (.lst (pts.map vd)),.v (.lst (W.map vd)),a,b,c,.no,.no,.no]) ⟨_,_,_,rfl⟩ ?_ ?_ ?_
    ·rintro u hu ρ ⟨a,b,c,rfl⟩;simp[L8];refine nE vd (XF W u) (λρ=>∃b c,ρ=[.v (.lst (pts.map vd)),.v (.lst (W.map vd)),.v (vd u),b,c,.no,.no,.no]) ?_ W _ ⟨_,_,rfl⟩ ?_
     ·rintro ρ ⟨b,c,rfl⟩;exact⟨_,_,_,rfl⟩
     ·rintro v hv ρ ⟨b,c,rfl⟩;have cc:=Z9 (hw u hu).mono (hw v hv).mono;have c3:=c2 u hu v hv;have c4:((W.filter λw=>decide (G.c8 (G.cr u v) w≠0)).map vd)=((W.filter λw=>decide (G.c8 (G.cr u v) w≠0)).map vd):=rfl;have ex:(!(W.filter λw=>decide (G.c8 (G.cr u v) w≠0)).isEmpty)=true↔∃w∈W,G.c8 (G.cr u v) w≠0:=by rw[Bool.not_eq_true',<-Bool.not_eq_true,List.isEmpty_iff,List.filter_eq_nil_iff];simp
      have nn:=OU (W.filter λw=>decide (G.c8 (G.cr u v) w≠0));unfold XF;rw[<-ex];clear ex c4;generalize(W.filter λw=>decide (G.c8 (G.cr u v) w≠0))=L at*
      generalize G.cr u v=X at*
      have n0:=oq X;by_cases hX:X=0
      ·refine .inr ⟨λz=>z.1 hX,[.v (.lst (pts.map vd)),.v (.lst (W.map vd)),.v (vd u),.v (vd v),.v (vd X),.no,.no,.no],?_,_,_,rfl⟩;simp only[hX,decide_true,aCW]at n0;simp[-jI,cc,hX,n0,vO]
      ·simp only[hX,decide_false,Bool.not_false]at n0;cases hL:L.isEmpty with
       |true=>rw[hL]at nn;refine .inr ⟨λz=>by simp at z,[.v (.lst (pts.map vd)),.v (.lst (W.map vd)),.v (vd u),.v (vd v),.v (vd X),.no,.no,.no],?_,_,_,rfl⟩;simp[-jI,cc,n0,vO,L8,oo,c3,nn,seen]
       |false=>rw[hL]at nn;refine .inl ⟨⟨hX,rfl⟩,?_⟩;simp[-jI,cc,n0,vO,L8,oo,c3,nn,seen]
    ·intro q;rw[yes q]
    ·rintro q ρ ⟨a,b,c,rfl⟩;rw[no q];have al:(pts.map vd).length+3<=sizeLine:=by rw[aAk];exact aAr (Nat.add_le_add_right hl 3) (by decide)
     rw[aAk]at al;have s3:3<=sizeLine:=by decide
     simp[i0,HZ,fG,O9,kZ,aF,xJ,kF,s3,al]
   ·exact absurd h (by simp)
  ·exact absurd h (by simp)
def Y8 (g:cR K mg "_law_slants" Q0):v5 P w K mg base 1 "_law_slants" 1 U1:=by
 refine' n6 (k:=0) (F:=_) g pG (λhr hu eh nd=>?b) λds d hl h=>?_
 case b=>
  refine' (c5 (i9 1 (oD<|j2 (b9 t6 (PD.pb<|b9 u8 (PD.pb<|b9 p7 (b8 0) t7) t7) t7)<|j2 (b9 t6 (PD.pb<|b9 u8 (PD.pb<|b9 p7 (b8 0) t7) t7) t7)<|j2 (b9 t6 (PD.pb<|b9 u8 (PD.pb<|b9 p7 (b8 0) t7) t7) t7) u9) nd)
   (c5 (w5 (j9 (N6 hu) (PD.pb<|b9 u8 (b8 0) t7) t7) (c9<|aS 1 ["number"] [] [] nd rfl (A0 (sc:=c7 Q0) (N:=fK)) (t5<|c6 1) (vT λ_ _ _ _ _=>(b9 k5 (b8 0) t7))<|λ_=>l6) m9)
   (c5 (i9 2 (b9 t6 (PD.pb<|b9 u8 (PD.pb<|b9 k5 (PD.pb<|b9 p7 (b8 0) t7) t7)<|PD.pb<|b9 l7 (PD.pb<|b9 k5 t7<|PD.pb<|b9 bK t7 t7) t7)<|PD.pb<|b9 bK t7 t7) nd)
   (c9<|j1<|b9 l7 (b8 1)<|PD.pb<|oD<|j2 (c6 2)<|j2 (b9 t6 t7<|PD.pb<|b9 p7 (b8 2) t7)<|j2 (b9 u8 (PD.pb<|b9 p7 (b8 0) t7) t7)<|j2 (b9 u8 (PD.pb<|b9 p7 (b8 0) t7) t7) u9))))
 match ds,h with
 |[.int t],h=>
  simp only[U1]at h;split at h
  ·rename_i hc;rw[<-h];have p20:BR (.int 10) (.int 20)=.ok (.int 100000000000000000000):=(oR ⟨by decide,by decide,by decide⟩).trans (by rfl);have k20:J3 (.int 2) (.int 100000000000000000000)=.ok (.int 200000000000000000000):=(f8 (k8.of (show bits 2<=80 by decide) (show bits 100000000000000000000<=80 by decide))).trans (by rfl);have mw:∀{x w:Int},0<w->M9 (.int x) (.int w)=.ok (.int (x.fmod w)):=λhw=>I0 hw;have dv:∀{x w:Int},0<w->bits w<=80->M6 (.int x) (.int w)=.ok (.int (x.fdiv w)):=λw0 wb=>T8 ⟨by lia,n9 wb⟩;have d3:M6 (.int t) (.int 3)=.ok (.int (t.fdiv 3)):=dv (by decide) (by decide);have d21:M6 (.int t) (.int 21)=.ok (.int (t.fdiv 21)):=dv (by decide) (by decide);have d147:M6 (.int t) (.int 147)=.ok (.int (t.fdiv 147)):=dv (by decide) (by decide);have d9:M6 (.int t) (.int 9)=.ok (.int (t.fdiv 9)):=dv (by decide) (by decide);have dn:M6 (.int t) (.int 1029)=.ok (.int (t.fdiv 1029)):=dv (by decide) (by decide);have df:M6 (.int (xY t)) (.int 7)=.ok (.int ((xY t).fdiv 7)):=dv (by decide) (by decide);have bn:bits (t.fdiv 1029)<=3000000:=bits_fdiv hc;have mb:J3 (.int (t.fdiv 1029)) (.int 271828182845904523536)=.ok (.int (t.fdiv 1029*271828182845904523536)):=f8 (k8.of bn (show bits 271828182845904523536<=80 by decide));have m7:∀x:Int,M9 (.int x) (.int 7)=.ok (.int (x.fmod 7)):=λx=>mw (by decide);have m3:∀x:Int,M9 (.int x) (.int 3)=.ok (.int (x.fmod 3)):=λx=>mw (by decide);have m50:∀x:Int,M9 (.int x) (.int 50)=.ok (.int (x.fmod 50)):=λx=>mw (by decide);have m2:∀x:Int,M9 (.int x) (.int 2)=.ok (.int (x.fmod 2)):=λx=>mw (by decide);have mf:∀x:Int,M9 (.int x) (.int 200000000000000000001)=.ok (.int (x.fmod 200000000000000000001)):=λx=>mw (by decide);have ef:(t.fdiv 1029*271828182845904523536).fmod 200000000000000000001-100000000000000000000=xY t:=rfl;have es:∀k:Int,(t.fdiv k).fmod 7-3=s7 t k:=λk=>rfl;have sm:∀k:Int,J3 (.int (s7 t k)) (.int 7654321)=.ok (.int (s7 t k*7654321)):=λk=>by exact f8 (k8.of (bits_sub (n:=80) (bits_fmod (by decide) (by decide)) (by decide)) (show bits 7654321<=80 by decide))
   by_cases h2:t.fmod 3=2
   ·simp[j5,p20,k20,d3,d21,d147,d9,dn,df,mb,m7,m3,m50,m2,mf,ef,es,sm,h2,UK,OK,sizeLine,xJ,kF,f9]
   ·simp[j5,p20,k20,d3,d21,d147,d9,dn,df,mb,m7,m3,m50,m2,mf,ef,es,sm,h2,UK,OK,sizeLine,xJ,kF,f9]
  ·exact absurd h (by simp)
def V3 (g:cR K mg "_law_slanted" W4):v5 P w K mg base 1 "_law_slanted" 2 K4:=by
 refine' n6 (k:=0) (F:=_) g lV (λhr hu eh nd=>?b) λds d hl h=>?_
 case b=>
  refine' (c5 (uX (c6 0)<|iG (n:=3) rfl<|z9 (l8 2 nd)<|z9 (l8 3 nd)<|z9 (l8 4 nd) dF)
   (c5 (i9 2 (b9 l7 (b8 2)<|PD.pb<|b9 k5 (PD.pb<|f6 (b8 1) d5)<|b8 3) nd)
   (c5 (i9 3 (b9 l7 (b8 3)<|PD.pb<|b9 k5 (PD.pb<|f6 (b8 1) d5)<|b8 4) nd)
   (c5 (i9 4 (b9 l7 (b8 4)<|PD.pb<|b9 k5 (PD.pb<|f6 (b8 1) d5)<|b8 2) nd)
   (c5 (w5 (j9 (N6 hu) (PD.pb<|f6 (b8 1) d5) t7) (c9<|OD 2 3 rfl nd<|j2 (c6 3)<|j2 (c6 2) u9) m9)
   (c9<|j1<|DM (b9 l7 (b8 2)<|PD.pb<|f6 (b8 1) d5) (b9 l7 (b8 3)<|PD.pb<|f6 (b8 1) d5)<|b9 l7 (b8 4)<|PD.pb<|f6 (b8 1) d5))))))
 match ds,h with
 |[p,.lst xs],h=>
  simp only[K4]at h;split at h
  ·rename_i P l e1 e2;rw[jG e1,nG e2];split at h
   ·rename_i hz;rw[<-h];obtain⟨⟨hl7,hb⟩,hP⟩:=hz;match l,hl7,hb with
    |[a,b,c,f,g',e,s],_,hb=>
     obtain⟨x,y,z⟩:=P;obtain⟨hx,hy,hz⟩:=hP;have ha:bits a<=100:=hb a (by simp);have jb:bits b<=100:=hb b (by simp);have hc:bits c<=100:=hb c (by simp);have m1:J3 (.int a) (.int y)=.ok (.int (a*y)):=f8 (k8.of ha hy);have m2:J3 (.int b) (.int z)=.ok (.int (b*z)):=f8 (k8.of jb hz);have m3:J3 (.int c) (.int (x+a*y))=.ok (.int (c*(x+a*y))):=f8 (k8.of hc<|bits_add (n9 (n:=600) hx)<|bits_mul ha hy);have i0:L3 (.lst [.int a,.int b,.int c,.int f,.int g',.int e,.int s]) (.int 0)=.ok (.int a):=N1 rfl;have i1:L3 (.lst [.int a,.int b,.int c,.int f,.int g',.int e,.int s]) (.int 1)=.ok (.int b):=N1 rfl;have i2:L3 (.lst [.int a,.int b,.int c,.int f,.int g',.int e,.int s]) (.int 2)=.ok (.int c):=N1 rfl;have i3:L3 (.lst [.int a,.int b,.int c,.int f,.int g',.int e,.int s]) (.int 3)=.ok (.int f):=N1 rfl;have i4:L3 (.lst [.int a,.int b,.int c,.int f,.int g',.int e,.int s]) (.int 4)=.ok (.int g'):=N1 rfl;have i5:L3 (.lst [.int a,.int b,.int c,.int f,.int g',.int e,.int s]) (.int 5)=.ok (.int e):=N1 rfl;have i6:L3 (.lst [.int a,.int b,.int c,.int f,.int g',.int e,.int s]) (.int 6)=.ok (.int s):=N1 rfl;by_cases hs:s=1
     ·subst hs;simp[j5,vd,OK,m1,m2,m3,i0,i1,i2,i3,i4,i5,i6,xM,G.Sl.put,aF,sizeLine,HZ,fG,O9,kZ]
     ·simp[j5,vd,OK,m1,m2,m3,i0,i1,i2,i3,i4,i5,i6,xM,G.Sl.put,aF,sizeLine,HZ,fG,O9,kZ,hs]
   ·exact absurd h (by simp)
  ·exact absurd h (by simp)
def cV (bV:v5 P w K mg base 2 "_law_solid" 1 dM)(Z5:v5 P w K mg base 2 "_law_points" 2 fB)(C1:v5 P w K mg base 1 "_law_cell" 2 X5)(V3:v5 P w K mg base 1 "_law_slanted" 2 K4)(Y8:v5 P w K mg base 1 "_law_slants" 1 U1)(g:cR K mg "_law_land" X6):v5 P w K mg base 3 "_law_land" 2 mN:=by
 refine' n6 (k:=2) (F:=_) g sZ (λhr hu eh nd=>?b) λds d hl h=>?_
 case b=>
  refine' (c5 (i9 2 (IN bV hr<|T1 Z5 hr (c6 0)<|c6 1) nd)
   (c5 (i9 3 (b9 p7 (PD.pb<|T1 C1 hr (c6 0) d5) t7) nd)
   (c5 (w5 (j9 (N6 hu) (PD.pb<|b9 u8 (b8 3) t7) t7) (c9<|j1<|c6 2) m9)
   (c9<|j1<|B0 ["point"] ["cell"] [3] rfl (A0 (sc:=c7 X6) (N:=lA)) (t5<|c6 2) (vT λ_ _ _ _ _=>(T1 V3 hr (c6 0)<|IN Y8 hr<|c6 1))<|λ_=>l6))))
 match ds,h with
 |[.lst xs,.int most],h=>
  simp only[mN]at h;split at h
  ·rename_i hc;rw[<-h];obtain⟨hi,hl,h0,h1⟩:=hc;obtain⟨c1,b1⟩:=FA hi 1 (by decide) (by decide);obtain⟨p1,p2,p3⟩:=JN hi h0 h1;have ne:gE xs most≠[]:=λz=>by rw[z]at p2;simp at p2
   have z0:=zK hi hl h0 h1;have z1:=GN ne (λp hp=>(p1 p hp).mono) (by lia);have f5:M6 (.int (cJ xs 1)) (.int 5)=.ok (.int ((cJ xs 1).fdiv 5)):=kO (by decide) (by decide);have m3:M9 (.int ((cJ xs 1).fdiv 5)) (.int 3)=.ok (.int (((cJ xs 1).fdiv 5).fmod 3)):=I0 (by decide);have s1:=AJ (c:=(cJ xs 1).fdiv 5) (bits_fdiv<|n9 b1);have so:=KB ((cJ xs 1).fdiv 5);obtain⟨q1,q2⟩:=OB p1;have ql:(fD<|gE xs most).length<=sizeLine:=aAr (show(fD<|gE xs most).length<=40 by lia) (by decide);unfold lN;generalize(cJ xs 1).fdiv 5=C at*
   generalize fD (gE xs most)=S at*
   by_cases hz:C.fmod 3=0
   ·simp-implicitDefEqProofs [j5,c1,z0,z1,f5,m3,hz]
   ·have cm:u4 (λd ρ=>R.ok (aCG ρ 0<|Sl.v d)) (λx=>R.ok true) (λρ=>((Q4 0 ρ).bind λd=>((((Q4 1 ρ).bind λd=>R.ok [d]).bind U1).bind λd=>R.ok [d]).bind λds=>R.ok (d::ds)).bind K4) [.no,.v (.int C)] (S.map vd)=.ok ((S.map (xM<|UK C).put).map vd):=by rw[aBi];refine K6 vd _ _ λq hq=>⟨[.v (vd q),Sl.v (.int C)],rfl,?_⟩;have:=yL (P:=q) so ((q1 q hq).mono);simp only[cC,gS,R.aa0,s1,this];rfl
    simp-implicitDefEqProofs [j5,c1,z0,z1,f5,m3,hz,L8,ql,f9,cm]
  ·exact absurd h (by simp)
def S7 (o8:v5 P w K mg base 1 "_law_product" 2 j4)(qt:mg "abs"=none)(dh:mg "tuple"=none)(g:cR K mg "_law_plane" S4):v5 P w K mg base 2 "_law_plane" 2 gK:=by
 refine' n6 (k:=1) (F:=_) g pU (λhr hu eh nd=>?b) λds d hl h=>?_
 case b=>
  refine' (c5 (i9 2 d5 nd)
   (c5 (D6 aAR rfl (mO<|c6 0) (l8 3 nd) (c5 (i9 4 (yZ LK<|b8 3) nd)
   (c9<|eS (VD 4) aAR (j9 kW (b8 4) t7)<|c9<|uX (GH (c6 4)<|b9 u8 (b8 2)<|b8 4)<|iG (n:=2) rfl<|z9 (l8 2 nd)<|z9 (l8 4 nd) dF)))
   (c5 (i9 0 (D2 V2<|j3 (PD.pb<|B0 ["number"] ["one"] [2] rfl (A0 (sc:=c7 S4) (N:=jA)) (mO<|c6 0) (vT λ_ _ _ _ _=>(b9 p7 (b8 0)<|b8 1))<|λ_=>l6) l9) nd)
   (c9<|j1<|b9 l7 (b8 0)<|PD.pb<|uH<|j2 (T1 o8 hr (c6 0)<|c6 1) u9))))
 replace h:=C7 h;obtain⟨a,b,c,ds,rfl,h⟩:=h;replace h:=C7 h;obtain⟨d,e,f,ds,rfl,h⟩:=h;replace h:=G9 h;obtain⟨rfl,h⟩:=h;split at h
 ·rename_i hz;obtain⟨af,hC,hP⟩:=hz;rw[<-h];obtain⟨C,eC⟩:∃P:G.V,P=⟨a,b,c⟩:=⟨_,rfl⟩;obtain⟨P',eP⟩:∃P:G.V,P=⟨d,e,f⟩:=⟨_,rfl⟩;rw[<-eC]at af hC;rw[<-eP]at hP;have vC:(.tup [.int a,.int b,.int c]:D)=vd C:=by rw[eC]
  have vP:(.tup [.int d,.int e,.int f]:D)=vd P':=by rw[eP]
  rw[vC,vP,<-eC,<-eP];obtain⟨g0,g1,g2⟩:=G.fA af;have gne:((G.q9 C:Nat):Int)≠0:=by lia
  have gb:qX ((G.q9 C:Nat):Int):=⟨gne,n9 (rB hC)⟩;simp only[j5,aAy,aFB,aBq,aEA];simp only[cC,NM,R.aa0,sS,A1,aAx,aBU,aGj,aGk,aEC,aED,aBG,aBH];refine cK (λrest ρ=>∃(g:Nat) (n r:Sl),ρ=[.v (vd C),.v (vd P'),.v (.int g),n,r]/\∃ns:List Int,rest=ns.map D.int/\ns.foldl (λg n=>aFY g n.natAbs) g=G.q9 C) ?_ ⟨0,_,_,rfl,[C.x,C.y,C.z],rfl,by simp[G.q9]⟩ ?_
  ·rintro d ds ρ ⟨g,n,r,rfl,ns,e1,e2⟩;match ns,e1,e2 with
   |x::ns,e1,e2=>
    injection e1 with e3 e4;subst e3 e4;simp only[W7,aBG,aBH,nQ,uM,oG,EA,R.aa0,KW,A1];have ea:(if x<0 then-x else x)=(x.natAbs:Int):=by split<;>lia
    rw[ea];refine nN (λm ρ=>∃(p q:Nat),ρ=[.v (vd C),.v (vd P'),.v (.int p),.v (.int x),.v (.int q)]/\q<m/\aFY p q=aFY g x.natAbs) ?_ (by rintro ρ ⟨p,q,_,h,_⟩;lia) ⟨g,x.natAbs,rfl,by show x.natAbs<((x.natAbs:Int).natAbs)+2;lia,rfl⟩ ?_
    ·rintro m ρ ⟨p,q,rfl,hq,hg⟩;by_cases h0:(q:Int)=0
     ·exact .inl (by simp[h0])
     ·have h1:q≠0:=by lia
      refine .inr ⟨by simp;lia,_,?_,q,p%q,rfl,?_,?_⟩
      ·have em:M9 (.int (p:Int)) (.int (q:Int))=.ok (.int ((p%q:Nat):Int)):=by rw[oB h0,aDv _ (by lia)];rfl
       simp[em,HZ,fG,O9,kZ,aF,sizeLine]
      ·have:=aDJ p (show 0<q by lia)
       lia
      ·rw[aFI,<-Nat.gcd_rec,aFI];exact hg
    ·rintro m ρ ⟨p,q,rfl,hq,hg⟩ hc;have h0:q=0:=by
      by_cases z:q=0
      ·exact z
      ·simp at hc;lia
     subst h0;refine⟨p,_,_,rfl,ns,rfl,?_⟩;rw[<-e2,aDm,<-hg,Nat.gcd_zero_right]
  ·rintro ρ ⟨g,n,r,rfl,ns,e1,e2⟩;have:ns=[]:=by simpa using e1.symm
   subst this;have e2:g=G.q9 C:=e2;subst e2;have sn:Sz 2003 (G.cE C<|G.q9 C):=by have f1:=bits_fdiv (b:=(G.q9 C:Int)) hC.1;have f2:=bits_fdiv (b:=(G.q9 C:Int)) hC.2.1;have f3:=bits_fdiv (b:=(G.q9 C:Int)) hC.2.2;rw[dI g0]at f1 f2 f3;exact⟨f1,f2,f3⟩
   have d1:∀t:Int,M6 (.int t) (.int (G.q9 C:Nat))=.ok (.int (t/(G.q9 C:Nat))):=λt=>by rw[T8 gb,dI g0]
   have p2:=bP (u:=G.cE C (G.q9 C)) (v:=P') sn.mono hP.mono;have p2':j4 [.tup [.int (C.x/(G.q9 C:Nat)),.int (C.y/(G.q9 C:Nat)),.int (C.z/(G.q9 C:Nat))],vd P']=_:=p2;have s4:4<=sizeLine:=by decide
   have s3:3<=sizeLine:=by decide
   have s1:1<=sizeLine:=by decide
   simp[d1,f9,p2',kL,aF,kF,s4,s3,s1,Z8,SW,G.cE]
 ·cases h
def X9 (M8:v5 P w K mg base 1 "_law_cross" 2 v6)(K1:v5 P w K mg base 1 "_law_way" 2 n4)(o8:v5 P w K mg base 1 "_law_product" 2 j4)(S7:v5 P w K mg base 2 "_law_plane" 2 gK)(bu:mg "sorted"=none)(kr:mg "set"=none)(bp:mg "range"=none)(cb:mg "len"=none)(qu:mg "min"=none)(ku:mg "max"=none)(dh:mg "tuple"=none)(g:cR K mg "_law_planes" J1):v5 P w K mg base 8 "_law_planes" 1 aE:=by
 refine' n6 (k:=7) (F:=_) g pF (λhr hu eh nd=>?b) λds d hl h=>?_
 case b=>
  have ye:=hr.ad8 (by decide);refine' (c5 (i9 1 (PF.pd<|bH (b8 0) rfl ye) nd)
   (c5 (xH 2 nd)
   (c5 (D6 aAR rfl (B7<|j3 (PD.pb<|yZ P6<|b8 1) l9) (l8 3 nd) (c9 (D6 aAR rfl (B7<|j3 (PD.pb<|b9 l7 (b8 3) t7)<|j3 (PD.pb<|yZ P6<|b8 1) l9) (l8 4 nd) (c9 (D6 aAR rfl (B7<|j3 (PD.pb<|b9 l7 (b8 4) t7)<|j3 (PD.pb<|yZ P6<|b8 1) l9) (l8 5 nd) (c5 (i9 6 (T1 M8 hr (T1 K1 hr (f6 (b8 1)<|c6 3)<|f6 (b8 1)<|c6 4)<|T1 K1 hr (f6 (b8 1)<|c6 3)<|f6 (b8 1)<|c6 5) nd)
   (c5 (aS 7 ["one"] ["crossed", "some", "i"] [6,1,3] nd rfl (A0 (sc:=c7 J1) (N:=Z1)) (t5<|c6 1) (vT λ_ _ _ _ _=>(T1 o8 hr (c6 1)<|T1 K1 hr (f6 (b8 2)<|c6 3)<|c6 0))<|λ_=>l6)
   (c5 (w5 (EM.pt<|mF (j9 (N6 hu) (PD.pb<|E9 (iV rfl)<|j3 (b8 7) l9) t7)<|iZ<|j9 yS (PD.pb<|E9 (FG rfl)<|j3 (b8 7) l9) t7) (c9<|fU 2 xT (T1 S7 hr (c6 6)<|f6 (b8 1)<|c6 3) eh) m9)
   (c9<|w5 (EM.pt<|mF (j9 (N6 hu) (PD.pb<|E9 (FG rfl)<|j3 (b8 7) l9) t7)<|iZ<|j9 kW (PD.pb<|E9 (iV rfl)<|j3 (b8 7) l9) t7) (c9<|fU 2 xT (T1 S7 hr (D2 V2<|j3 (PD.pb<|B0 ["number"] [] [] rfl (A0 (sc:=c7 J1) (N:=Z1)) (mO<|c6 6) (vT λ_ _ _ _ _=>(b9 t6 t7<|b8 0))<|λ_=>l6) l9)<|f6 (b8 1)<|c6 3) eh) m9)))))))))
   (c9<|j1<|PF.pd<|AN 2 rfl ye))))
 match ds,h with
 |[.lst xs],h=>
  simp only[aE]at h;split at h
  ·rename_i pts e1;rw[p5 e1];split at h
   ·rename_i hz;rw[<-h];obtain⟨h1,h2,h3⟩:=hz;have SS:=KD (pts:=pts) (by lia);obtain⟨m,r,e,L⟩:=X7 h1 h2 (by lia);rw[<-e]at L;have hsS:=L.good.solid;have hoS:=L.good.ord;have sz:∀X∈d8 pts,Sz 900 X:=λX hX=>h1.1 X (x6.mp hX);have PS:=λkvs=>qN (kvs:=kvs) h1 h2 h3;clear L e;generalize d8 pts=S at*
    have hS1:S.length<=sizeLine:=aAr h3 (by decide);have r1:=bj (n:=S.length) (by lia);have r2:∀i:Nat,i<S.length->dZ [.int ((i:Int)+1),.int (S.length:Int)]=.ok (cG (i+1)<|S.length-(i+1)):=λi hi=>ZV (a:=i+1) (b:=S.length) (by lia) (by lia);simp-implicitDefEqProofs [j5,SS,r1];refine PX (pv1 (.lst (pts.map vd)) S) ?_ ⟨[],_,_,_,_,_,rfl,⟨.nil,λx hx=>by cases hx⟩,λi' j' k' _ _ l=>by lia⟩ ?_
    ·rintro i _ hi ρ ⟨kvs,a3,a4,a5,a6,a7,rfl,K,Dn⟩;have hi:i<S.length:=by lia
     obtain⟨A,eA⟩:∃A,S[i]?=some A:=⟨S[i],aAg hi⟩;have hA:=aAl eA;simp-implicitDefEqProofs [r2 i hi];refine LJ (pv2 (.lst (pts.map vd)) S i) ?_ ⟨kvs,_,_,_,_,rfl,K,Dn.j0⟩ ?_
     ·rintro j _ hj ρ ⟨kvs,a4,a5,a6,a7,rfl,K,Dn⟩;have hj:j<S.length:=by lia
      obtain⟨B,eB⟩:∃A,S[j]?=some A:=⟨S[j],aAg hj⟩;have hB:=aAl eB;simp-implicitDefEqProofs [r2 j hj];refine LJ (pv3 (.lst (pts.map vd)) S i j) ?_ ⟨kvs,_,_,_,rfl,K,Dn.k0⟩ ?_
      ·rintro k _ hk ρ ⟨kvs,a5,a6,a7,rfl,K,Dn⟩;have hk:k<S.length:=by lia
       obtain⟨C,eC⟩:∃A,S[k]?=some A:=⟨S[k],aAg hk⟩;have hC:=aAl eC;obtain⟨K2,sub,cu,cd⟩:=WM hA hB hC K;refine⟨[.v (.lst (pts.map vd)),.v (.lst (S.map vd)),.d (QE S kvs A B C),.v (.int (i:Int)),.v (.int (j:Int)),.v (.int (k:Int)),.v (vd<|G.cr (B-A)<|C-A),.v (.lst ((aQ S (G.cr (B-A)<|C-A) A).map D.int))],?_,_,_,_,_,rfl,K2,Dn.step sub λA' B' C' x1 x2 x3=>by rw[eA]at x1;rw[eB]at x2;rw[eC]at x3;cases x1;cases x2;cases x3;exact⟨cu,cd⟩⟩
       have few:=K.few hsS hoS h3;have few1:=(OE hA hB hC K).1.few hsS hoS h3;have iA:=zV eA;have iB:=zV eB;have iC:=zV eC;have zB:=(sz B hB).sub (sz A hA);have zC:=(sz C hC).sub (sz A hA);have cc:=Z9 zB.mono zC.mono;have sc:Sz 2003 (G.cr (B-A)<|C-A):=(zB.cr zC).mono;have up:G.Up S A B C↔_:=(DA hA).1;have dn:G.Dn S A B C↔_:=(DA hA).2;have nt:=KL A B C;have pu:=λz=>qU (c:=G.cr (B-A) (C-A)) z sc (sz A hA).mono;rw[iK]at pu;have pd:=λz=>qU (c:=G.cr (C-A) (B-A)) z ((zC.cr zB).mono) (sz A hA).mono;rw[iK,<-nt]at pd;obtain⟨mx,mn⟩:=QL (S:=S) (c:=G.cr (B-A) (C-A)) (A:=A) (λz=>by rw[z]at hA;cases hA);have cne:∀{c X:G.V},G.c8 c X≠0->c≠0:=λ{c X} q z=>q (by rw[z];simp[G.c8]);have dd:=λ(f:G.V×Int) (r:Ev)=>DO (f:=f) (v:=.bl true) (a:=Sl.v (.lst (pts.map vd))) (b:=Sl.v (.lst (S.map vd))) (r:=r) few;have dd1:=λ(f:G.V×Int) (r:Ev)=>DO (f:=f) (v:=.bl true) (a:=Sl.v (.lst (pts.map vd))) (b:=Sl.v (.lst (S.map vd))) (r:=r) few1;have vh:G.Up S A B C->G.cr (B-A) (C-A)≠0:=λ⟨_,X,_,l⟩=>cne (X:=X-A) (by lia);have hd0:G.Dn S A B C->(⟨0-(G.cr (B-A)<|C-A).x,0-(G.cr (B-A)<|C-A).y,0-(G.cr (B-A)<|C-A).z⟩:G.V)≠0:=λv=>by rw[nt];obtain⟨_,X,_,l⟩:=G.DU.mp v;exact cne (X:=X-A) (by lia)
       have e1:G.Up S A B C->MY S kvs A B C=W9 kvs (Z8<|G.d4 A B C) (.bl true):=λu=>if_pos u;have e2:¬G.Up S A B C->MY S kvs A B C=kvs:=λu=>if_neg u;have f1:G.Dn S A B C->QE S kvs A B C=W9 (MY S kvs A B C) (Z8<|G.d4 A C B) (.bl true):=λu=>if_pos u;have f2:¬G.Dn S A B C->QE S kvs A B C=MY S kvs A B C:=λu=>if_neg u;have pq:=λq hq=>bP sc.mono ((sz q hq).sub (sz A hA)).mono;clear cu cd sub Dn K2 nt few few1 cne K zB zC sc sz;generalize aN (aQ S (G.cr (B-A)<|C-A) A)=M at*
       generalize qK (aQ S (G.cr (B-A)<|C-A) A)=mm at*
       obtain⟨W,eW⟩:∃W,(aQ S (G.cr (B-A)<|C-A) A).map D.int=W:=⟨_,rfl⟩;rw[eW]at mx mn⊢;unfold aQ at eW;generalize G.cr (B-A) (C-A)=c at*
       generalize QE S kvs A B C=k2 at*
       generalize MY S kvs A B C=k1 at*
       simp only[W7,aBG,aBH];refine IR (ρ:=[.v (.lst (pts.map vd)),.v (.lst (S.map vd)),.d kvs,.v (.int (i:Int)),.v (.int (j:Int)),.v (.int (k:Int)),.v (vd c),a7]) (by simp[iA,iB,iC,cc]) ?_;refine IR (ρ:=[.v (.lst (pts.map vd)),.v (.lst (S.map vd)),.d kvs,.v (.int (i:Int)),.v (.int (j:Int)),.v (.int (k:Int)),.v (vd c),.v (.lst W)]) ?_ ?_
       ·simp-implicitDefEqProofs [f9,hS1];rw[oI vd D.int (λX=>G.c8 c (X-A)) S ?h,eW]
        case h=>intro q hq;refine⟨[.v (vd q),.v (vd c),.v (.lst (S.map vd)),.v (.int (i:Int))],rfl,?_⟩;simp only[gS,cC,oG,EA,R.aa0,iA,ON];exact pq q hq
        rfl
       clear iB iC cc pq eW;refine IR (ρ:=[.v (.lst (pts.map vd)),.v (.lst (S.map vd)),.d k1,.v (.int (i:Int)),.v (.int (j:Int)),.v (.int (k:Int)),.v (vd c),.v (.lst W)]) ?_ ?_
       ·by_cases u:G.Up S A B C
        ·rw[e1 u];simp[mx,mn,up.mp u,iA,pu (vh u),dd]
        ·rw[e2 u];by_cases q1:M=0
         ·have q2:¬mm<0:=λz=>u (up.mpr ⟨q1,z⟩);simp[mx,mn,q1,q2]
         ·simp[mx,q1]
       ·clear e1 e2 pu vh up dd;by_cases v:G.Dn S A B C
        ·rw[f1 v];have pd:=pd (hd0 v);simp only[Int.zero_sub]at pd;have pd:gK [D.tup [D.int (-c.x),D.int (-c.y),D.int (-c.z)],vd A]=_:=pd;have s3:3<=sizeLine:=by decide
         have t3:∀a b c:D,kL [.lst [a,b,c]]=.ok (.tup [a,b,c]):=λ_ _ _=>rfl;simp[mx,mn,dn.mp v,iA,f9,s3,t3,pd,dd1]
        ·rw[f2 v];by_cases q1:mm=0
         ·have q2:¬0<M:=λz=>v (dn.mpr ⟨q1,z⟩);simp[mx,mn,q1,q2]
         ·simp[mn,q1]
      ·rintro ρ ⟨kvs,a5,a6,a7,rfl,K,Dn⟩;rw[show j+1+(S.length-(j+1))=S.length by lia]at Dn;exact⟨kvs,_,_,_,_,rfl,K,Dn.j⟩
     ·rintro ρ ⟨kvs,a4,a5,a6,a7,rfl,K,Dn⟩;rw[show i+1+(S.length-(i+1))=S.length by lia]at Dn;exact⟨kvs,_,_,_,_,_,rfl,K,Dn.i⟩
    ·rintro ρ ⟨kvs,a3,a4,a5,a6,a7,rfl,K,Dn⟩;rw[aEd]at Dn;have few:=K.few hsS hoS h3;have ps:=PS kvs K Dn;have pt:(kvs.map (·.1)).all X8=true:=aBC.mpr λd hd=>by obtain⟨f,rfl,_⟩:=K.2 d hd;rfl
     have sd:uw 2 [.v (.lst (pts.map vd)),.v (.lst (S.map vd)),.d kvs,a3,a4,a5,a6,a7]=.ok (Q9<|N9 kvs):=if_pos ⟨pt,few⟩;rw[sd,ps];rfl
   ·exact absurd h (by simp)
  ·exact absurd h (by simp)
def kC (o8:v5 P w K mg base 1 "_law_product" 2 j4)(g:cR K mg "_law_on" kS):v5 P w K mg base 2 "_law_on" 2 rF:=by
 refine' n6 (k:=1) (F:=_) g BV (λhr hu eh nd=>?b) λds d hl h=>?_
 case b=>refine' (c9<|j1<|vD (N6 hu) (PD.pb<|T1 o8 hr (c6 0)<|c6 1)<|PD.pb<|f6 (b8 0) d5)
 replace h:=MW h;obtain⟨a,b,c,e,ds,rfl,h⟩:=h;replace h:=C7 h;obtain⟨x,y,z,ds,rfl,h⟩:=h;replace h:=G9 h;obtain⟨rfl,h⟩:=h;split at h
 ·rename_i hz;rw[<-h];have pp:j4 [.tup [.int a,.int b,.int c,.int e],.tup [.int x,.int y,.int z]]=_:=wX (f:=(⟨a,b,c⟩,e)) hz.1 hz.2;generalize G.c8 _ _=q at*
  have i3:L3 (.tup [.int a,.int b,.int c,.int e]) (.int 3)=.ok (.int e):=rfl;simp-implicitDefEqProofs [j5,pp,i3];rfl
 ·cases h
def V5 (kC:v5 P w K mg base 2 "_law_on" 2 rF)(cb:mg "len"=none)(bu:mg "sorted"=none)(kr:mg "set"=none)(g:cR K mg "_law_corners" L6):v5 P w K mg base 8 "_law_corners" 2 U7:=by
 refine' n6 (k:=7) (F:=_) g lR (λhr hu eh nd=>?b) λds d hl h=>?_
 case b=>have ye:=hr.ad8 (by decide);refine' (c9<|j1<|B0 ["one"] ["planes"] [1] rfl (A0 (sc:=c7 L6) (N:=dW)) (t5<|PF.pd<|bH (b8 0) rfl ye) (kq λ_ _ _ _ _=>⟨(j9 kW (PD.pb<|yZ P6<|PD.pb<|B0 ["plane"] ["one"] [0] rfl QV (t5<|c6 1) (kq λ_ _ _ _ _=>⟨(mI<|T1 kC hr (c6 0)<|c6 1),(c6 0)⟩)<|λ_=>l6) t7),(c6 0)⟩)<|λ_=>l6)
 match ds,h with
 |[.lst xs,.lst ys],h=>
  simp only[U7]at h;split at h
  ·rename_i pts e1;rw[p5 e1];split at h
   ·rename_i hz;rw[<-h];obtain⟨rfl,h1,h2,h3⟩:=hz;have SS:=KD (pts:=pts) (by lia);have CB:=vJ h1 h2 h3;obtain⟨hf,af,hfl⟩:=kK h1 h2 h3;have sz:∀X∈d8 pts,Sz 900 X:=λX hX=>h1.1 X (x6.mp hX);have szf:∀f∈k7 (d8 pts),Sz 2003 f.1:=λf hF=>uY h1 ((hf f).mp hF);have og:(d8 pts).length<=sizeLine:=aAr h3 (by decide);have ki:(k7<|d8 pts).length<=sizeLine:=aAr hfl (by decide);rw[<-CB];clear CB hf;generalize k7 (d8 pts)=fs at*
    generalize d8 pts=S at*
    have c1:∀X∈S,u4 (λd ρ=>R.ok (aCG ρ 0<|Sl.v d)) (λρ=>(((Q4 0 ρ).bind λd=>((Q4 1 ρ).bind λd=>R.ok [d]).bind λds=>R.ok (d::ds)).bind rF).bind vO) (Q4 0) [.no,.v (vd X)] (fs.map Z8)=.ok ((QA fs X).map Z8):=λX hX=>G4 Z8 (λf=>decide (G.c8 f.1 X=f.2)) Z8 fs λf hF=>⟨[.v (Z8 f),.v (vd X)],rfl,by have:=XC (szf f hF) (sz X hX).mono;show(rF [Z8 f,vd X]).bind vO=_;rw[this];rfl,λ_=>rfl⟩
    have c2:u4 (λd ρ=>R.ok (aCG ρ 0<|Sl.v d)) (λρ=>((((((Q4 1 ρ).bind L8).bind λds=>if ds.length<=sizeLine then(u4 (λd ρ=>R.ok (aCG ρ 0<|Sl.v d)) (λρ=>(((Q4 0 ρ).bind λd=>((Q4 1 ρ).bind λd=>R.ok [d]).bind λds=>R.ok (d::ds)).bind rF).bind vO) (Q4 0) (f9 [aCw "plane"] [0] ρ) ds).bind λds=>R.ok (D.lst ds)else R.bad).bind λd=>R.ok [d]).bind LO).bind λx=>WI x (D.int 2)).bind vO) (Q4 0) [.no,.v (.lst (aCu Z8 fs))] (S.map vd)=.ok ((S.filter λX=>decide (2<(QA fs X).length)).map vd):=G4 vd (λX=>decide (2<(QA fs X).length)) vd S λX hX=>⟨[.v (vd X),Sl.v (D.lst<|aCu Z8 fs)],rfl,by
     have:=c1 X hX;have gt:(decide ((2:Int)<((QA fs X).length:Int)))=decide (2<(QA fs X).length):=by rw[aCQ];simp;lia
     simp-implicitDefEqProofs [f9,ki,this];try lia,λ_=>rfl⟩
    simp-implicitDefEqProofs [j5,SS,og];rw[show f9 [aCw "one"] [1] [.v (.lst (aCu vd pts)),.v (.lst (aCu Z8 fs))]=[.no,.v (.lst (aCu Z8 fs))]from rfl,c2];rfl
   ·exact absurd h (by simp)
  ·exact absurd h (by simp)
def bW (cb:mg "len"=none)(bp:mg "range"=none)(dh:mg "tuple"=none)(g:cR K mg "_law_drawn" A6):v5 P w K mg base 1 "_law_drawn" 2 aR:=by
 refine' n6 (k:=0) (F:=_) g pN (λhr hu eh nd=>?b) λds d hl h=>?_
 case b=>
  refine' (c5 (i9 2 (f6 (b8 1)<|b9 u8 (PD.pb<|b9 p7 (b8 0) t7)<|PD.pb<|yZ P6<|b8 1) nd)
   (c5 (i9 3 (f6 (b8 1)<|b9 u8 (PD.pb<|b9 p7 (b8 0) t7)<|PD.pb<|yZ P6<|b8 1) nd)
   (c5 (i9 4 (f6 (b8 1)<|b9 u8 (PD.pb<|b9 p7 (b8 0) t7)<|PD.pb<|yZ P6<|b8 1) nd)
   (c5 (i9 5 (b9 u8 (b8 0) t7) nd)
   (c5 (w5 (j9 (N6 hu) (b8 5) t7) (c9<|j1<|c6 2) m9)
   (c5 (i9 6 (B0 ["k"] ["one", "two"] [2,3] rfl (A0 (sc:=c7 A6) (N:=G7)) (B7<|j3 t7 l9) (vT λ_ _ _ _ _=>(b9 p7 (PD.pb<|b9 l7 (PD.pb<|f6 (b8 1)<|c6 0)<|PD.pb<|f6 (b8 2)<|c6 0) t7))<|λ_=>l6) nd)
   (c5 (w5 (j9 (N6 hu) (b8 5) t7) (c9<|j1<|D2 V2<|j3 (b8 6) l9) m9)
   (c5 (w5 (j9 (N6 hu) (b8 5) t7) (c9<|j1<|D2 V2<|j3 (PD.pb<|B0 ["k"] ["three", "one", "two"] [4,2,3] rfl (A0 (sc:=c7 A6) (N:=G7)) (B7<|j3 t7 l9) (vT λ_ _ _ _ _=>(b9 p7 (PD.pb<|b9 l7 (PD.pb<|b9 l7 (PD.pb<|f6 (b8 2)<|c6 0)<|PD.pb<|f6 (b8 3)<|c6 0)<|PD.pb<|f6 (b8 1)<|c6 0) t7))<|λ_=>l6) l9) m9)
   (c5 (w5 (j9 (N6 hu) (b8 5) t7) (c9<|i9 6 (B0 ["k"] ["one", "three", "two"] [2,4,3] rfl (A0 (sc:=c7 A6) (N:=G7)) (B7<|j3 t7 l9) (vT λ_ _ _ _ _=>(b9 p7 (PD.pb<|b9 l7 (PD.pb<|b9 l7 (PD.pb<|f6 (b8 1)<|c6 0)<|PD.pb<|b9 k5 t7<|PD.pb<|f6 (b8 3)<|c6 0)<|PD.pb<|b9 k5 t7<|PD.pb<|f6 (b8 2)<|c6 0) t7))<|λ_=>l6) nd) m9)
   (c5 (w5 (j9 (N6 hu) (b8 5) t7) (c9<|j1<|D2 V2<|j3 (PD.pb<|B0 ["k"] ["point", "cell"] [6,0] rfl (A0 (sc:=c7 A6) (N:=G7)) (B7<|j3 t7 l9) (vT λ_ _ _ _ _=>(b9 l7 (PD.pb<|f6 (b8 1)<|c6 0)<|PD.pb<|b9 t6 (PD.pb<|b9 u8 (PD.pb<|b9 k5 (PD.pb<|b9 p7 (b8 2) t7)<|PD.pb<|b9 l7 (b8 0) t7)<|PD.pb<|b9 l7 (PD.pb<|b9 k5 t7<|PD.pb<|b9 bK t7 t7) t7)<|PD.pb<|b9 bK t7 t7))<|λ_=>l6) l9) m9)
   (c9<|j1<|D2 V2<|j3 (PD.pb<|B0 ["k"] ["point", "cell"] [6,0] rfl (A0 (sc:=c7 A6) (N:=G7)) (B7<|j3 t7 l9) (vT λ_ _ _ _ _=>(b9 t6 (PD.pb<|b9 l7 (PD.pb<|f6 (b8 1)<|c6 0)<|PD.pb<|b9 u8 (PD.pb<|b9 p7 (b8 2)<|PD.pb<|b9 k5 t7<|PD.pb<|b9 l7 (b8 0) t7) t7) t7))<|λ_=>l6) l9)))))))))))
 match ds,h with
 |[.int c,.lst xs],h=>
  simp only[aR]at h;split at h
  ·rename_i cs e1;rw[p5 e1];split at h
   ·rename_i hz;rw[<-h];obtain⟨hc,af,hs,hl⟩:=hz;have ix:=ZK af;have l0:(0:Int)<cs.length:=by
     have:cs.length≠0:=λz=>af (aCZ z)
     lia
    have sa:∀k,Sz 400 (vS cs k):=λk=>hs _ (uO af k).1;have mc:∀x:Int,M9 (.int x) (.int (cs.length:Int))=.ok (.int (x.fmod cs.length)):=λx=>I0 l0;have m6:∀x:Int,M9 (.int x) (.int 6)=.ok (.int (x.fmod 6)):=λx=>I0 (by decide);have m3:∀x:Int,M9 (.int x) (.int 3)=.ok (.int (x.fmod 3)):=λx=>I0 (by decide);have mf:∀x:Int,M9 (.int x) (.int 2000000000000000000000000000001)=.ok (.int (x.fmod 2000000000000000000000000000001)):=λx=>I0 (by decide);have dv:∀{x w:Int},0<w->w<1000000000000000->M6 (.int x) (.int w)=.ok (.int (x.fdiv w)):=λw0 w1=>kO w0 w1;have p30:BR (.int 10) (.int 30)=.ok (.int 1000000000000000000000000000000):=(oR ⟨by decide,by decide,by decide⟩).trans (by rfl);have k30:J3 (.int 2) (.int 1000000000000000000000000000000)=.ok (.int 2000000000000000000000000000000):=(f8 (k8.of (show bits 2<=80 by decide) (show bits 1000000000000000000000000000000<=200 by decide))).trans (by rfl);have r6:=aY (a:=c) (b:=6) (by decide);have s3:3<=sizeLine:=by decide
    have kv:∀v:G.V,L3 (vd v) (.int 0)=.ok (.int v.x)/\L3 (vd v) (.int 1)=.ok (.int v.y)/\L3 (vd v) (.int 2)=.ok (.int v.z):=λv=>⟨rfl,rfl,rfl⟩;have kl:∀a b d:D,L3 (.lst [a,b,d]) (.int 0)=.ok a/\L3 (.lst [a,b,d]) (.int 1)=.ok b/\L3 (.lst [a,b,d]) (.int 2)=.ok d:=λa b d=>⟨rfl,rfl,rfl⟩;have tl:∀a b d:D,kL [.lst [a,b,d]]=.ok (.tup [a,b,d]):=λa b d=>rfl;have m7:∀{x:Int},bits x<=400->J3 (.int 7) (.int x)=.ok (.int (7*x)):=λh=>f8 (k8.of (show bits 7<=80 by decide) h);have m8:∀{x:Int},bits x<=400->J3 (.int 8) (.int x)=.ok (.int (8*x)):=λh=>f8 (k8.of (show bits 8<=80 by decide) h);have bc:bits (c.fdiv 9000)<=3000000:=bits_fdiv hc;have mk:∀k:Int,bits k<=80->J3 (.int (c.fdiv 9000)) (.int k)=.ok (.int (c.fdiv 9000*k)):=λk h=>f8 (k8.of bc h);have mk5:=mk 5 (by decide);have mk6:=mk 6 (by decide);have mk7:=mk 7 (by decide);have n1:J3 (.int 9000) (.int 1)=.ok (.int 9000):=(f8 (k8.of (show bits 9000<=80 by decide) (show bits 1<=80 by decide))).trans (by rfl);have n2:J3 (.int 9000) (.int 2)=.ok (.int 18000):=(f8 (k8.of (show bits 9000<=80 by decide) (show bits 2<=80 by decide))).trans (by rfl);have n3:J3 (.int 9000) (.int 3)=.ok (.int 27000):=(f8 (k8.of (show bits 9000<=80 by decide) (show bits 3<=80 by decide))).trans (by rfl);have t1:=sa (c.fdiv 6);have t2:=sa (c.fdiv 70);have t3:=sa (c.fdiv 800);have i1:=ix (c.fdiv 6);have i2:=ix (c.fdiv 70);have i3:=ix (c.fdiv 800);have eV:UJ c cs=UJ c cs:=rfl
    conv at eV=>rhs;unfold UJ RT sG lw lq
    rw[eV];clear eV sa ix;generalize vS cs (c.fdiv 6)=A at*
    generalize vS cs (c.fdiv 70)=B at*
    generalize vS cs (c.fdiv 800)=C at*
    simp only[j5,aAy,aFB,aBq,aEA,aAx,aBU,aGj,aGk,aEC,aED];refine J0 (by simp[dv,mc,i1];rfl) ?_;refine J0 (by simp[dv,mc,i2];rfl) ?_;refine J0 (by simp[dv,mc,i3];rfl) ?_;refine J0 (by simp[m6];rfl) ?_;generalize ew:c.fmod 6=w at*
    clear m6 mc i1 i2 i3;by_cases w0:w=0
    ·rw[if_pos w0];exact gQ (by simp[w0])
    rw[if_neg w0];refine J0 (by simp[w0];rfl) ?_;refine J0 (by simp[f9,kv,s3,dv];rfl) ?_;by_cases w1:w=1
    ·rw[if_pos w1];exact gQ (by simp[w1,tl])
    rw[if_neg w1];refine J0 (by simp[w1];rfl) ?_;by_cases w2:w=2
    ·rw[if_pos w2];exact gQ (by simp[w2,f9,kv,s3,dv,tl])
    rw[if_neg w2];refine J0 (by simp[w2];rfl) ?_;refine J0 (ρ:=[.v (.int c),.v (.lst (cs.map vd)),.v (vd A),.v (vd B),.v (vd C),.v (.int w),.v (.lst [.int (WU w A B C).x,.int (WU w A B C).y,.int (WU w A B C).z])]) (by
     unfold WU;by_cases w3:w=3
     ·simp[w3,f9,kv,s3,dv,m7 t2.1,m7 t2.2.1,m7 t2.2.2,m8 t3.1,m8 t3.2.1,m8 t3.2.2,lq]
     ·simp[w3,lw]) ?_
    generalize WU w A B C=Q at*
    by_cases w4:w=4
    ·rw[if_pos w4];exact gQ (by simp[w4,f9,kl,s3,dv,tl,mf,p30,k30,mk5,mk6,mk7])
    rw[if_neg w4];refine J0 (by simp[w4];rfl) ?_;simp[f9,kl,s3,dv,tl,m3,n1,n2,n3]
   ·exact absurd h (by simp)
  ·exact absurd h (by simp)
section
seal PySem.eval
def o_law {f:Addr}{fd:FuncData}(cV:v5 P w K mg base 3 "_law_land" 2 mN)(X9:v5 P w K mg base 8 "_law_planes" 1 aE)(V5:v5 P w K mg base 8 "_law_corners" 2 U7)(bW:v5 P w K mg base 1 "_law_drawn" 2 aR)(C1:v5 P w K mg base 1 "_law_cell" 2 X5)(o8:v5 P w K mg base 1 "_law_product" 2 j4)(fV:v5 P w K mg base 10 "where_in" 2 iH)(bp:mg "range"=none)(ku:mg "max"=none)(cb:mg "len"=none)(b_int:mg "int"=none)(jc:mg "list"=none)(iu:mg "isinstance"=none)(xc:mg "bool"=none)(F0:Fun K "law" "law" dD f fd):FnOk P w K mg base vM 11 f fd ["script"] (YR K 1 gZ):=by
 refine' fnD (k:=10) (F:=_) F0 JF (λcdv A outer s H E hr=>?b) λds d hl h=>?_
 case b=>
  have hu:=hr.units;have eh:=hr.ae7;have nd:=JF.nd;refine' (c5 (aS 1 ["x", "y", "z"] [] [] nd rfl (A0 (sc:=c7 dD) (N:=JL)) (t5<|T1 cV hr (c6 0) d5) (by rintro pins fp X2 ⟨s0,H1,C,rfl⟩;exact⟨(iG (n:=3) rfl (z9 (l8 0 (show(["x", "y", "z"]:List Str).Nodup by decide+kernel)) (z9 (l8 1 (show(["x", "y", "z"]:List Str).Nodup by decide+kernel)) (z9 (l8 2 (show(["x", "y", "z"]:List Str).Nodup by decide+kernel)) dF)))),DF,(DM (b9 k5 t7<|b8 0) (b9 k5 t7<|b8 1)<|b9 k5 t7<|b8 2)⟩)<|λ_=>zD)
   (c5 (i9 2 (IN X9 hr<|c6 1) nd)
   (c5 (i9 3 (T1 V5 hr (c6 1)<|c6 2) nd)
   (c5 (D6 aAR rfl (B7<|j3 (PD.pb<|E9 (DI rfl)<|j3 t7<|j3 (PD.pb<|b9 t6 (PD.pb<|yZ P6<|b8 0) t7) l9)<|j3 (PD.pb<|E9 (DI rfl)<|j3 t7<|j3 (PD.pb<|yZ P6<|b8 0) l9) l9) (l8 4 nd) (c5 (i9 5 (T1 bW hr (T1 C1 hr (c6 0)<|c6 4)<|c6 3) nd)
   (c5 (aS 6 ["plane"] ["point"] [5] nd rfl (A0 (sc:=c7 dD) (N:=JL)) (t5<|c6 2) (vT λ_ _ _ _ _=>(b9 t6 (PD.pb<|T1 o8 hr (c6 0)<|c6 1)<|PD.pb<|f6 (b8 0) d5))<|λ_=>l6)
   (c5 (i9 7 (b9 t6 (PD.pb<|D2 JT<|j3 (PD.pb<|vD yS (PD.pb<|E9 (iV rfl)<|j3 (b8 6) l9) t7) l9)<|PD.pb<|D2 JT<|j3 (PD.pb<|vD kW (PD.pb<|E9 (iV rfl)<|j3 (b8 6) l9) t7) l9) nd)
   (c5 (i9 8 (D2 PV<|j3 (b8 3) l9) nd)
   (c5 (i9 9 (T1 fV hr (c6 8)<|c6 5) nd)
   (c9<|w5 (EM.pt<|uQ (TD<|mI<|NB SU<|b8 9)<|uQ (mI<|NB JG<|b8 9)<|uQ (j9 (lJ hu) (b8 9)<|b8 7)<|EH<|j9 (lJ hu) (b8 8)<|b8 3) (c9<|j1 xT) m9)))))))
   (c9<|j1 xT)))))
 match ds,h with
 |[.lst xs],h=>
  simp only[gZ]at h;split at h
  ·rename_i hc;rw[<-h];obtain⟨hl,hi⟩:=hc;have LL:=NP hi hl (most:=7) (by decide) (by decide);obtain⟨a1,a2,a3⟩:=RN hi (most:=7) (by decide) (by decide);generalize lN xs 7=L at*
   have ll:L.length<=sizeLine:=aAr (show L.length<=10 by lia) (by decide);obtain⟨h1,h2,h3,h4⟩:=RW (t:=6) (by decide) (by decide) a2 a1 (by lia);have c400:∀p∈L.map (G.vV 6),Sz 400 p:=λp hp=>by obtain⟨q,hq,rfl⟩:=aAo.mp hp;exact QM (a2 q hq)
   obtain⟨pts,ep⟩:∃p,L.map (G.vV 6)=p:=⟨_,rfl⟩;rw[ep]at h1 h2 h3 h4 c400;have PL:=BG h1 h2 h3;have CO:=wM h1 h2 h3;have BS:∀p∈A2 pts,p∈pts:=λp hp=>wU h1 h2 h3 hp;obtain⟨b1,b2,b3,b4,b5,b6⟩:=sI h1 h2 h3;have cne:A2 pts≠[]:=λz=>by obtain⟨A,hA,_⟩:=b1;rw[z]at hA;cases hA
   obtain⟨hf,af,hfl⟩:=kK h1 h2 h3;have szf:∀f∈k7 (d8 pts),Sz 2003 f.1:=λf hF=>uY h1 ((hf f).mp hF);have WB:=λP hP=>BO h1 h2 h3 (P:=P) hP;have DW:=λP=>sJ hf af P;have ki:(k7<|d8 pts).length<=sizeLine:=aAr hfl (by decide);have sc:∀p∈A2 pts,Sz 400 p:=λp hp=>c400 p (BS p hp);have DR:=λc hc=>IC (c:=c) hc cne sc (by lia);have DS:=λc=>WS (c:=c) cne sc;have lb:(A2 pts).length<=sizeLine:=aAr b4 (by decide);have dsame:E6 (.lst ((A2 pts).map vd))<=40:=by have:=yE (A2 pts);rw[E6];lia
   clear h1 h2 h3 h4 a1 a3 b1 b2 b3 b4 b5 b6 hf hfl BS c400;generalize A2 pts=cs at*
   generalize d8 pts=S at*
   generalize k7 S=fs at*
   obtain⟨ds,er,hd⟩:=RU (a:=if 3<(xs.length:Int)then(xs.length:Int)-3 else 0) (b:=if 2<(xs.length:Int)then(xs.length:Int)else 2) (by split<;>lia) (by split<;>lia) (by split<;>lia) (by split<;>lia);simp-implicitDefEqProofs [j5,LL,f9,ll];rw[oI vd vd (G.vV 6) L ?h]
   case h=>
    intro q hq;have z:=a2 q hq;have m6:∀{x:Int},bits x<=300->J3 (.int 6) (.int x)=.ok (.int (6*x)):=λh=>f8 (k8.of (show bits 6<=80 by decide) h);have s3:3<=sizeLine:=by decide
    exact⟨[.v (.int q.x),.v (.int q.y),.v (.int q.z)],rfl,by simp[m6 z.1,m6 z.2.1,m6 z.2.2,aF,s3,G.vV]⟩
   rw[ep];simp-implicitDefEqProofs [PL,CO];rw[er,R.aa0];refine KM (tw (.lst xs) (.lst (pts.map vd)) (.lst (fs.map Z8))<|.lst (cs.map vd)) ?_ ⟨_,_,_,_,_,_,rfl⟩ (λ_ _=>rfl);rintro d ng ρ ⟨a4,a5,a6,a7,a8,a9,rfl⟩;obtain⟨k,rfl,k0,k1⟩:=hd d ng;obtain⟨ck,bk⟩:=FA hi k k0 k1;have dr:=DR (cJ xs k) (n9 bk);have dz:=DS (cJ xs k);generalize UJ (cJ xs k) cs=P' at*
   have wb:=WB P' dz;have dw:=DW P';have mx:lL [.lst ((fs.map λf=>G.c8 f.1 P'-f.2).map D.int)]=.ok (.int (aN<|fs.map λf=>G.c8 f.1 P'-f.2)):=by simp only[lL,cM];exact if_pos (by simpa using af)
   have ne1:=RH dsame;refine⟨[.v (.lst xs),.v (.lst (pts.map vd)),.v (.lst (fs.map Z8)),.v (.lst (cs.map vd)),.v (.int k),.v (vd P'),.v (.lst ((fs.map λf=>G.c8 f.1 P'-f.2).map D.int)),.v (.int (G.U4 S P')),.v (.lst (cs.map vd)),.v (.int (G.U4 S P'))],?_,_,_,_,_,_,_,rfl⟩;generalize aN (fs.map λf=>G.c8 f.1 P'-f.2)=M at*
   obtain⟨W,eW⟩:∃W,(fs.map λf=>G.c8 f.1 P'-f.2).map D.int=W:=⟨_,rfl⟩;rw[eW]at mx⊢;generalize G.U4 S P'=wh at*
   have ip:vI "int" (.int wh)=true:=rfl;have ib:vI "bool" (.int wh)=false:=rfl;clear WB DW DR DS LL PL CO;generalize cs.map vd=C0 at*
   generalize pts.map vd=P0 at*
   simp-implicitDefEqProofs [ck,dr,ki];rw[oI Z8 D.int (λf=>G.c8 f.1 P'-f.2) fs ?h]
   case h=>intro f hF;have:=wX (szf f hF) dz.mono;have i3:L3 (Z8 f) (.int 3)=.ok (.int f.2):=rfl;exact⟨[.v (Z8 f),.v (vd P')],rfl,by simp-implicitDefEqProofs [this,i3,HK]⟩
   rw[eW];rcases Int.lt_trichotomy M 0 with q|q|q
   ·rw[if_pos q,if_neg (by lia)]at dw;have q2:¬0<M:=by lia
    subst dw;simp-implicitDefEqProofs [mx,q,q2,wb,ip,ib,ne1,QW,EL]
   ·subst q;subst dw;simp-implicitDefEqProofs [mx,wb,ip,ib,ne1,QW,EL]
   ·rw[if_neg (by lia),if_pos q]at dw;have q2:¬M<0:=by lia
    subst dw;simp-implicitDefEqProofs [mx,q,q2,wb,ip,ib,ne1,QW,EL]
  ·exact absurd h (by simp)
end
end
end K22
section
namespace K22
open PySem L2 DL M
def truth (ns:List Int)(h1:ns.length<=63)(h2:∀x∈ns,aAT x<=1048576):gZ [.lst (ns.map D.int)]=.ok (.bl true):=by unfold gZ;exact if_pos ⟨by simpa using h1,SQ h2⟩
end K22
namespace K22
open PySem L2 DL M
variable [Tabs]
def all_mk {l:PySem.W.OpenLaw}{w:World}{K:PySem.W.Frag}{h:Heap}{mg:cF}{fa f34 Pt:Addr}(X:K.In h)(G:h.Ns mainGlobals mg)(hfa:mg "law"=some (.ref fa))
  (g0:Got K "way_between" Y4)
  (g1:Got K "cross_of" gB)
  (g2:Got K "product_of" bA)
  (g3:Got K "common_divisor" O8)
  (g4:Got K "plane_through" R6)
  (g5:Got K "side_of" kR)
  (g6:Got K "first_real_way" P4)
  (g7:Got K "dimension_of" B6)
  (g8:Got K "refuse_flat" Y7)
  (g9:Got K "points_on" X3)
  (g10:Got K "plane_about" Y0)
  (g11:Got K "first_pair" bY)
  (g12:Got K "turn_of" kE)
  (g13:Got K "left_chain" bQ)
  (g14:Got K "ring_of" kI)
  (g15:Got K "pairs_round" Z7)
  (g16:Got K "faces_from" cA)
  (g17:SN K "faces_of" K3 Pt)
  (g18:Got K "where_in" aT)
  (g19:Got K "_law_cell" cI)
  (g20:Got K "_law_way" gJ)
  (g21:Got K "_law_cross" bN)
  (g22:Got K "_law_product" W0)
  (g23:Got K "_law_point" bC)
  (g24:Got K "_law_points" J5)
  (g25:Got K "_law_solid" L5)
  (g26:Got K "_law_slants" Q0)
  (g27:Got K "_law_slanted" W4)
  (g28:Got K "_law_land" X6)
  (g29:Got K "_law_plane" S4)
  (g30:Got K "_law_planes" J1)
  (g31:Got K "_law_on" kS)
  (g32:Got K "_law_corners" L6)
  (g33:Got K "_law_drawn" A6)
  {od34 an34:Option Addr} {sl34:Array (Option Value)} {oc34 kV34 dc34 pm34 cd34 ct34:Value}
  (a34:PySem.W.nsIn K mainGlobals "law"=some (some (.ref f34))) (l34:K.lookup f34=some ⟨oc34,od34,.func (PySem.W.fnOf "law" "law" (D7 dD) (u5 dD) (c7 dD) .none kV34 dc34 pm34 an34 cd34 ct34),sl34⟩) (e34:PySem.W.codeIn K cd34 "law"=true) (k34:PySem.W.keepIn K (.ref f34)=true)
  (z_abs:PySem.W.nsIn K mainGlobals "abs"=some none)
  (z_len:PySem.W.nsIn K mainGlobals "len"=some none)
  (z_any:PySem.W.nsIn K mainGlobals "any"=some none)
  (z_min:PySem.W.nsIn K mainGlobals "min"=some none)
  (z_list:PySem.W.nsIn K mainGlobals "list"=some none)
  (z_reversed:PySem.W.nsIn K mainGlobals "reversed"=some none)
  (z_zip:PySem.W.nsIn K mainGlobals "zip"=some none)
  (z_sorted:PySem.W.nsIn K mainGlobals "sorted"=some none)
  (z_set:PySem.W.nsIn K mainGlobals "set"=some none)
  (z_max:PySem.W.nsIn K mainGlobals "max"=some none)
  (z_range:PySem.W.nsIn K mainGlobals "range"=some none)
  (z_tuple:PySem.W.nsIn K mainGlobals "tuple"=some none)
  (z_enumerate:PySem.W.nsIn K mainGlobals "enumerate"=some none)
  (z_int:PySem.W.nsIn K mainGlobals "int"=some none)
  (z_isinstance:PySem.W.nsIn K mainGlobals "isinstance"=some none)
  (z_bool:PySem.W.nsIn K mainGlobals "bool"=some none)
  {la:Addr} {dd_NO_WAY:Option Addr} {tk0_NO_WAY tk1_NO_WAY tk2_NO_WAY:Tok} {nn_NO_WAY:Nat} {ss_NO_WAY:Array (Option Value)}
  (ca_NO_WAY:PySem.W.nsIn K mainGlobals "NO_WAY"=some (some (.ref la))) (cl_NO_WAY:K.lookup la=some ⟨.type "tuple",dd_NO_WAY,.seq #[.int 0 tk0_NO_WAY,.int 0 tk1_NO_WAY,.int 0 tk2_NO_WAY] nn_NO_WAY,ss_NO_WAY⟩)
  (nt:(Pt,tbK)∈Tabs.tbs)
  (truth:∀ns:List Int,ns.length<=63->(∀x∈ns,aAT x<=1048576)->gZ [.lst (ns.map D.int)]=.ok (.bl true)):
  ∃fd:FuncData,(∀(s:Shared) (v:Value),BindsTo s fd ⟨[v],[]⟩ [("script",v)])/\∀base:Heap,K.In base->base.Ns mainGlobals mg->gO mg base->FnOk l.prog w K mg base vM 11 fa fd ["script"] (uL K):=by
 have e:=hfa.symm.trans (PySem.W.mg_of X G a34);cases e;have qt:=PySem.W.mg_none_of X G z_abs;have cb:=PySem.W.mg_none_of X G z_len;have b_any:=PySem.W.mg_none_of X G z_any;have qu:=PySem.W.mg_none_of X G z_min;have jc:=PySem.W.mg_none_of X G z_list;have jr:=PySem.W.mg_none_of X G z_reversed;have b_zip:=PySem.W.mg_none_of X G z_zip;have bu:=PySem.W.mg_none_of X G z_sorted;have kr:=PySem.W.mg_none_of X G z_set;have ku:=PySem.W.mg_none_of X G z_max;have bp:=PySem.W.mg_none_of X G z_range;have dh:=PySem.W.mg_none_of X G z_tuple;have je:=PySem.W.mg_none_of X G z_enumerate;have b_int:=PySem.W.mg_none_of X G z_int;have iu:=PySem.W.mg_none_of X G z_isinstance;have xc:=PySem.W.mg_none_of X G z_bool;have de:NG K mg "NO_WAY" [0,0,0]:=YD (PySem.W.mg_of X G ca_NO_WAY) cl_NO_WAY;refine⟨PySem.W.fnOf "law" "law" (D7 dD) (u5 dD) (c7 dD) .none kV34 dc34 pm34 an34 cd34 ct34,λs v=>.of_eq rfl,λbase _ _ hB=>?_⟩;have br:v5 l.prog w K mg base 1 "way_between" 2 n4:=p6 (g0.def X G);have fb:v5 l.prog w K mg base 1 "cross_of" 2 v6:=C4 (g1.def X G);have cg:v5 l.prog w K mg base 1 "product_of" 2 j4:=y7 (g2.def X G);have r_common_divisor:v5 l.prog w K mg base 1 "common_divisor" 1 B8:=P3 qt (g3.def X G);have r_plane_through:=R4 fb br r_common_divisor cg (g4.def X G);have lg:v5 l.prog w K mg base 1 "side_of" 2 G2:=aJ (g5.def X G);have r_first_real_way:v5 l.prog w K mg base 1 "first_real_way" 1 z8:=G5 de (g6.def X G);have gi:=F8 br r_first_real_way fb cg cb b_any (g7.def X G);have r_refuse_flat:=Z2 gi (g8.def X G);have jf:=F3 lg (g9.def X G);have gv:=J6 br cg fb r_plane_through de (g10.def X G);have r_first_pair:=aW jf gv gi qu (g11.def X G);have r_turn_of:=jY cg fb br (g12.def X G);have r_left_chain:=S6 r_turn_of cb (g13.def X G);have r_ring_of:=kM r_left_chain jc jr (g14.def X G);have r_pairs_round:v5 l.prog w K mg base 1 "pairs_round" 1 z6:=Y5 jc b_zip (g15.def X G);have r_faces_from:=bL gv r_ring_of r_pairs_round cb bu (g16.def X G);have r_faces_of:=fQ jf r_refuse_flat r_first_pair r_faces_from bu kr hB nt (g17.def X G);have r_where_in:=fV r_faces_of lg ku (g18.def X G);have gm:v5 l.prog w K mg base 1 "_law_cell" 2 X5:=C1 cb (g19.def X G);have jt:v5 l.prog w K mg base 1 "_law_way" 2 n4:=K1 (g20.def X G);have ja:v5 l.prog w K mg base 1 "_law_cross" 2 v6:=M8 (g21.def X G);have av:v5 l.prog w K mg base 1 "_law_product" 2 j4:=o8 (g22.def X G);have r__law_point:v5 l.prog w K mg base 1 "_law_point" 2 aI:=bO bp dh (g23.def X G);have r__law_points:=Z5 gm r__law_point bp je (g24.def X G);have r__law_solid:=bV jt ja av (g25.def X G);have r__law_slants:v5 l.prog w K mg base 1 "_law_slants" 1 U1:=Y8 (g26.def X G);have r__law_slanted:v5 l.prog w K mg base 1 "_law_slanted" 2 K4:=V3 (g27.def X G);have r__law_land:=cV r__law_solid r__law_points gm r__law_slanted r__law_slants (g28.def X G);have r__law_plane:=S7 av qt dh (g29.def X G);have r__law_planes:=X9 ja jt av r__law_plane bu kr bp cb qu ku dh (g30.def X G);have r__law_on:=kC av (g31.def X G);have r__law_corners:=V5 r__law_on cb bu kr (g32.def X G);have r__law_drawn:v5 l.prog w K mg base 1 "_law_drawn" 2 aR:=bW cb bp dh (g33.def X G);exact SK (o_law r__law_land r__law_planes r__law_corners r__law_drawn gm av r_where_in bp ku cb b_int jc iu xc<|LS (st:=dD) l34 e34 k34) truth
end K22
namespace PySem.W.Fast
def tw2690775006246339851:=0
def tw4483177790207319563:=0
def tw11303300149178603206:=0
def tw1964633296806395694:=0
def tw18357468656543404874:=0
def tw3377428414033437873:=0
def tw5303636003723464276:=0
def tw4285344418819336349:=0
def tw8672699025342708581:=0
def tw581416853320018139:=0
def tw14745914958628277425:=0
def tw9787761593686077711:=0
def tw12754129053184080201:=0
def tw15258011052252278442:=0
def tw15045796343553866295:=0
def tw12569026749855005535:=0
def tw15776557852553174614:=0
def tw328768469893490055:=0
def tw3915557764104072720:=0
def tw5117296444420541744:=0
def tw17416902865850289229:=0
def tw2722999014383252651:=0
def tw7227187796037309574:=0
def tw10016578239339455207:=0
def tw7605849048494642934:=0
def tw15609164849285637847:=0
def tw17552824271973901841:=0
def tw17116726621210507862:=0
def tw1823091009161288639:=0
def tw13509048484933100500:=0
def tw17789892429830233462:=0
def tw1441054634793167202:=0
def tw8749080171518794497:=0
def tw15944089506627020944:=0
def tw1698278850152232217:=0
def tw11916150629127056674:=0
def tw6364949739166491597:=0
def tw10875690353681719188:=0
def tw10567008742956992118:=0
def tw6452843775916757736:=0
def tw8594283292223967510:=0
def tw6307001593632378752:=0
def tw2705104924390542908:=0
def tw7021392015588258696:=0
def tw2497862464174971112:=0
def tw8646507359947601682:=0
def tw8730541419781142877:=0
def tw1772851343658136680:=0
def tw146923407141674639:=0
def tw2461519906442950988:=0
def tw310639435704271873:=0
def tw8633727230474593199:=0
def tw17866390591866937233:=0
def tw12520444374901907493:=0
def tw10716417883554402018:=0
def tw17800251794013252978:=0
def tw8450585790896873148:=0
def tw9752598615103407919:=0
def tw5777239221885836691:=0
def tw1385718165164567919:=0
def tw10541698571711090716:=0
def tw16703113426643438888:=0
def tw3536298712566611608:=0
def tw7649298505279453159:=0
def tw13378805548337160558:=0
def tw15401000029928296716:=0
def tw388856828391300227:=0
def tw886947133159621197:=0
def tw123226687425586298:=0
def tw11486518490119474349:=0
def tw18324012266892495071:=0
def tw9539233078056903766:=0
def tw10762724744581273064:=0
def tw10063390582724336091:=0
def tw14444685060984010189:=0
def tw2847768093606427408:=0
def tw6533517954707958948:=0
def tw11243380549308050639:=0
def tw5879638909628532199:=0
def tw4404963105957106267:=0
def tw283028757257777811:=0
def tw15096218671132443759:=0
def tw495257843684323853:=0
def tw11348645456901831895:=0
def tw12923659078557681115:=0
def tw14331438518879050289:=0
def tw12181729645268150658:=0
def tw13385199498547857550:=0
def tw15512681854447284485:=0
def tw10225606097098519132:=0
def tw13763325959459374855:=0
def tw15719088568854421122:=0
def tw11993920526742876030:=0
def tw442615629818045138:=0
def tw10871705610222258327:=0
def tw11478524475023010598:=0
def tw7730819741801942482:=0
def tw6848324570672503519:=0
def tw9361402785833927479:=0
def tw12483374031278893576:=0
def tw14898385013000811555:=0
def tw10094899184426422997:=0
def tw635522931078701674:=0
def tw1847800141437004927:=0
def tw12907421763690183286:=0
def tw17924001259065855301:=0
def tw9762711840996369432:=0
def tw6901532877990593535:=0
def tw7828260605360851256:=0
def tw567276988580447276:=0
def tw12730450016593778325:=0
def tw7465093888309285775:=0
def tw7031358715369784216:=0
def tw2099143385709851024:=0
def tw1514094712081060906:=0
def tw8451210367539920343:=0
def tw4236833518891126269:=0
def tw10549957896922171245:=0
def tw4423210114995143507:=0
def tw6133488079835207618:=0
def tw9033893282015731127:=0
def tw2889938857663408886:=0
def tw5359333741804297134:=0
def tw401352335166169551:=0
def tw13238678770490286803:=0
def tw9118623375449617524:=0
def tw16171757172343426971:=0
def tw10282213272835376545:=0
def tw2850983383976473890:=0
def tw9670585065742819045:=0
def tw6131863527465756830:=0
def tw468762967853873381:=0
def tw5745978585418102900:=0
def tw4022324192952534058:=0
def tw10060975298855979049:=0
def tw15697448082588099192:=0
def tw4153394427146448940:=0
def tw4758368098949555214:=0
def tw9388892289530231831:=0
def tw13267089321034935867:=0
def tw14589175679147472180:=0
def tw1512869142960186628:=0
def tw2593166107103125768:=0
def tw2685891406685802191:=0
def tw5748741603825274624:=0
def tw6022294284941414297:=0
def tw7033422390362937686:=0
def tw3622944485200333895:=0
def tw15612082476920021153:=0
def tw15461928757761855380:=0
def tw15986516280553056250:=0
def tw3757200887062323036:=0
def tw3083841690312813476:=0
def tw5672382905755679722:=0
def tw4818789136600574996:=0
def tw4183207090242156059:=0
def tw10354550227133253153:=0
def tw11590970719601561364:=0
def tw12141775328659851550:=0
def tw1246976169567319249:=0
end PySem.W.Fast
open PySem PySem.W PyProof.Rows
set_option maxRecDepth 100000 in
theorem PySem.Challenge.cw_stakebodies_k22_where_by_planes_holds : PySem.Challenge.rw_stakebodies_k22_where_by_planes.Holds := by
 w_on;o_law;k_head;(case hw=>w_witness2)
 k_fill
 letI tabs9:DL.Tabs:=⟨[(169,K22.tbK)]⟩
 refine DL.QS (l:=PySem.Challenge.rw_stakebodies_k22_where_by_planes) (k:=11) rfl rfl ⟨rfl,by decide,by decide⟩ (λw h Y=>⟨PySem.W.km_in_of Y,PySem.W.km_tabs_of Y⟩) (DL.OY (c:=173) (by k_mem) (λw=>by kernel_rfl)) (aAG.mpr ⟨aAE,aDb⟩) (λw=>by kernel_rfl) ?F
 case F=>
  intro w mg fa h KX G hmg;refine' K22.all_mk KX G hmg ?_ ?_ ?_ ?_ ?_ ?_ ?_ ?_ ?_ ?_ ?_ ?_ ?_ ?_ ?_ ?_ ?_ ?_ ?_ ?_ ?_ ?_ ?_ ?_ ?_ ?_ ?_ ?_ ?_ ?_ ?_ ?_ ?_ ?_ ?a34 ?l34 ?e34 ?k34 ?z_abs ?z_len ?z_any ?z_min ?z_list ?z_reversed ?z_zip ?z_sorted ?z_set ?z_max ?z_range ?z_tuple ?z_enumerate ?z_int ?z_isinstance ?z_bool ?ca_NO_WAY ?cl_NO_WAY (aBm.mpr rfl) K22.truth
  all_goals first|(refine' DL.YE ?a ?l ?c ?k;(case a=>k_is);(case l=>k_is);(case c=>k_is);(case k=>k_is))|(refine' DL.OW ?a ?l ?c ?k rfl ?n;(case a=>k_is);(case l=>k_is);(case c=>k_is);(case k=>k_is);(case n=>kernel_rfl))|k_is|skip
end
