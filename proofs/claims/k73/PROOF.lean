import PyProof.Rows.All
import Wide.All
import OpenK.AllK
import Wide.FinOn
import Lean
import PyProof.EqAt
import PyProof.EqKinds
import PyProof.TupleCall
import PyProof.NeKinds
import KE.RegKIsAll
import PyProof.ExcClass3
import PySem.SetTable
import PySem.Value
import PyProof.CollectIter
import PyProof.SetKind
import PyProof.Walks
import PyProof.ForAny
import PyProof.FactsAll.set_1
import PyProof.FactsAll.set_2
import PyProof.Rows.SortShellK
import PyProof.ZipIter
import KE.KRevIter
import PyProof.ListNew
import OpenK.KOwn
import PyProof.ConsumeS
import KE.KNestM
import PyProof.Rows.StrWeight2
import KE.KIsAll
import PySem.Challenge.RW_stakebodies_k73_no_moves_refused
set_option Elab.async false
set_option linter.all false
set_option backward.eqns.nonrecursive false
set_option maxRecDepth 100000
set_option maxHeartbeats 4000000
open PySem renaming wpAny_bind → aAa, wpAny_pure → aAb, wpAny_holding → aAO, wpAny_Call_Name_kw → aAP, wpAny_truthy_bool → aBe, wpAny_call_entry → aBm, wpAny_specialOf → aBn, codeAny_builtin → aBw, wpAny_newObj_type → aBA, wpAny_mono → aBG, wpAny_seqItems → aBH, plainId_quiet → aBQ, wpAny_setField_rec → aBR, wpAny_updateSeq → aBT, wpAny_setState_of → aCb, builtinLookup_eq_fast → aCk, wpAny_forIn_list → aCp, wpAny_callSpecial?_slot → aCt, wpAny_execs_cons → aCF, wpAny_field → aCL, wpAny_passesOwn → aCO, wpAny_pyIter_list → aCP, wpAny_nextOf_list_item → aDe, wpAny_callSpecialIfBoundUnlessNone?_slot → aDi, codeAny_mono → aDl, typeLookup_type → aDo, wpAny_isInstance → aDz, wpAny_typeOf → aDB, wpAny_comprehension_free → aDC, wpAny_rule → aDD, wpAny_execs_nil → aDE, wpAny_letGo → aDO, codeAny_call_builtin → aEe, wpAny_attempt → aEg, sizeLine_eq → aEj, wpAny_loadPart' → aEm, pushCells_keeps → aEo, wpAny_setEntries_of → aEq, slot_dict_contains → aEK, isSubtype_type → aEM, wpAny_tryCatch → aEN, wpAny_Assign_Name → aEP, wpAny_pyIter_slot → aEX, wpAny_loadPart_at → aEZ, wpAny_standAt → aFa, noFill_tuple_add → aFf, beq_builtin_none → aFh, wpAny_askSetting → aFi, concat_meets → aFq, wpAny_call → aFz, call_meets → aFA, wpAny_Expr_any → aFJ, wpAny_newTuple → aFM
open PySem.Heap renaming get?_push_of_some → aAc, lt_size → aAf, get?_push_size → aAn, get?_update_other → aAA, get?_update_self → aAY, size_push → aBq, get?_none_of_le → aEb
open List renaming mem_cons_of_mem → aAd, mem_cons → aAe, getElem?_eq_getElem → aAi, size_toArray → aAl, length_map → aAm, getD_eq_getElem?_getD → aAo, mem_map → aAp, mem_of_getElem? → aAs, map_cons → aAu, length_cons → aAv, not_mem_nil → aAw, getElem?_append_right → aAx, pairwise_cons → aAy, getElem?_eq_some_iff → aAz, length_append → aAD, mem_append_right → aAE, replicate → aAF, mem_append → aAH, mem_cons_self → aAK, nodup_cons → aAM, getElem?_map → aAN, reverse_cons → aAQ, getElem?_append_left → aAR, lookup_cons → aAV, getLast?_cons_cons → aBa, mem_singleton → aBb, getElem?_replicate → aBg, replicate_succ → aBh, getElem_of_mem → aBi, length_take → aBl, cons_append → aBo, getElem?_zip_eq_some → aBs, getElem?_set_self → aBt, append_nil → aBu, lookup_cons_self → aBv, map_map → aBx, all_eq_true → aBz, mem_append_left → aBB, dropLast_concat → aBD, mem_filterMap → aBE, mem_flatMap → aBJ, range → aBL, pairwise_map → aBM, zip_cons_cons → aBN, length_nil → aBO, map_append → aBU, getElem_mem → aBV, nodup_iff_pairwise_ne → aBW, filterMap_cons → aBZ, flatten_cons → aCa, mem_range → aCc, getElem?_eq_none_iff → aCd, pairwise_iff_getElem → aCf, length_replicate → aCi, getElem?_toArray → aCl, getElem?_set_ne → aCr, mem_of_mem_drop → aCs, nodup_nil → aCw, length_reverse → aCA, set_cons_succ → aCI, set_cons_zero → aCJ, mem_of_mem_take → aCN, forIn_cons → aCS, nodup_append → aCT, getElem?_cons_zero → aCX, map → aCY, length_drop → aDc, mem_reverse → aDd, filterMap_map → aDf, set → aDh, mem_filter → aDj, nil_append → aDm, mem_iff_getElem? → aDn, perm_ext_iff_of_nodup → aDs, drop_eq_getElem_cons → aDu, mem_map_of_mem → aDA, pairwise_singleton → aDG, sum_cons → aDL, length_pos_of_mem → aDM, append_assoc → aDN, forIn_nil → aDQ, map_nil → aDR, dropLast_eq_take → aDS, pairwise_reverse → aDU, any_eq_true → aDY, zipIdx_cons → aDZ, getElem_map → aEa, mem_of_getLast? → aEc, all_cons → aEf, map_take → aEh, of_mem_zip → aEk, foldl_cons → aEn, zipIdx_nil → aEs, replicate_zero → aEv, exists_cons_of_ne_nil → aEx, head?_reverse → aEF, getLast?_cons → aEG, length_erase_of_mem → aEV, ext_getElem? → aEW, eraseIdx_cons_succ → aFb, getElem?_cons_succ → aFc, map_reverse → aFk, range_succ_eq_map → aFm, take_of_length_le → aFn, take_append_drop → aFv, length_dropLast → aFD, mem_erase_of_ne → aFH, drop_zero → aFL, map_drop → aFX, foldl → aGa
open False renaming elim → aAg
open Nat renaming le_refl → aAh, ne_of_lt → aAk, lt_of_lt_of_le → aAq, le_trans → aAr, zero_le → aAX, lt_irrefl → aBc, lt_succ_of_lt → aBr, le_add_right → aCq, le_of_succ_le → aCy, lt_of_le_of_lt → aCH, le_of_lt → aCV, lt_or_eq_of_le → aDg, ne_of_gt → aDk, lt_succ_self → aDy, min_eq_left → aDJ, le_of_eq → aDT, le_of_not_lt → aDX, mul_le_mul → aEO, mod_lt → aEU, le_of_lt_succ → aEY, gcd_dvd_left → aFg, le_add_left → aFt, zero_add → aFu, not_lt_zero → aFx, reduceAdd → aFV, reduceSub → aFW, lt_trans → aGi, succ_pos → aGk
open Option.some renaming inj → aAj, injEq → aGb
open Bool renaming false_eq_true → aAt, and_eq_true → aAC, false_ne_true → aAL, eq_iff_iff → aCR, not_true → aDq, and_false → aFK
open Array renaming getElem?_toList → aAB, getElem?_eq_getElem → aAG, length_toList → aAW, getElem?_eq_some_iff → aBX, forIn_toList → aCo, getElem?_eq_none → aCC, replicate → aEp, perm_iff_toList_perm → aEy, getD → aET, toList → aFp, getElem_toList → aFI, toList_append → aFQ
open Int renaming mul_eq_zero → aAI, mul_le_mul_of_nonneg_right → aAS, mul_le_mul_of_nonneg_left → aAU, le_of_lt → aAZ, mul_pos → aBC, mul_neg_of_pos_of_neg → aCe, toNat_natCast → aCx, le_refl → aCM, eq_ofNat_of_zero_le → aDa, eq_of_mul_eq_mul_left → aDv, mul_nonneg → aDP, mul_ediv_cancel' → aEd, toNat → aEr, mul_lt_mul_of_pos_left → aEz, le_of_mul_le_mul_right → aEA, fmod_eq_emod_of_nonneg → aEB, natAbs_eq_zero → aEH, ofNat_dvd_left → aEI, mul_zero → aEL, neg_nonneg_of_nonpos → aES, ediv_nonneg → aFr, neg_mul_neg → aFs, gcd → aGf, mul_comm → aGl
open PySem.Builtin.Tuple renaming tupleHashOf → aAJ, tupleExact → aCQ, tupleItemsOf → aDr
open PySem.Builtin.Int renaming intBits → aAT
open PySem.Around renaming under_plainId → aBd, frames_deeper → aFB
open PyProof.Rows renaming callWith_type1 → aBf, wpS_bind → aBj, callWith_builtin1 → aBF, wpS_pure → aCg, slot_tuple_getitem → aCv, wpS_forRange → aDV, listItems_at → aDW, envOfC → aEu, pairsOf_size → aEJ, KK_mirror_equal → aFw, mirror_perm → aFO, wpS_reverse → aFP
open Or renaming inr → aBk, inl → aBY
open PySem.Obj renaming mapSeq → aBp, putSet → aEi
open PySem.PassesOwn renaming never → aBy
open PySem.Builtin.SmallTypes renaming nextOf → aBI, ownedTupleIsFree → aBK, ownedTupleHandOut → aDx
open PySem.NameKind renaming cell → aBP
open PySem.Builtin.List renaming listExtendWith → aBS, listTooLong → aCn, listLengthHint → aCz, listItems → aCD, listSameRef → aCU, listTouch → aFo
open Ne renaming symm → aCh
open ForInStep renaming yield → aCj
open PySem.Value renaming type → aCm, bool → aCE, ref → aDb, builtin → aDp, int → aGn
open PySem.Builtin.Range renaming rangeSize → aCu, small → aFN
open Option renaming map_eq_some_iff → aCB, isSome_iff_exists → aER
open PySem.F renaming plain_min_loop → aCG, plain_extend_loop → aCZ, slot_zip_next → aDK, entry_min_loop → aFj
open PySem.Builtin.Slice renaming slicePlaces → aCK, sliceAdjust → aDt, sliceApplied → aEw
open PySem.Str renaming ofString → aCW
open PySem.SetTable renaming below → aDw, bits → aDH, fits → aFU, insertAt → aGg, tooFull → aGm
open PySem.SeqAt.EqAt renaming same → aDF, int_int → aED, of_refs → aEE, int_tuple → aFE, tuple_int → aFF, int_str → aFR, str_int → aFS
open Classical renaming propDecidable → aDI
open PySem.Builtin.Builtins renaming bindParams → aEt
open PySem.Calls renaming spliced_cons → aEC, spliced_nil → aEQ, callWith_builtin → aFl, evalArgs_plain → aFC
open PySem.Moved renaming trans → aFd
open PySem.Builtin.Frozenset renaming slot0 → aFe
open List.cons renaming injEq → aFy
open List.Pairwise renaming filter → aFG, nil → aGe
open Prod renaming ext → aFT
open Sum renaming inl → aFY, inr → aFZ
open True renaming intro → aGc
open PySem.Heap.SameBut renaming refl → aGd
open PySem.Walks renaming list → aGh
open PySem.pickOrder renaming go → aGj
open Array.Perm renaming refl → aGo
abbrev F1:=PySem.Value->PySem.Shared->Prop
abbrev M5:=List (PySem.Addr×PySem.Obj)
abbrev Y0:=PySem.Str->Option PySem.Value
abbrev wN:=Bool->PySem.Shared->Prop
noncomputable section
namespace L2
open PySem PySem.Spec PyProof.Rows
abbrev xM:=Sum Int Str
def OH:xM->Value->Bool
 |.inl k,v=>Value.isInt k v
 |.inr x,v=>Value.isStrOf x v
def a1x (w:World):xM->Int
 |.inl k=>hashInt k
 |.inr x=>hashStr w x
theorem B7:∀{k:xM} {v:Value},OH k v=true->(∃i t,k=aFY i/\v=aGn i t)\/(∃x t,k=aFZ x/\v=Value.str x t)
 |.inl i,v,h=>by obtain⟨t,e⟩:=Value.isInt_shape (k:=i) (v:=v) h;exact .inl ⟨i,t,rfl,e⟩
 |.inr x,v,h=>by obtain⟨t,e⟩:=Value.isStrOf_shape (x:=x) (v:=v) h;exact .inr ⟨x,t,rfl,e⟩
def ZF (a b:Int):decide ((aFY a:xM)=aFY b)=(a==b):=by
 by_cases e:a=b
 ·subst e;simp
 ·have h:¬(aFY a:xM)=aFY b:=λq=>e (Sum.inl.inj q);rw[decide_eq_false h];exact(beq_eq_false_iff_ne.mpr e).symm
def XI (a b:Str):decide ((aFZ a:xM)=aFZ b)=decide (a=b):=by
 by_cases e:a=b
 ·subst e;simp
 ·have h:¬(aFZ a:xM)=aFZ b:=λq=>e (Sum.inr.inj q);rw[decide_eq_false h,decide_eq_false e]
def ZI (a:Int)(b:Str):decide ((aFY a:xM)=aFZ b)=false:=decide_eq_false (λq=>nomatch q)
def YH (a:Str)(b:Int):decide ((aFZ a:xM)=aFY b)=false:=decide_eq_false (λq=>nomatch q)
def vS (prog:Program)(w:World):PySem.KeyKind prog w xM where
 is:=OH
 hash:=a1x w
 inj:=λv a b ha hb=>by
  rcases B7 ha with⟨i,t,rfl,rfl⟩|⟨x,t,rfl,rfl⟩
  ·rcases B7 hb with⟨j,u,rfl,e⟩|⟨y,u,rfl,e⟩
   ·injection e with e1 _;rw[e1]
   ·exact nomatch e
  ·rcases B7 hb with⟨j,u,rfl,e⟩|⟨y,u,rfl,e⟩
   ·exact nomatch e
   ·injection e with e1 _;rw[e1]
 byValue:=λk v h=>by rcases B7 h with⟨i,t,rfl,rfl⟩|⟨x,t,rfl,rfl⟩<;>rfl
 pyHash:=λhv h=>by
  rcases B7 hv with⟨i,t,rfl,rfl⟩|⟨x,t,rfl,rfl⟩
  ·exact wpAny_pyHash_int h
  ·exact wpAny_pyHash_str h
 eqBool:=λhu hv h=>by
  rcases B7 hu with⟨i,t,rfl,rfl⟩|⟨x,t,rfl,rfl⟩
  ·rcases B7 hv with⟨j,u,rfl,rfl⟩|⟨y,u,rfl,rfl⟩
   ·rw[ZF]at h;exact wpAny_eqBool_int h
   ·rw[ZI]at h;exact aFR i t y u _ _ _ _ h
  ·rcases B7 hv with⟨j,u,rfl,rfl⟩|⟨y,u,rfl,rfl⟩
   ·rw[YH]at h;exact aFS x t j u _ _ _ _ h
   ·rw[XI]at h;exact wpAny_eqBool_str h
 «strs»:=λk x t v h=>by
  rcases B7 h with⟨i,u,rfl,e⟩|⟨y,u,rfl,e⟩
  ·exact nomatch e
  ·injection e with e1 _;subst e1;cases v<;>rfl
def XY (prog:Program)(w:World)(k:xM)(v:Value):(vS prog w).is k v=OH k v:=rfl
end L2
namespace L2
open PySem PySem.Spec PyProof.Rows
inductive V where
 |non|bl (b:Bool)|int (i:Int)|str (x:Str)|byt (b:Array UInt8)|flt (b:UInt64)|ref (a:Addr)|ty (n:String)
 deriving DecidableEq
def RelV:V->Value->Prop
 |.non,u=>u=Value.none
 |.bl b,u=>u=aCE b
 |.int i,u=>∃t,u=aGn i t
 |.str x,u=>∃t,u=Value.str x t
 |.byt b,u=>∃t,u=Value.bytes b t
 |.flt b,u=>∃t,u=Value.float b t
 |.ref a,u=>u=aDb a
 |.ty n,u=>u=aCm n
abbrev l8:List V->List Value->Prop:=Paired RelV
def l8.length {xs:List V}{us:List Value}(r:l8 xs us):xs.length=us.length:=Paired.length r
theorem l8.get:∀{xs:List V} {us:List Value} {i:Nat} {x:V},l8 xs us->xs[i]?=some x->∃u,us[i]?=some u/\RelV x u
 |_,_,_,_,.nil,e=>by simp at e
 |_,_,0,_,.cons r _,e=>by simp at e;subst e;exact⟨_,rfl,r⟩
 |_,_,i+1,x,.cons _ t,e=>by obtain⟨u,h1,h2⟩:=l8.get (i:=i) (x:=x) t (by simpa using e);exact⟨u,by simpa using h1,h2⟩
theorem l8.set (r:RelV x u):∀{xs:List V} {us:List Value} (i:Nat),l8 xs us->l8 (xs.set i x) (us.set i u)
 |_,_,_,.nil=>.nil
 |_,_,0,.cons _ t=>.cons r t
 |_,_,i+1,.cons q t=>.cons q (l8.set r i t)
theorem l8.append:∀{xs ys:List V} {us ws:List Value},l8 xs us->l8 ys ws->l8 (xs++ys) (us++ws)
 |_,_,_,_,.nil,s=>s
 |_,_,_,_,.cons r t,s=>.cons r (l8.append t s)
theorem l8.take:∀{xs:List V} {us:List Value} (n:Nat),l8 xs us->l8 (xs.take n) (us.take n)
 |_,_,0,_=>.nil
 |_,_,_+1,.nil=>.nil
 |_,_,n+1,.cons r t=>.cons r (l8.take n t)
theorem l8.drop:∀{xs:List V} {us:List Value} (n:Nat),l8 xs us->l8 (xs.drop n) (us.drop n)
 |_,_,0,r=>r
 |_,_,_+1,.nil=>.nil
 |_,_,n+1,.cons _ t=>l8.drop n t
def ww:Option V->Option Value->Prop
 |some v,some u=>RelV v u
 |none,none=>True
 |_,_=>False
def KV {κ:Type}:List (κ×V)->List (κ×Value)->Prop:=Paired λ(p:κ×V) (q:κ×Value)=>p.1=q.1/\RelV p.2 q.2
def kV:xM->V
 |.inl i=>.int i
 |.inr x=>.str x
inductive HO where
 |lst (xs:List V)
 |tup (xs:List V)
 |dK (kvs:List (xM×V))|dT (kvs:List (List xM×V))
 |set (S:Int->Bool) (n:Nat)
 |ins (C dx:Addr) (fs:List (Str×V))
 |own (x:Addr)
 |xd (fs:List (Str×V))
 |met (f x:Addr)
 |rng (lo hi:Int)
 |frz (o:Obj) (u:HO)
 |tbl (tb:List (Pos×Str))
 |ext (φ:Heap->Prop)
abbrev Hp:=Addr->Option HO
def upd (H:Hp)(a:Addr)(o:HO):Hp:=λb=>if b=a then some o else H b
def i9:upd H a o a=some o:=by unfold upd;rw[if_pos rfl]
def j7 (h:b≠a):upd H a o b=H b:=by unfold upd;rw[if_neg h]
def t8 {H:Hp}{a b:Addr}{o:HO}(h:H a=some o)(h':H b=none):a≠b:=by intro e;subst e;rw[h]at h';cases h'
section
variable(P:Program) (w:World)
def ObjOk (H:Hp)(h:Heap)(a:Addr):HO->Prop
 |.lst xs=>xs.length<=sizeLine/\∃(its:List Value) (n:Nat),l8 xs its/\h.get? a=some {cls:=.type "list",data:=.seq its.toArray n}
 |.tup xs=>xs.length<=sizeLine/\∃its:List Value,l8 xs its/\IsTup h a its.toArray
 |.dK kvs=>kvs.length<=sizeLine/\(a==sysModules)=false/\∃vs,KV kvs vs/\h.DictOf (vS P w) a vs
 |.dT kvs=>kvs.length<=sizeLine/\(a==sysModules)=false/\∃xs:List (List xM×Addr×Value),
  Paired (λ(p:List xM×V) (q:List xM×Addr×Value)=>p.1=q.1/\H q.2.1=some (.tup (p.1.map kV))/\RelV p.2 q.2.2) kvs xs/\
  ∃o es ep,h.get? a=some o/\o.ExactDict/\o.data=.dict es ep/\es.toList=xs.map (entryOfKey<|tupleKind<|vS P w)/\(xs.map (·.1)).Nodup
 |.set S n=>h.SetOf (intKind P w) a S n
 |.ins C dx fs=>H dx=some (.own a)/\fs.length<=1000/\dx≠a/\h.get? a=some (PySem.W.instObj C dx)/\
  ∃mA,h.Ns1 dx mA/\(∀f,ww (fs.lookup f) (mA f))/\PySem.Within mA (fs.map (·.1))
 |.own _=>∃o,h.get? a=some o
 |.xd fs=>∃mA,h.Ns1 a mA/\∀f,ww (fs.lookup f) (mA f)
 |.rng lo hi=>∃t u v,h.get? a=some {cls:=.type "range",data:=.fields #[.int lo t,.int hi u,.int 1 v]}
 |.frz o u=>h.get? a=some o/\ObjOk H h a u
 |.tbl tb=>∃ps:Array Value,h.get? a=some {cls:=.none,data:=.fields ps}/\TriplesOk ps.toList/\∀p∈tb,codeAmong p.1 ps.toList=none\/∃c oc vs t,codeAmong p.1 ps.toList=some (.ref c)/\H c=some (.frz oc (.own c))/\oc.data=.fields vs/\vs[1]?=some (.str p.2 t)
 |.met f x=>h.get? a=some (PySem.W.methodObj (.ref f)<|.ref x)
 |.ext φ=>φ h/\(∃o,h.get? a=some o)/\∀h1 h2:Heap,φ h1->(∀o,h1.get? a=some o->h2.get? a=some o)->φ h2
def WR:HO->Prop
 |.tup _=>True
 |.frz o _=>∃vs,o.data=.fields vs
 |_=>False
def aM (H:Hp)(h:Heap):Prop:=∀a o,H a=some o->ObjOk P w H h a o
end
section
variable{P:Program} {w:World} {H H':Hp} {h h':Heap} {a:Addr} {o:HO}
def ObjOk.lt (x:ObjOk P w H h a o):a<h.objs.size:=by
 cases o with
 |lst xs=>obtain⟨_,_,_,_,e⟩:=x;exact aAf e
 |tup xs=>obtain⟨_,_,_,p⟩:=x;exact p.lt
 |dK kvs=>obtain⟨_,_,_,_,o,_,_,e,_⟩:=x;exact aAf e
 |dT kvs=>obtain⟨_,_,_,_,o,_,_,e,_⟩:=x;exact aAf e
 |set S n=>obtain⟨o,_,_,_,e,_⟩:=x;exact aAf e
 |ins C dx fs=>obtain⟨_,_,_,e,_⟩:=x;exact aAf e
 |own y=>obtain⟨_,e⟩:=x;exact aAf e
 |xd fs=>obtain⟨_,⟨_,_,_,e,_⟩,_⟩:=x;exact aAf e
 |rng lo hi=>obtain⟨_,_,_,e⟩:=x;exact aAf e
 |frz ob u=>obtain⟨e,_⟩:=x;exact aAf e
 |tbl tb=>obtain⟨_,e,_⟩:=x;exact aAf e
 |met f y=>exact aAf (show h.get? a=some _ from x)
 |ext φ=>obtain⟨_,⟨_,e⟩,_⟩:=x;exact aAf e
theorem Paired.af8 {α β:Type}{F G:α->β->Prop}:∀{l₁:List α} {l₂:List β},Paired F l₁ l₂->(∀a b,F a b->G a b)->Paired G l₁ l₂
 |_,_,.nil,_=>.nil
 |_,_,.cons r t,f=>.cons (f _ _ r) (Paired.af8 t f)
def ObjOk.ab4 (x:ObjOk P w H h a o)(k:∀b u,(b=a\/H b=some (.own a))->h.get? b=some u->h'.get? b=some u)
  (ho:∀b,H b=some (.own a)->H' b=some (.own a)) (ht:∀b u,WR u->H b=some u->H' b=some u):ObjOk P w H' h' a o:=by
 induction o with
 |lst xs=>obtain⟨z,its,n,r,e⟩:=x;exact⟨z,its,n,r,k _ _ (.inl rfl) e⟩
 |tup xs=>obtain⟨z,its,r,ob,e,c⟩:=x;exact⟨z,its,r,ob,k _ _ (.inl rfl) e,c⟩
 |dK kvs=>obtain⟨z,y,vs,r,ob,es,ep,e,c⟩:=x;exact⟨z,y,vs,r,ob,es,ep,k _ _ (.inl rfl) e,c⟩
 |dT kvs=>obtain⟨z,y,xs,r,ob,es,ep,e,c⟩:=x;exact⟨z,y,xs,Paired.af8 r λp q z=>⟨z.1,ht _ _ trivial z.2.1,z.2.2⟩,ob,es,ep,k _ _ (.inl rfl) e,c⟩
 |set S n=>obtain⟨ob,es,ep,t,e,c⟩:=x;exact⟨ob,es,ep,t,k _ _ (.inl rfl) e,c⟩
 |ins C dx fs=>obtain⟨d,z,ne,e,mA,⟨od,es,ep,e2,c⟩,r⟩:=x;exact⟨ho _ d,z,ne,k _ _ (.inl rfl) e,mA,⟨od,es,ep,k _ _ (.inr d) e2,c⟩,r⟩
 |own y=>obtain⟨ob,e⟩:=x;exact⟨ob,k _ _ (.inl rfl) e⟩
 |xd fs=>obtain⟨mA,⟨od,es,ep,e,c⟩,r⟩:=x;exact⟨mA,⟨od,es,ep,k _ _ (.inl rfl) e,c⟩,r⟩
 |rng lo hi=>obtain⟨t,u,v,e⟩:=x;exact⟨t,u,v,k _ _ (.inl rfl) e⟩
 |frz ob u ih=>obtain⟨e,q⟩:=x;exact⟨k _ _ (.inl rfl) e,ih q⟩
 |tbl tb=>obtain⟨ps,e,t,f⟩:=x;exact⟨ps,k a _ (.inl rfl) e,t,λp hp=>(f p hp).imp id λ⟨c,oc,vs,t,e1,e2,e3⟩=>⟨c,oc,vs,t,e1,ht _ _ ⟨vs,e3.1⟩ e2,e3⟩⟩
 |met f y=>have e:h.get? a=some (PySem.W.methodObj (.ref f)<|.ref y):=x;show h'.get? a=some (PySem.W.methodObj (.ref f)<|.ref y);exact k a _ (.inl rfl) e
 |ext φ=>obtain⟨p,⟨o,e⟩,st⟩:=x;exact⟨st _ _ p λo q=>k _ _ (.inl rfl) q,⟨o,k _ _ (.inl rfl) e⟩,st⟩
def aM.lt (x:aM P w H h)(e:H a=some o):a<h.objs.size:=(x a o e).lt
def aM.fresh (x:aM P w H h)(e:h.objs.size<=a):H a=none:=by
 cases q:H a with
 |none=>rfl
 |some u=>exact absurd (aAq (x.lt q) e) (aBc _)
def aM.kept (x:aM P w H h)(k:∀b u,h.get? b=some u->h'.get? b=some u):aM P w H h':=λa o e=>(x a o e).ab4 (λb u _ q=>k b u q) (λ_ q=>q) λ_ _ _ q=>q
def aM.laid (x:aM P w H h)(k:∀b u,h.get? b=some u->h'.get? b=some u)(hp:h.objs.size<=a)(new:ObjOk P w (upd H a o) h' a o):aM P w (upd H a o) h':=λb u e=>by
 have hn:=x.fresh hp;by_cases hb:b=a
 ·subst hb;rw[i9]at e;cases e;exact new
 ·rw[j7 hb]at e;exact(x b u e).ab4 (λc v _ q=>k c v q) (λc q=>by rw[j7 (t8 q hn)];exact q) λc xs _ q=>by rw[j7 (t8 q hn)];exact q
end
def Rd (H:Hp)(a:Addr)(u:HO):Prop:=H a=some u\/∃o,H a=some (.frz o u)
def Rd.ok (r:Rd H a u)(x:aM P w H h):ObjOk P w H h a u:=by
 rcases r with r|⟨o,r⟩
 ·exact x a u r
 ·obtain⟨_,q⟩:=x a _ r;exact q
def Mut:Option HO->Prop
 |some (.lst _)=>True
 |some (.dK _)=>True
 |some (.dT _)=>True
 |some (.set _ _)=>True
 |some (.ins _ _ _)=>True
 |some (.ext _)=>True
 |_=>False
section
variable{P:Program} {w:World} {H:Hp} {h h':Heap} {x e:Addr} {o':HO}
def aM.write (ok:aM P w H h)(mu:Mut (H x))(he:e=x\/H e=some (.own x))(k:∀b u,b≠e->h.get? b=some u->h'.get? b=some u)(heo:∃u,h'.get? e=some u)
  (new:ObjOk P w (upd H x o') h' x o'):aM P w (upd H x o') h':=λb u q=>by
 have nown:∀c y,H c=some (.own y)->c≠x:=λc y r z=>by subst z;rw[r]at mu;exact mu
 have ntup:∀c u,WR u->H c=some u->c≠x:=λc u f r z=>by subst z;rw[r]at mu;cases u<;>first|exact mu|exact f
 by_cases hb:b=x
 ·subst hb;rw[i9]at q;cases q;exact new
 ·rw[j7 hb]at q;by_cases zc:b=e
  ·have q':H b=some (.own x):=by
    rcases he with z|z
    ·exact absurd (zc.trans z) hb
    ·rw[zc];exact z
   rw[q]at q';cases q';obtain⟨v,hv⟩:=heo;exact⟨v,by rw[zc];exact hv⟩
  ·refine(ok b u q).ab4 (λc v hc r=>k c v ?_ r) (λc r=>by rw[j7 (nown c b r)];exact r) λc xs f r=>by rw[j7 (ntup c xs f r)];exact r
   rcases hc with rfl|hc
   ·exact zc
   ·rintro rfl;rcases he with z|z
    ·exact nown c b hc z
    ·rw[hc]at z;cases z;exact hb rfl
end
structure Un (fs ex:List Addr)(H H':Hp)(h h':Heap):Prop where
 keep:∀b o,h.get? b=some o->H b=none->b∉fs->b∉ex->h'.get? b=some o
 slot:∀b o,h.get? b=some o->H b=none->b∈fs->b∉ex->∃sl,h'.get? b=some {o with slots:=sl}
 free:∀b o,h.get? b=some o->H b=none->b∉ex->H' b=none
 there:∀b o,h.get? b=some o->b∉ex->∃o',h'.get? b=some o'
 tups:∀b xs,H b=some (.tup xs)->H' b=some (.tup xs)
 frzs:∀b o u,H b=some (.frz o u)->H' b=some (.frz o u)
 tbls:∀b tb,H b=some (.tbl tb)->H' b=some (.tbl tb)
section
variable{fs yf ex ex':List Addr} {H H1 H2:Hp} {h h1 h2 h':Heap} {a x e:Addr} {o:HO}
def Un.any (u:Un fs ex H H1 h h1)(q:h.get? b=some ob)(n:H b=none)(hx:b∉ex):∃sl,h1.get? b=some {ob with slots:=sl}:=by
 by_cases hb:b∈fs
 ·exact u.slot b ob q n hb hx
 ·exact⟨ob.slots,u.keep b ob q n hb hx⟩
def Un.kept (k:∀b u,h.get? b=some u->h'.get? b=some u):Un fs ex H H h h':=
 ⟨λb ob q _ _ _=>k b ob q,λb ob q _ _ _=>⟨ob.slots,k b ob q⟩,λ_ _ _ n _=>n,λb ob q _=>⟨ob,k b ob q⟩,λ_ _ q=>q,λ_ _ _ q=>q,λ_ _ q=>q⟩
def Un.refl:Un fs ex H H h h:=Un.kept λ_ _ q=>q
def Un.laid (k:∀b u,h.get? b=some u->h'.get? b=some u)(hp:h.objs.size<=a)(hn:H a=none):Un fs ex H (upd H a o) h h' where
 keep:=λb u q _ _ _=>k b u q
 slot:=λb u q _ _ _=>⟨u.slots,k b u q⟩
 free:=λb u q n _=>by rw[j7 (aAk<|aAq (aAf q) hp)];exact n
 there:=λb u q _=>⟨u,k b u q⟩
 tups:=λb xs q=>by rw[j7 (t8 q hn)];exact q
 frzs:=λb u xs q=>by rw[j7 (t8 q hn)];exact q
 tbls:=λb ps q=>by rw[j7 (t8 q hn)];exact q
def Un.write (mu:Mut (H x))(he:e=x\/H e=some (.own x))(k:∀b u,b≠e->h.get? b=some u->h'.get? b=some u)(heo:∃u,h'.get? e=some u):Un fs ex H (upd H x o) h h':=by
 have hx:∀b,H b=none->b≠x:=λb n z=>by subst z;rw[n]at mu;exact mu
 have hb:∀b,H b=none->b≠e:=λb n z=>by
  subst z;rcases he with r|r
  ·exact hx b n r
  ·rw[n]at r;cases r
 have hm:∀b u,H b=some u->¬Mut (some u)->b≠x:=λb u q nm z=>by subst z;rw[q]at mu;exact nm mu
 refine⟨λb u q n _ _=>k b u (hb b n) q,λb u q n _ _=>⟨u.slots,k b u (hb b n) q⟩,λb u q n _=>by rw[j7 (hx b n)];exact n,λb u q _=>?_,
  λb xs q=>by rw[j7 (hm b _ q λz=>z)];exact q,λb u xs q=>by rw[j7 (hm b _ q λz=>z)];exact q,λb ps q=>by rw[j7 (hm b _ q λz=>z)];exact q⟩
 by_cases zc:b=e
 ·subst zc;exact heo
 ·exact⟨u,k b u zc q⟩
end
def trk (h:Heap)(H:Hp):List Addr:=(aBL h.objs.size).filter λa=>(H a).isSome
def rC (h:Heap)(H:Hp):Heap:=PySem.W.hideAll h (trk h H)
def GI (h:Heap)(H:Hp):(rC h H).objs.size=h.objs.size:=PySem.W.hideAll_size _ _
def ME (e:h.get? b=some o)(n:H b=none):(rC h H).get? b=some o:=
 PySem.W.hideAll_get _ e λhm=>by have q:(H b).isSome=true:=(aDj.mp hm).2;rw[n]at q;simp at q
def RT (e:(rC h H).get? b=some o):h.get? b=some o/\H b=none:=by
 have e':h.get? b=some o:=PySem.W.of_hideAll (trk h H) e;refine⟨e',?_⟩;cases q:H b with
 |none=>rfl
 |some x=>have hm:b∈trk h H:=aDj.mpr ⟨aCc.mpr (aAf e'),by simp[q]⟩;have z:(rC h H).get? b=none:=PySem.W.hideAll_none (trk h H) hm;rw[z]at e;cases e
def VE (g h:Heap)(L:Addr):List (Addr×Obj):=(aBL h.objs.size).filterMap λa=>if a=L\/(g.get? a).isSome=true then none else(h.get? a).map λo=>(a,o)
def rest (g h:Heap)(L d:Addr):List (Addr×Obj):=(VE g h L).filter λp=>decide (p.1≠d)
end L2
namespace L2
open PySem PySem.Spec PyProof.Rows
structure Mod (K:PySem.W.Frag)(mg:Y0)(base:Heap):Prop where
 kin:K.In base
 glob:base.Ns mainGlobals mg
 blt:∃mb,base.Ns builtinsNs mb/\∀x:Str,x≠ "__name__"->mb x=bootBuiltins x
 nolimit:base.NoLimit
structure Cx where
 prog:Program
 w:World
 K:PySem.W.Frag
 mg:Str->Option Value
 base:Heap
 A:Around
 N:List Str
 se:Shared
 Ha:Hp
 env:Env
 outer:List Env
 stack:List Env
 ex:List Addr
 fn:Str->Bool
 calm:Bool
 pn:List (Addr×Obj)
 xe:Value->Shared->Prop
def W4 (l:List Env):List Addr:=l.filterMap (·.frame)
abbrev Cx.fs (X:Cx):List Addr:=W4 X.outer
def sF (sc:Scope)(x:Str):Prop:=sc.names.lookup x=some .local\/sc.names.lookup x=some .cell\/sc.names.lookup x=some .free
def Loc (sc:Scope)(x:Str):Prop:=sc.names.lookup x=some .local\/sc.names.lookup x=some .cell
def Look (env:Env)(h:Heap)(m:Y0)(x:Str)(u:Value):Prop:=
 (env.kindOf x=some .local/\m x=some u)\/((env.kindOf x=some .cell\/env.kindOf x=some .free)/\∃c,env.cells.lookup x=some c/\h.IsCell c (some u))
structure Cx.Ok (X:Cx):Prop where
 mod:Mod X.K X.mg X.base
 kind:X.env.scope.kind=.function
 glob:X.env.globals=mainGlobals
 blt:X.env.builtins=builtinsNs
 above:X.se.heap.objs.size<=X.env.locals
 inj:∀x y c,X.env.cells.lookup x=some c->X.env.cells.lookup y=some c->x=y
 has:∀x,(X.env.kindOf x=some .cell\/X.env.kindOf x=some .free)->∃c,X.env.cells.lookup x=some c
 cab:∀x c,X.fn x=true->X.env.cells.lookup x=some c->X.se.heap.objs.size<=c
 hd:X.calm=true->X.A.handled=none
 frames:X.A.frames=some X.stack
 stk:X.stack=X.outer\/(X.stack=X.env::X.outer/\X.env.frame=some X.env.locals)
 exf:∀b∈X.ex,b≠X.env.locals/\∀x c,X.env.cells.lookup x=some c->c≠b
 bs:∀b o,X.base.get? b=some o->X.se.heap.get? b=some o/\X.Ha b=none
 bsz:X.base.objs.size<=X.se.heap.objs.size
 noex:∀b o,X.base.get? b=some o->b∉X.ex
 exfs:∀b∈X.ex,b∉X.fs
 funs:X.se.heap.FunFrames X.base X.outer
 frf:∀b∈X.fs,X.Ha b=none
structure Inv (X:Cx)(pins:M5)(σ:List (Option V))(H:Hp)(s:Shared):Prop where
 ok:X.Ok
 os:s.os=X.se.os
 bare:AllBare s.gens
 base:Un X.fs X.ex X.Ha H X.se.heap s.heap
 loc:∃m,s.heap.Ns X.env.locals m/\∀(i:Nat) (x:Str) (v:V),X.N[i]?=some x->σ[i]?=some (some v)->sF X.env.scope x->∃u,RelV v u/\Look X.env s.heap m x u
 cell:∀x c,X.env.cells.lookup x=some c->∃v,s.heap.IsCell c v
 free:H X.env.locals=none
 freeC:∀x c,X.env.cells.lookup x=some c->H c=none
 pin:∀p∈X.pn++pins,s.heap.get? p.1=some p.2/\H p.1=none/\p.1≠X.env.locals/\p.1∉X.fs/\∀v,p.2.data≠.cell v
 hok:aM X.prog X.w H s.heap
 len:σ.length=X.N.length
section
variable{X:Cx} {pins:M5} {σ:List (Option V)} {H H':Hp} {s:Shared} {h':Heap}
def Cx.Ok.nofr (ok:X.Ok)(e:X.base.get? b=some o):b∉X.fs:=λhb=>by have:=(ok.funs.mem hb).1;rw[e]at this;cases this
def Inv.bs (I:Inv X pins σ H s):∀b o,X.base.get? b=some o->s.heap.get? b=some o/\H b=none:=λb o e=>⟨I.base.keep b o (I.ok.bs b o e).1 (I.ok.bs b o e).2 (I.ok.nofr e) (I.ok.noex b o e),I.base.free b o (I.ok.bs b o e).1 (I.ok.bs b o e).2 (I.ok.noex b o e)⟩
def Inv.bk (I:Inv X pins σ H s):∀b o,X.base.get? b=some o->s.heap.get? b=some o:=λb o e=>(I.bs b o e).1
def Inv.mod (I:Inv X pins σ H s):Mod X.K X.mg X.base:=I.ok.mod
def Inv.kIn (I:Inv X pins σ H s):X.K.In s.heap:=I.ok.mod.kin.keeps I.bk
def Inv.lt (I:Inv X pins σ H s):X.env.locals<s.heap.objs.size:=let⟨_,hn,_⟩:=I.loc;hn.lt
def Inv.sz (I:Inv X pins σ H s):X.se.heap.objs.size<=s.heap.objs.size:=aAr I.ok.above (aCV I.lt)
def Inv.ag4 (I:Inv X pins σ H s)(h:s.heap.objs.size<=a):a∉X.fs:=λhb=>by obtain⟨_,o,ho,_⟩:=I.ok.funs.mem hb;exact absurd (aAq (aAf ho)<|aAr I.sz h) (aBc _)
def Inv.cne (I:Inv X pins σ H s):∀x c,X.env.cells.lookup x=some c->c≠X.env.locals:=λx c e z=>by obtain⟨v,o,ho,hd⟩:=I.cell x c e;obtain⟨m,⟨o',es,ep,vh,mh,_⟩,_⟩:=I.loc;rw[z,vh]at ho;cases ho;rw[mh]at hd;cases hd
def Inv.funs (I:Inv X pins σ H s):s.heap.FunFrames X.base X.outer:=by
 have all:∀(l:List Env),(∀b∈W4 l,b∈X.fs)->X.se.heap.FunFrames X.base l->s.heap.FunFrames X.base l:=by
  intro l;induction l with
  |nil=>intro _ _;trivial
  |cons env r ih=>intro hs hl;obtain⟨hk,⟨L,o,hf,hn,ho,hd⟩,hr⟩:=hl;have hL:L∈X.fs:=hs L (by unfold W4;rw[aBZ,hf];exact aAK);obtain⟨sl,e⟩:=I.base.slot L o ho (I.ok.frf L hL) hL λz=>I.ok.exfs L z hL;exact⟨hk,⟨L,_,hf,hn,e,hd⟩,ih (λb hb=>hs b (by unfold W4;rw[aBZ,hf];exact aAd _ hb)) hr⟩
 exact all X.outer (λ_ hb=>hb) I.ok.funs
def Inv.stack (I:Inv X pins σ H s):s.heap.FunFrames X.base X.stack:=by
 rcases I.ok.stk with e|⟨e,hf⟩
 ·rw[e];exact I.funs
 ·rw[e];obtain⟨m,hn,_⟩:=I.loc;refine .cons (by rw[I.ok.kind];decide) hf hn ?_ I.funs;exact aEb (aAr I.ok.bsz I.ok.above)
def Inv.ab0 (I:Inv X pins σ H s):∀b∈W4 X.stack,b∈X.env.locals::X.fs:=λb hb=>by
 rcases I.ok.stk with e|⟨e,hf⟩
 ·rw[e]at hb;exact aAd _ hb
 ·rw[e]at hb;unfold W4 at hb;rw[aBZ,hf]at hb;exact hb
def Inv.ab7 (I:Inv X pins σ H s):∀b∈W4 X.stack,H b=none:=λb hb=>by
 rcases aAe.mp (I.ab0 b hb)with e|hb
 ·rw[e];exact I.free
 ·obtain⟨_,o,ho,_⟩:=I.ok.funs.mem hb;exact I.base.free b o ho (I.ok.frf b hb) λz=>I.ok.exfs b z hb
def Inv.step {g':Array GenState}{t':Nat}{d':Drawn}{ch:List Addr}(I:Inv X pins σ H s)
  (yg:∀b∈ch,(b∈X.ex\/X.se.heap.objs.size<=b)/\b≠X.env.locals/\(∀x c,X.env.cells.lookup x=some c->c≠b)/\∀p∈X.pn++pins,p.1≠b)
  (keep:∀b o,b≠X.env.locals->b∉X.fs->b∉ch->s.heap.get? b=some o->H b=none->h'.get? b=some o)
  (slot:∀b o,b≠X.env.locals->b∈X.fs->b∉ch->s.heap.get? b=some o->H b=none->∃sl,h'.get? b=some {o with slots:=sl}) (free:∀b o,b∉ch->s.heap.get? b=some o->H b=none->H' b=none)
  (there:∀b o,b∉ch->s.heap.get? b=some o->∃o',h'.get? b=some o')
  (tups:∀b xs,H b=some (.tup xs)->H' b=some (.tup xs)) (frzs:∀b o u,H b=some (.frz o u)->H' b=some (.frz o u)) (tbls:∀b tb,H b=some (.tbl tb)->H' b=some (.tbl tb))
  (ns:∀m,s.heap.Ns X.env.locals m->h'.Ns X.env.locals m) (hok:aM X.prog X.w H' h') (hg:AllBare g'):
  Inv X pins σ H' {s with heap:=h',gens:=g',drawn:=d',toks:=t'}:=by
 have neL:∀b o,X.se.heap.get? b=some o->b≠X.env.locals:=λb o e=>aAk (aAq (aAf e) I.ok.above);have neC:∀b o,X.se.heap.get? b=some o->b∉X.ex->b∉ch:=λb o e hx hb=>by
  rcases(yg b hb).1 with z|z
  ·exact hx z
  ·exact absurd (aAq (aAf e) z) (aBc _)
 have cellK:∀x c,X.env.cells.lookup x=some c->∀v,s.heap.IsCell c v->h'.IsCell c v:=λx c e v ⟨o,ho,hd⟩=>by
  have nch:c∉ch:=λz=>(yg c z).2.2.1 x c e rfl;by_cases hc:c∈X.fs
  ·obtain⟨sl,q⟩:=slot c o (I.cne x c e) hc nch ho (I.freeC x c e);exact⟨_,q,hd⟩
  ·exact⟨o,keep c o (I.cne x c e) hc nch ho (I.freeC x c e),hd⟩
 refine⟨I.ok,I.os,hg,⟨λb o e n hb hx=>?_,λb o e n hb hx=>?_,λb o e n hx=>?_,λb o e hx=>?_,λb xs e=>tups b xs (I.base.tups b xs e),λb o xs e=>frzs b o xs (I.base.frzs b o xs e),λb ps e=>?_⟩,?_,λx c e=>?_,?_,λx c e=>?_,λp hp=>?_,hok,I.len⟩
 ·exact keep b o (neL b o e) hb (neC b o e hx) (I.base.keep b o e n hb hx) (I.base.free b o e n hx)
 ·obtain⟨sl,e1⟩:=I.base.slot b o e n hb hx;obtain⟨sl',e2⟩:=slot b _ (neL b o e) hb (neC b o e hx) e1 (I.base.free b o e n hx);exact⟨sl',e2⟩
 ·obtain⟨o',e1⟩:=I.base.there b o e hx;exact free b o' (neC b o e hx) e1 (I.base.free b o e n hx)
 ·obtain⟨o',e1⟩:=I.base.there b o e hx;exact there b o' (neC b o e hx) e1
 ·exact tbls b ps (I.base.tbls b ps e)
 ·obtain⟨m,hn,hl⟩:=I.loc;refine⟨m,ns m hn,λi x v e1 e2 e3=>?_⟩;obtain⟨u,r,l⟩:=hl i x v e1 e2 e3;refine⟨u,r,?_⟩;rcases l with l|⟨k,c,e,z⟩
  ·exact .inl l
  ·exact .inr ⟨k,c,e,cellK x c e _ z⟩
 ·obtain⟨v,z⟩:=I.cell x c e;exact⟨v,cellK x c e v z⟩
 ·obtain⟨m,⟨o,_,_,ho,_⟩,_⟩:=I.loc;exact free _ o (λz=>(yg _ z).2.1 rfl) ho I.free
 ·obtain⟨v,o,ho,hd⟩:=I.cell x c e;exact free c o (λz=>(yg c z).2.2.1 x c e rfl) ho (I.freeC x c e)
 ·obtain⟨e,n,ne,nf,d⟩:=I.pin p hp;have nch:p.1∉ch:=λz=>(yg p.1 z).2.2.2 p hp rfl;exact⟨keep p.1 p.2 ne nf nch e n,free p.1 p.2 nch e n,ne,nf,d⟩
def Inv.un {t':Nat}(I:Inv X pins σ H s)(u:Un X.fs [] H H' s.heap h')(hok:aM X.prog X.w H' h'):Inv X pins σ H' {s with heap:=h',toks:=t'}:=by
 obtain⟨m,⟨o,es,ep,ho,r⟩,_⟩:=id I.loc;obtain⟨sl,hL⟩:=u.any ho I.free (by simp);exact I.step (g':=s.gens) (d':=s.drawn) (ch:=[]) (λ_ z=>nomatch z) (λb o _ hb _ e n=>u.keep b o e n hb (by simp)) (λb o _ hb _ e n=>u.slot b o e n hb (by simp)) (λb o _ e n=>u.free b o e n (by simp)) (λb o _ e=>u.there b o e (by simp)) u.tups u.frzs u.tbls (λm' hm=>by obtain⟨o',es',ep',vh,r'⟩:=hm;rw[ho]at vh;cases vh;exact⟨_,es',ep',hL,r'⟩) hok I.bare
def Inv.call {g':Array GenState}{t':Nat}{d':Drawn}{ch:List Addr}(I:Inv X pins σ H s)(u:Un (W4 X.stack) ch H H' s.heap h')(hok:aM X.prog X.w H' h')(hg:AllBare g')
  (yg:∀b∈ch,(b∈X.ex\/X.se.heap.objs.size<=b)/\b≠X.env.locals/\(∀x c,X.env.cells.lookup x=some c->c≠b)/\∀p∈X.pn++pins,p.1≠b):
  Inv X pins σ H' {s with heap:=h',gens:=g',drawn:=d',toks:=t'}:=by
 obtain⟨m,⟨o,es,ep,ho,r⟩,_⟩:=id I.loc;obtain⟨sl,hL⟩:=u.any ho I.free λz=>(yg _ z).2.1 rfl;exact I.step (ch:=ch) yg (λb o hL hb hc e n=>u.keep b o e n (λz=>(aAe.mp<|I.ab0 b z).elim hL hb) hc) (λb o _ _ hc e n=>u.any e n hc) (λb o hc e n=>u.free b o e n hc) (λb o hc e=>u.there b o e hc) u.tups u.frzs u.tbls (λm' hm=>by obtain⟨o',es',ep',vh,r'⟩:=hm;rw[ho]at vh;cases vh;exact⟨_,es',ep',hL,r'⟩) hok hg
def Inv.turned {t':Nat}{it:Addr}(I:Inv X pins σ H s)(k:∀b o,b≠it->s.heap.get? b=some o->h'.get? b=some o)(hn:H it=none)(hL:it≠X.env.locals)
  (h1:it∈X.ex\/X.se.heap.objs.size<=it) (h2:∀x c,X.env.cells.lookup x=some c->c≠it) (h3:∀p∈X.pn++pins,p.1≠it):Inv X pins σ H {s with heap:=h',toks:=t'}:=by
 have nit:∀b u,H b=some u->b≠it:=λb u e z=>by rw[z,hn]at e;cases e
 refine I.step (g':=s.gens) (d':=s.drawn) (ch:=[it]) (λb hb=>?_) (λb o _ _ hc e _=>k b o (λz=>hc (by simp[z])) e) (λb o _ _ hc e _=>⟨o.slots,k b o (λz=>hc (by simp[z])) e⟩) (λ_ _ _ _ n=>n)
  (λb o hc e=>⟨o,k b o (λz=>hc (by simp[z])) e⟩) (λ_ _ e=>e) (λ_ _ _ e=>e) (λ_ _ e=>e) (λm hm=>?_) (λb u e=>?_) I.bare
 ·have e:b=it:=by simpa using hb
  subst e;exact⟨h1,hL,h2,h3⟩
 ·obtain⟨o,es,ep,ho,r⟩:=hm;exact⟨o,es,ep,k _ o (aCh hL) ho,r⟩
 ·refine(I.hok b u e).ab4 (λc v hc q=>k c v ?_ q) (λ_ q=>q) λ_ _ _ q=>q;rcases hc with z|z
  ·rw[z];exact nit b u e
  ·exact nit c _ z
def Inv.tok (I:Inv X pins σ H s)(t:Nat):Inv X pins σ H {s with toks:=t}:=I.un (h':=s.heap) (t':=t) Un.refl I.hok
def Inv.kept (I:Inv X pins σ H s)(k:∀b u,s.heap.get? b=some u->h'.get? b=some u):Inv X pins σ H {s with heap:=h',toks:=t'}:=I.un (Un.kept k) (I.hok.kept k)
def Inv.laid (I:Inv X pins σ H s)(k:∀b u,s.heap.get? b=some u->h'.get? b=some u)(hp:s.heap.objs.size<=a)(new:ObjOk X.prog X.w (upd H a o) h' a o):
 Inv X pins σ (upd H a o) {s with heap:=h',toks:=t'}:=I.un (Un.laid k hp<|I.hok.fresh hp) (I.hok.laid k hp new)
def Inv.write (I:Inv X pins σ H s)(mu:Mut (H x))(he:e=x\/H e=some (.own x))(k:∀b u,b≠e->s.heap.get? b=some u->h'.get? b=some u)(heo:∃u,h'.get? e=some u)(new:ObjOk X.prog X.w (upd H x o) h' x o):Inv X pins σ (upd H x o) {s with heap:=h',toks:=t'}:=I.un (Un.write mu he k heo) (I.hok.write mu he k heo new)
def Inv.ad4 (I:Inv X pins σ H s)(h:∀p∈pins',s.heap.get? p.1=some p.2/\H p.1=none/\p.1≠X.env.locals/\p.1∉X.fs/\∀v,p.2.data≠.cell v):Inv X pins' σ H s:=
 ⟨I.ok,I.os,I.bare,I.base,I.loc,I.cell,I.free,I.freeC,λp hp=>(aAH.mp hp).elim (λz=>I.pin p (aBB _ z)) (h p),I.hok,I.len⟩
def pS {N:List Str}(hN:N.Nodup){i j:Nat}{x:Str}(a:N[i]?=some x)(b:N[j]?=some x):i=j:=by obtain⟨h1,e1⟩:=aAz.mp a;obtain⟨h2,e2⟩:=aAz.mp b;exact(List.getElem_inj hN).mp (e1.trans e2.symm)
def tQ {M:Model}{A:Around}{E:F1}{i:Nat}{x:Str}{v:V}{u:Value}{Q:Unit->Shared->Prop}(I:Inv X pins σ H s)(hN:X.N.Nodup)(hi:X.N[i]?=some x)(hx:Loc X.env.scope x)(r:RelV v u)
  (h:∀s',Inv X pins (σ.set i (some v)) H s'->(∃a,Heap.SameBut a s.heap s'.heap/\(a=X.env.locals\/X.env.cells.lookup x=some a))->Q () s') (hf:X.fn x=true\/X.env.scope.names.lookup x=some .local:=by first|exact .inl rfl|exact .inr rfl|assumption):wpAny M A (storeName X.env x u) Q E s:=by
 obtain⟨m,hn,hl⟩:=id I.loc;have hcls:(X.env.scope.kind==.class||(X.env.scope.kind==.module&&X.env.locals !=X.env.globals))=false:=by rw[I.ok.kind];rfl
 have zd:i<σ.length:=by rw[I.len];exact(aAz.mp hi).1
 have cne:=I.cne;have tracked:∀{a:Addr} {h':Heap},(∃o,s.heap.get? a=some o/\H a=none)->Heap.SameBut a s.heap h'->aM X.prog X.w H h':=λ{a h'} ha hs b ob e=>by
  obtain⟨_,_,kh⟩:=ha;refine(I.hok b ob e).ab4 (λc w' hc q=>(hs.2 c ?_).trans q) (λ_ q=>q) λ_ _ _ q=>q;rintro rfl;rcases hc with rfl|hc
  ·rw[kh]at e;cases e
  ·rw[kh]at hc;cases hc
 rcases hx with hk|hk
 ·refine wpAny_storeName_local hk hn (λh' hn' hs=>?_) hcls;obtain⟨oL,_,_,hoL,_⟩:=id hn;refine h _ ⟨I.ok,I.os,I.bare,⟨λb o e n hb hx=>?_,λb o e n hb hx=>?_,I.base.free,λb o e hx=>?_,I.base.tups,I.base.frzs,I.base.tbls⟩,⟨_,hn',λj y v' e1 e2 e3=>?_⟩,λy c e=>?_,I.free,I.freeC,λp hp=>?_,tracked ⟨oL,hoL,I.free⟩ hs,by simpa using I.len⟩ ⟨_,hs,.inl rfl⟩
  ·exact(hs.2 b (aAk<|aAq (aAf e) I.ok.above)).trans (I.base.keep b o e n hb hx)
  ·obtain⟨sl,e1⟩:=I.base.slot b o e n hb hx;exact⟨sl,(hs.2 b (aAk<|aAq (aAf e) I.ok.above)).trans e1⟩
  ·obtain⟨o',e1⟩:=I.base.there b o e hx;exact⟨o',(hs.2 b (aAk<|aAq (aAf e) I.ok.above)).trans e1⟩
  ·by_cases hj:j=i
   ·subst hj;rw[hi]at e1;cases e1;rw[aBt zd]at e2;cases e2;exact⟨u,r,.inl ⟨hk,by simp⟩⟩
   ·rw[aCr (aCh hj)]at e2;obtain⟨u',r',q⟩:=hl j y v' e1 e2 e3;refine⟨u',r',?_⟩;rcases q with⟨k,e⟩|⟨k,c,e,z⟩
    ·refine .inl ⟨k,?_⟩;have:y≠x:=λe=>hj (pS hN e1<|e▸hi);simp[this,e]
    ·exact .inr ⟨k,c,e,z.sameBut hs (cne y c e)⟩
  ·obtain⟨w',z⟩:=I.cell y c e;exact⟨w',z.sameBut hs (cne y c e)⟩
  ·obtain⟨e,n,ne,nf,d⟩:=I.pin p hp;exact⟨(hs.2 p.1 ne).trans e,n,ne,nf,d⟩
 ·have yh:X.fn x=true:=by
   rcases hf with z|z
   ·exact z
   ·rw[z]at hk;cases hk
  obtain⟨c,hc⟩:=I.ok.has x (.inl hk);obtain⟨w',z⟩:=I.cell x c hc;refine wpAny_storeName_cell I.ok.kind hk hc z (λh' hc' hs=>?_);obtain⟨oc,hoc,hocd⟩:=id z;refine h {s with heap:=h'} ⟨I.ok,I.os,I.bare,⟨λb o e n hb hx=>?_,λb o e n hb hx=>?_,I.base.free,λb o e hx=>?_,I.base.tups,I.base.frzs,I.base.tbls⟩,⟨m,hn.sameBut hs (aCh<|cne x c hc),λj y v' e1 e2 e3=>?_⟩,λy c' e=>?_,I.free,I.freeC,λp hp=>?_,tracked ⟨oc,hoc,I.freeC x c hc⟩ hs,by simpa using I.len⟩ ⟨c,hs,.inr hc⟩
  ·exact(hs.2 b (aAk<|aAq (aAf e)<|I.ok.cab x c yh hc)).trans (I.base.keep b o e n hb hx)
  ·obtain⟨sl,e1⟩:=I.base.slot b o e n hb hx;exact⟨sl,(hs.2 b (aAk<|aAq (aAf e)<|I.ok.cab x c yh hc)).trans e1⟩
  ·obtain⟨o',e1⟩:=I.base.there b o e hx;exact⟨o',(hs.2 b (aAk<|aAq (aAf e)<|I.ok.cab x c yh hc)).trans e1⟩
  ·by_cases hj:j=i
   ·subst hj;rw[hi]at e1;cases e1;rw[aBt zd]at e2;cases e2;exact⟨u,r,.inr ⟨.inl hk,c,hc,hc'⟩⟩
   ·rw[aCr (aCh hj)]at e2;obtain⟨u',r',q⟩:=hl j y v' e1 e2 e3;refine⟨u',r',?_⟩;rcases q with q|⟨k,c',e,z'⟩
    ·exact .inl q
    ·refine .inr ⟨k,c',e,z'.sameBut hs ?_⟩;rintro rfl;exact hj (pS hN e1<|I.ok.inj _ _ _ e hc▸hi)
  ·by_cases hcc:c'=c
   ·subst hcc;exact⟨_,hc'⟩
   ·obtain⟨w2,z2⟩:=I.cell y c' e;exact⟨w2,z2.sameBut hs hcc⟩
  ·obtain⟨e,n,ne,nf,d⟩:=I.pin p hp;refine⟨(hs.2 p.1 ?_).trans e,n,ne,nf,d⟩;intro q;rw[q,hoc]at e;have q':oc=p.2:=aAj e;exact d w' (by rw[<-q'];exact hocd)
def X0 {E:F1}{Q:Unit->Shared->Prop}(I:Inv X pins σ H s)(hN:X.N.Nodup)(hi:X.N[i]?=some x)(hx:Loc X.env.scope x)(r:RelV v u)(h:∀s',Inv X pins (σ.set i (some v)) H s'->Q () s')(hf:X.fn x=true\/X.env.scope.names.lookup x=some .local:=by first|exact .inl rfl|exact .inr rfl|assumption):wpAny M A (storeName X.env x u) Q E s:=
 tQ I hN hi hx r (λs' I' _=>h s' I') hf
def Inv.af1 (I:Inv X pins σ H s)(ho:s'.os=s.os)(u:Un (W4 X.stack) ch H H' s.heap s'.heap)(hok:aM X.prog X.w H' s'.heap)(hg:AllBare s'.gens)(yg:∀b∈ch,(b∈X.ex\/X.se.heap.objs.size<=b)/\b≠X.env.locals/\(∀x c,X.env.cells.lookup x=some c->c≠b)/\∀p∈X.pn++pins,p.1≠b):Inv X pins σ H' s':=by obtain⟨h',g',d',t',o'⟩:=s';have e:o'=s.os:=ho;subst e;exact I.call (g':=g') (t':=t') (d':=d') u hok hg yg
end
abbrev XK:=Value->Option Addr->Hp->Prop
abbrev St:=List (Option V)
abbrev VK:=V->Hp->Prop
abbrev TE:=St->Hp->VK->Prop
abbrev TT:=St->Hp->(Bool->Hp->Prop)->Prop
abbrev TA:=St->Hp->(List V->Hp->Prop)->Prop
structure Ends where
 nx:St->Hp->Prop
 rt:VK
 bk:St->Hp->Prop:=λ_ _=>False
 ct:St->Hp->Prop:=λ_ _=>False
abbrev TS:=Ends->St->Hp->Prop
def EP (X:Cx)(pins:M5)(σ:St)(Q:VK)(u:Value)(s':Shared):Prop:=∃v H',Inv X pins σ H' s'/\RelV v u/\Q v H'
def TP (X:Cx)(pins:M5)(σ:St)(Q:Bool->Hp->Prop)(b:Bool)(s':Shared):Prop:=∃H',Inv X pins σ H' s'/\Q b H'
def AP (X:Cx)(pins:M5)(σ:St)(Q:List V->Hp->Prop)(us:List Value)(s':Shared):Prop:=∃vs H',Inv X pins σ H' s'/\l8 vs us/\Q vs H'
def SP (X:Cx)(pins:M5)(D:Ends)(f:Flow)(s':Shared):Prop:=
 match f with
 |.next=>∃ao H',Inv X pins ao H' s'/\D.nx ao H'
 |.brk=>∃ao H',Inv X pins ao H' s'/\D.bk ao H'
 |.cont=>∃ao H',Inv X pins ao H' s'/\D.ct ao H'
 |.ret u=>∃v ao H',Inv X pins ao H' s'/\RelV v u/\D.rt v H'
def PE (X:Cx)(e:Expr)(t:TE):Prop:=
 ∀(pins:M5) (s:Shared) (σ:St) (H:Hp) (Q:VK),Inv X pins σ H s->t σ H Q->wpAny (model X.prog X.w) X.A (eval e X.env) (EP X pins σ Q) X.xe s
def PT (X:Cx)(e:Expr)(t:TT):Prop:=
 ∀(pins:M5) (s:Shared) (σ:St) (H:Hp) (Q:Bool->Hp->Prop),Inv X pins σ H s->t σ H Q->wpAny (model X.prog X.w) X.A (isTrue e X.env<|eval e X.env) (TP X pins σ Q) X.xe s
def PW (X:Cx)(e:Expr)(t:TT):Prop:=
 ∀(whole:Sem Value) (pins:M5) (s:Shared) (σ:St) (H:Hp) (Q:Bool->Hp->Prop),Inv X pins σ H s->t σ H Q->wpAny (model X.prog X.w) X.A (isTrue e X.env whole) (TP X pins σ Q) X.xe s
def PW.pt (h:PW X e t):PT X e t:=h _
def PA (X:Cx)(es:List Expr)(t:TA):Prop:=
 ∀(pos:Pos) (pins:M5) (s:Shared) (σ:St) (H:Hp) (Q:List V->Hp->Prop),Inv X pins σ H s->t σ H Q->wpAny (model X.prog X.w) X.A (spliced<|backTo pos<|starEach es X.env) (AP X pins σ Q) X.xe s
def PS (X:Cx)(st:Stmt)(t:TS):Prop:=
 ∀(pins:M5) (s:Shared) (σ:St) (H:Hp) (D:Ends),Inv X pins σ H s->t D σ H->wpAny (model X.prog X.w) X.A (exec st X.env) (SP X pins D) X.xe s
def uF (X:Cx)(st:List Stmt)(t:TS):Prop:=
 ∀(pins:M5) (s:Shared) (σ:St) (H:Hp) (D:Ends),Inv X pins σ H s->t D σ H->wpAny (model X.prog X.w) X.A (execs st X.env) (SP X pins D) X.xe s
def D4 {α:Type}{t:Sem α}{Q Q':α->Shared->Prop}{M:Model}{A:Around}{E:F1}{s:Shared}(h:wpAny M A t Q E s)(hQ:∀a s,Q a s->Q' a s):wpAny M A t Q' E s:=aBG h hQ λ_ _ x=>x
end L2
namespace L2
open PySem PySem.Spec PyProof.Rows
section
variable{X:Cx}
def xq (i:Nat):TE:=λσ H Q=>∃v,σ[i]?=some (some v)/\Q v H
def tC (v:V):TE:=λ_ H Q=>Q v H
def M6 (hN:X.N[i]?=some x)(hv:sF X.env.scope x)(hd:(x==("__debug__":Str))=false:=by decide)(eu:(x==("__classdict__":Str))=false:=by decide):PE X (.Name x pos) (xq i):=by
 intro pins s σ H Q I h;obtain⟨v,e,h⟩:=h;obtain⟨m,hn,hl⟩:=I.loc;obtain⟨u,r,l⟩:=hl i x v hN e hv;have fin:EP X pins σ Q u s:=⟨v,H,I,r,h⟩;rcases l with⟨hk,hm⟩|⟨hk,c,hc,ji⟩
 ·exact wpAny_Name (wpAny_loadName_local I.ok.kind hk hn hm fin) hd
 ·rcases hk with hk|hk
  ·exact wpAny_Name (wpAny_loadName_cell I.ok.kind hk hc ji fin) hd
  ·exact wpAny_Name (wpAny_loadName_free I.ok.kind hk hc ji fin eu) hd
def JX {i j pos}:PE X (.Constant (.int i) j pos) (tC (.int i)):=λ_ _ _ H _ I h=>wpAny_Constant_int ⟨.int i,H,I.tok _,⟨_,rfl⟩,h⟩
def kq {b j pos}:PE X (.Constant (.bool b) j pos) (tC (.bl b)):=λ_ _ _ H _ I h=>Constant_bool ⟨.bl b,H,I,rfl,h⟩
def az {j pos}:PE X (.Constant .none j pos) (tC .non):=λ_ _ _ H _ I h=>Constant_none ⟨.non,H,I,rfl,h⟩
def ZG {x j pos}:PE X (.Constant (.str x) j pos) (tC (.str x)):=λ_ _ _ H _ I h=>Calls.Constant_str ⟨.str x,H,I.tok _,⟨_,rfl⟩,h⟩
def Gl (X:Cx)(x:Str):Prop:=X.env.kindOf x=some .globalImplicit
def fI {E:F1}{Q:F1}(I:Inv X pins σ H s)(hg:Gl X x)(hm:X.mg x=some u)(h:Q u s)(hd:(x==("__debug__":Str))=false:=by decide):wpAny (model X.prog X.w) X.A (eval (.Name x pos) X.env) Q E s:=
 Calls.Name_function_global I.ok.kind hg (Calls.loadGlobal_global (by rw[I.ok.glob];exact I.mod.glob.keeps I.bk) hm h) hd
def P6 {E:F1}{Q:F1}(I:Inv X pins σ H s)(hg:Gl X x)(hm:X.mg x=none)(hv:bootBuiltins x=some u)(h:Q u s)(hn:x≠ "__name__":=by decide)(hd:(x==("__debug__":Str))=false:=by decide):wpAny (model X.prog X.w) X.A (eval (.Name x pos) X.env) Q E s:=by obtain⟨mb,h1,h2⟩:=I.mod.blt;exact Calls.Name_function_global I.ok.kind hg (Calls.loadGlobal_builtin (by rw[I.ok.glob];exact I.mod.glob.keeps I.bk) hm (by rw[I.ok.blt];exact h1.keeps I.bk) ((h2 x hn).trans hv) h) hd
def DZ (hg:Gl X x)(hm:X.mg x=some u)(r:RelV v u)(hd:(x==("__debug__":Str))=false:=by decide):PE X (.Name x pos) (tC v):=
 λ_ _ _ H _ I h=>fI I hg hm ⟨v,H,I,r,h⟩ hd
def GA (hg:Gl X x)(hm:X.mg x=none)(hv:bootBuiltins x=some u)(r:RelV v u)(hn:x≠ "__name__":=by decide)(hd:(x==("__debug__":Str))=false:=by decide):PE X (.Name x pos) (tC v):=
 λ_ _ _ H _ I h=>P6 I hg hm hv ⟨v,H,I,r,h⟩ hn hd
variable{a b:Expr} {ta tb:TE} {pos:Pos}
def tB (t:TE):TT:=λσ H Q=>t σ H λx H1=>∃c,x=.bl c/\Q c H1
def XO {e:Expr}{t:TE}(h:PE X e t)(he:∀whole,isTrue e X.env whole=(do let v<-whole;standAt e.pos;holding [v] (truthy v)):=by intro _;rfl):PT X e (tB t):=by intro pins s σ H Q I hw;refine isTrue_plain (D4 (h pins s σ H _ I hw) λv s1 ⟨x,H1,I1,r1,q1⟩=>?_) (he _);obtain⟨d,rfl,q⟩:=q1;cases r1;exact aBe ⟨H1,I1,q⟩
variable{tA tB':TT} {rest:List Expr}
def a2x (t u:TT):TT:=λσ H Q=>t σ H λc H1=>if c=true then u σ H1 Q else Q false H1
def tOr (t u:TT):TT:=λσ H Q=>t σ H λc H1=>if c=true then Q true H1 else u σ H1 Q
def a1u (t:TT):TT:=λσ H Q=>t σ H λc H1=>Q (!c) H1
def UC (ha:PT X a tA):PW X (.BoolOp .And [a] pos) tA:=by
 intro wh pins s σ H Q I h;refine isTrue_and (D4 (ha pins s σ H Q I h) λc s1 e=>?_);cases c with
 |true=>exact isTrue_and_nil e
 |false=>exact e
def YO (ha:PT X a tA):PW X (.BoolOp .Or [a] pos) tA:=by
 intro wh pins s σ H Q I h;refine isTrue_or (D4 (ha pins s σ H Q I h) λc s1 e=>?_);cases c with
 |false=>exact isTrue_or_nil e
 |true=>exact e
def bq (ha:PT X a tA)(hb:PW X (.BoolOp .And (b::rest) pos) tB'):PW X (.BoolOp .And (a::b::rest) pos) (a2x tA tB'):=by
 intro wh pins s σ H Q I h;refine isTrue_and (D4 (ha pins s σ H _ I h) λc s1 ⟨H1,I1,q1⟩=>?_);cases c with
 |true=>exact hb wh pins s1 σ H1 Q I1 q1
 |false=>exact⟨H1,I1,q1⟩
def zx (ha:PT X a tA)(hb:PW X (.BoolOp .Or (b::rest) pos) tB'):PW X (.BoolOp .Or (a::b::rest) pos) (tOr tA tB'):=by
 intro wh pins s σ H Q I h;refine isTrue_or (D4 (ha pins s σ H _ I h) λc s1 ⟨H1,I1,q1⟩=>?_);cases c with
 |true=>exact⟨H1,I1,q1⟩
 |false=>exact hb wh pins s1 σ H1 Q I1 q1
def ZS (ha:PT X a tA):PT X (.UnaryOp .Not a pos) (a1u tA):=by intro pins s σ H Q I h;exact isTrue_not (ha pins s σ H (λc H1=>Q (!c) H1) I h)
def jy (ta tb:TE):TE:=λσ H Q=>ta σ H λx H1=>∃c,x=.bl c/\if c=true then tb σ H1 Q else Q (.bl false) H1
def a0e (ta:TE):TE:=λσ H Q=>ta σ H λx H1=>∃c,x=.bl c/\Q (.bl (!c)) H1
def YR {op}(h:PE X a t):PE X (.BoolOp op [a] pos) t:=λpins s σ H Q I hw=>BoolOp_one (h pins s σ H Q I hw)
def fq (ha:PE X a ta)(hb:PE X (.BoolOp .And (b::rest) pos) tb):PE X (.BoolOp .And (a::b::rest) pos) (jy ta tb):=by
 intro pins s σ H Q I h;refine BoolOp_and (D4 (ha pins s σ H _ I h) λv s1 ⟨x,H1,I1,r1,q1⟩=>?_);obtain⟨c,rfl,q1⟩:=q1;cases r1;refine aBe ?_;cases c with
 |true=>exact hb pins s1 σ H1 Q I1 q1
 |false=>exact⟨.bl false,H1,I1,rfl,q1⟩
def ak (ha:PE X a ta):PE X (.UnaryOp .Not a pos) (a0e ta):=by intro pins s σ H Q I h;refine UnaryOp_ (D4 (ha pins s σ H _ I h) λv s1 ⟨x,H1,I1,r1,q1⟩=>?_);obtain⟨c,rfl,q1⟩:=q1;cases r1;exact not_of (aBe ⟨.bl (!c),H1,I1,rfl,q1⟩)
end
end L2
namespace L2
open PySem PySem.Spec PyProof.Rows
def O6 (K:PySem.W.Frag)(H:Hp)(a:Addr)(xs:List V):Prop:=
 Rd H a (.lst xs)\/
  ∃(o:Obj) (its:Array Value) (n:Nat),K.lookup a=some o/\o.cls=.type "list"/\o.dict=none/\o.data=.seq its n/\its.size<=sizeLine/\l8 xs its.toList
def X7 (K:PySem.W.Frag)(H:Hp)(a:Addr)(xs:List V):Prop:=
 Rd H a (.tup xs)\/
  ∃(o:Obj) (its:Array Value) (n:Nat),K.lookup a=some o/\o.cls=.type "tuple"/\o.data=.seq its n/\its.size<=sizeLine/\l8 xs its.toList
def a1i:Value->Option V
 |.none=>some .non
 |.bool b=>some (.bl b)
 |.int i _=>some (.int i)
 |.str x _=>some (.str x)
 |.bytes b _=>some (.byt b)
 |.float b _=>some (.flt b)
 |.ref a=>some (.ref a)
 |.type n=>some (.ty n)
 |_=>none
def RelV.abs (r:RelV x u):a1i u=some x:=by
 cases x with
 |non=>cases r;rfl
 |bl _=>cases r;rfl
 |int _=>obtain⟨t,rfl⟩:=r;rfl
 |str _=>obtain⟨t,rfl⟩:=r;rfl
 |byt _=>obtain⟨t,rfl⟩:=r;rfl
 |flt _=>obtain⟨t,rfl⟩:=r;rfl
 |ref _=>cases r;rfl
 |ty _=>cases r;rfl
def RelV.inj {x y:V}{u:Value}(r:RelV x u)(q:RelV y u):x=y:=aAj (r.abs.symm.trans q.abs)
theorem l8.inj:∀{xs ys:List V} {us:List Value},l8 xs us->l8 ys us->xs=ys
 |_,_,_,.nil,.nil=>rfl
 |_,_,_,.cons r t,.cons r' t'=>by rw[r.inj r',l8.inj t t']
section
variable{X:Cx} {pins:M5} {σ:St} {H:Hp} {s:Shared} {a:Addr} {xs ys:List V}
def O6.of {K:PySem.W.Frag}(h:H a=some (.lst xs)):O6 K H a xs:=.inl (.inl h)
def X7.of {K:PySem.W.Frag}(h:H a=some (.tup xs)):X7 K H a xs:=.inl (.inl h)
def Inv.list (I:Inv X pins σ H s)(h:O6 X.K H a xs):∃its:List Value,l8 xs its/\PlainL s.heap a its.toArray/\xs.length<=sizeLine:=by
 rcases h with h|⟨o,its,n,hk,hc,hd,hs,hz,r⟩
 ·obtain⟨z,its,n,r,e⟩:=h.ok I.hok;exact⟨its,r,⟨_,n,e,rfl,rfl,rfl⟩,z⟩
 ·refine⟨its.toList,r,⟨o,n,I.kIn a o hk,hc,hd,by simpa using hs⟩,?_⟩;have e:=r.length;simp only[aAW]at e
  lia
def Inv.tuple (I:Inv X pins σ H s)(h:X7 X.K H a xs):∃its:List Value,l8 xs its/\IsTup s.heap a its.toArray/\xs.length<=sizeLine:=by
 rcases h with h|⟨o,its,n,hk,hc,hs,hz,r⟩
 ·obtain⟨z,its,r,p⟩:=h.ok I.hok;exact⟨its,r,p,z⟩
 ·refine⟨its.toList,r,⟨o,I.kIn a o hk,hc,n,by simpa using hs⟩,?_⟩;have e:=r.length;simp only[aAW]at e
  lia
def Inv.ab9 (I:Inv X pins σ H s)(h:O6 X.K H a xs)(h':O6 X.K H a ys):xs=ys:=by
 obtain⟨its,r,⟨o,n,e,_,_,d⟩,_⟩:=I.list h;obtain⟨its',r',⟨o',n',e',_,_,d'⟩,_⟩:=I.list h';rw[e]at e';cases e';rw[d]at d';injection d' with d1 _;have:its=its':=by simpa using congrArg aFp d1
 subst this;exact r.inj r'
def Inv.ab5 (I:Inv X pins σ H s)(h:X7 X.K H a xs)(h':X7 X.K H a ys):xs=ys:=by
 obtain⟨its,r,⟨o,e,_,n,d⟩,_⟩:=I.tuple h;obtain⟨its',r',⟨o',e',_,n',d'⟩,_⟩:=I.tuple h';rw[e]at e';cases e';rw[d]at d';injection d' with d1 _;have:its=its':=by simpa using congrArg aFp d1
 subst this;exact r.inj r'
end
abbrev Cx.ab1 (X:Cx)(E:F1):Cx:={X with xe:=E}
abbrev Cx.nox (X:Cx):Cx:=X.ab1 λ_ _=>False
def Cx.Ok.ab1 {X:Cx}(ok:X.Ok)(E:F1):(X.ab1 E).Ok:=
 ⟨ok.mod,ok.kind,ok.glob,ok.blt,ok.above,ok.inj,ok.has,ok.cab,ok.hd,ok.frames,ok.stk,ok.exf,ok.bs,ok.bsz,ok.noex,ok.exfs,ok.funs,ok.frf⟩
def Cx.Ok.aa3 {X:Cx}{E:F1}(ok:(X.ab1 E).Ok):X.Ok:=
 ⟨ok.mod,ok.kind,ok.glob,ok.blt,ok.above,ok.inj,ok.has,ok.cab,ok.hd,ok.frames,ok.stk,ok.exf,ok.bs,ok.bsz,ok.noex,ok.exfs,ok.funs,ok.frf⟩
section
variable{X:Cx} {pins:M5} {σ:St} {H:Hp} {s:Shared} {E:F1}
def Inv.ab1 (I:Inv X pins σ H s)(E:F1):Inv (X.ab1 E) pins σ H s:=⟨I.ok.ab1 E,I.os,I.bare,I.base,I.loc,I.cell,I.free,I.freeC,I.pin,I.hok,I.len⟩
def Inv.aa3 (I:Inv (X.ab1 E) pins σ H s):Inv X pins σ H s:=⟨I.ok.aa3,I.os,I.bare,I.base,I.loc,I.cell,I.free,I.freeC,I.pin,I.hok,I.len⟩
def SP.aa3 (h:SP (X.ab1 E) pins D f s'):SP X pins D f s':=by
 cases f with
 |next=>obtain⟨ao,H',I,q⟩:=h;exact⟨ao,H',I.aa3,q⟩
 |brk=>obtain⟨ao,H',I,q⟩:=h;exact⟨ao,H',I.aa3,q⟩
 |cont=>obtain⟨ao,H',I,q⟩:=h;exact⟨ao,H',I.aa3,q⟩
 |ret u=>obtain⟨v,ao,H',I,r,q⟩:=h;exact⟨v,ao,H',I.aa3,r,q⟩
def uF.nox {st:List Stmt}{t:TS}(h:uF X.nox st t):uF X st t:=λpins s σ H D I hw=>aBG (h pins s σ H D (I.ab1 _) hw) (λ_ _ q=>q.aa3) λ_ _ z=>aAg z
end
section
variable{X:Cx} {st:Stmt} {rest:List Stmt} {t u:TS} {e:Expr} {te:TE} {pos:Pos}
def uz:TS:=λD σ H=>D.nx σ H
def a3d (t u:TS):TS:=λD σ H=>t {D with nx:=u D} σ H
def SJ:uF X [] uz:=λ_ _ σ H _ I h=>aDE ⟨σ,H,I,h⟩
def OP (h1:PS X st t)(h2:uF X rest u):uF X (st::rest) (a3d t u):=by
 intro pins s σ H D I h;refine aCF (D4 (h1 pins s σ H {D with nx:=u D} I h) λf s1 q=>?_);cases f with
 |next=>obtain⟨ao,H',I',q⟩:=q;exact h2 pins s1 ao H' D I' q
 |ret v=>exact q
 |brk=>exact q
 |cont=>exact q
def FN (h1:PS X st t):uF X [st] t:=by
 intro pins s σ H D I h;refine aCF (D4 (h1 pins s σ H D I h) λf s1 q=>?_);cases f with
 |next=>exact aDE q
 |ret v=>exact q
 |brk=>exact q
 |cont=>exact q
def Inv.quiet (I:Inv X pins σ H s):interactive X.env=false:=by simp[interactive,I.ok.kind]
def iy (te:TE):TS:=λD σ H=>te σ H λ_ H1=>D.nx σ H1
def nF (he:PE X e te)(hs:swapsWith e none pos.line X.env=pure false:=by rfl):PS X (.Expr e pos) (iy te):=by intro pins s σ H D I h;exact aFJ (D4 (he pins s σ H _ I h) λv s1 ⟨x,H1,I1,r1,q1⟩=>⟨σ,H1,I1,q1⟩) I.quiet hs
def a2j (te:TE):TS:=λD σ H=>te σ H D.rt
def NG (he:PE X e te):PS X (.Return (some e) pos) (a2j te):=by intro pins s σ H D I h;exact wpAny_Return_some (D4 (he pins s σ H _ I h) λv s1 ⟨x,H1,I1,r1,q1⟩=>⟨x,σ,H1,I1,r1,q1⟩)
def a1n (c:TT)(t u:TS):TS:=λD σ H=>c σ H λb H1=>if b=true then t D σ H1 else u D σ H1
def yw {c:Expr}{a b:List Stmt}{tc:TT}(hc:PT X c tc)(ha:uF X a t)(hb:uF X b u):PS X (.If c a b pos) (a1n tc t u):=by
 intro pins s σ H D I h;refine wpAny_If (D4 (hc pins s σ H _ I h) λd s1 ⟨H1,I1,q1⟩=>?_);cases d with
 |true=>exact ha pins s1 σ H1 D I1 q1
 |false=>exact hb pins s1 σ H1 D I1 q1
def XG:TS:=λ_ _ _=>False
def NJ:PS X st XG:=λ_ _ _ _ _ _ h=>h.elim
end
abbrev TG:=V->St->Hp->(St->Hp->Prop)->Prop
abbrev XT:=List V->St->Hp->(St->Hp->Prop)->Prop
def PG (X:Cx)(target:Expr)(t:TG):Prop:=
 ∀(pins:M5) (s:Shared) (σ:St) (H:Hp) (v:V) (u:Value) (Q:St->Hp->Prop),Inv X pins σ H s->RelV v u->t v σ H Q->
  wpAny (model X.prog X.w) X.A (assign target X.env u) (λ_ s'=>∃ao H',Inv X pins ao H' s'/\Q ao H') X.xe s
def gx (X:Cx)(ts:List Expr)(t:XT):Prop:=
 ∀(pins:M5) (s:Shared) (σ:St) (H:Hp) (vs:List V) (us:List Value) (Q:St->Hp->Prop),Inv X pins σ H s->l8 vs us->t vs σ H Q->
  wpAny (model X.prog X.w) X.A (assignInOrder ((assignEach ts X.env).map (·.2)) us) (λ_ s'=>∃ao H',Inv X pins ao H' s'/\Q ao H') X.xe s
abbrev SM:=V->V->V->Hp->(Hp->Prop)->Prop
def ZP (X:Cx)(t:SM):Prop:=
 ∀(pins:M5) (s:Shared) (σ:St) (H:Hp) (o i v:V) (ov iv u:Value) (Q:Hp->Prop),Inv X pins σ H s->RelV o ov->RelV i iv->RelV v u->t o i v H Q->
  wpAny (model X.prog X.w) X.A (setItem ov iv u) (λ_ s'=>∃H',Inv X pins σ H' s'/\Q H') X.xe s
section
variable{X:Cx} {pos:Pos}
def WO (i:Nat):TG:=λv σ H Q=>Q (σ.set i<|some v) H
def RI (hN:X.N.Nodup)(hi:X.N[i]?=some x)(hx:Loc X.env.scope x)(hf:X.fn x=true\/X.env.scope.names.lookup x=some .local:=by first|exact .inl rfl|exact .inr rfl|assumption):PG X (.Name x pos) (WO i):=by intro pins s σ H v u Q I r h;exact wpAny_assign_Name (X0 I hN hi hx r (λs' I'=>⟨_,H,I',h⟩) hf)
def a1h:XT:=λvs σ H Q=>vs=[]/\Q σ H
def vz (t:TG)(u:XT):XT:=λvs σ H Q=>∃v r,vs=v::r/\t v σ H λao H'=>u r ao H' Q
def SC:gx X [] a1h:=by intro pins s σ H vs us Q I r h;obtain⟨e,h⟩:=h;subst e;cases r;exact assignInOrder_nil ⟨σ,H,I,h⟩
def OW {e:Expr}{es:List Expr}{t:TG}{u:XT}(h1:PG X e t)(h2:gx X es u)
  (hs:(assignEach (e::es) X.env).map (·.2)=assign e X.env::(assignEach es X.env).map (·.2):=by rfl):gx X (e::es) (vz t u):=by
 intro pins s σ H vs us Q I r h;obtain⟨v,vr,e1,h⟩:=h;subst e1;cases r with
 |cons r rr=>rw[hs];refine assignInOrder_cons (D4 (h1 pins s σ H _ _ _ I r h) λ_ s1 ⟨σ1,H1,I1,q1⟩=>?_);exact h2 pins s1 σ1 H1 _ _ Q I1 rr q1
def a1q (to ti:TE)(t:SM):TG:=λv σ H Q=>to σ H λo H1=>ti σ H1 λi H2=>t o i v H2 λH3=>Q σ H3
def AO {o i:Expr}{to ti:TE}{t:SM}(ho:PE X o to)(hi:PE X i ti)(hs:ZP X t)
  (ha:∀v,assign (.Subscript o i pos) X.env v=(do
   let ov<-holding [v] (eval o X.env)
   let iv<-holding [v,ov] (eval i X.env)
   standAt pos
   holding [v,ov,iv] (setItem ov iv v)
   release [v,ov,iv] []):=by intro _;rfl):PG X (.Subscript o i pos) (a1q to ti t):=by
 intro pins s σ H v u Q I r h;rw[ha];refine aAa (aAO<|D4 (ho pins s σ H _ I h) λov s1 ⟨x,H1,I1,r1,q1⟩=>?_);refine aAa (aAO<|D4 (hi pins s1 σ H1 _ I1 q1) λiv s2 ⟨y,H2,I2,r2,q2⟩=>?_);refine aAa (aFa<|aAa<|aAO<|D4 (hs pins s2 σ H2 x y v ov iv u _ I2 r1 r2 r q2) λ_ s3 ⟨H3,I3,q3⟩=>?_);exact wpAny_release ⟨σ,H3,I3,q3⟩
def mj (te:TE)(g:TG):TS:=λD σ H=>te σ H λx H1=>g x σ H1 D.nx
def BI {tg e:Expr}{te:TE}{g:TG}(he:PE X e te)(hg:PG X tg g)(hs:swapsWithSole [tg] e pos.line X.env=pure false:=by rfl)(hw:swappedStores [tg] e X.env=pure none:=by rfl)
  (h1:(assignEach [tg] X.env).map (·.2)=[assign tg X.env]:=by rfl):PS X (.Assign [tg] e pos) (mj te g):=by
 intro pins s σ H D I h;refine wpAny_Assign_stores (D4 (he pins s σ H _ I h) λv s1 ⟨x,H1,I1,r1,q1⟩=>?_) hs hw;rw[h1];exact D4 (hg pins s1 σ H1 x v _ I1 r1 q1) λ_ s2 q=>q
def NC {i:Nat}{x:Str}{e:Expr}{te:TE}{pos':Pos}(hN:X.N.Nodup)(hi:X.N[i]?=some x)(hx:Loc X.env.scope x)(he:PE X e te)(hs:swapsWith e (some (.Name x pos')) pos.line X.env=pure false:=by rfl)(hf:X.fn x=true\/X.env.scope.names.lookup x=some .local:=by first|exact .inl rfl|exact .inr rfl|assumption):
  PS X (.Assign [.Name x pos'] e pos) (mj te (WO i)):=by
 intro pins s σ H D I h;refine aEP (D4 (he pins s σ H _ I h) λv s1 ⟨y,H1,I1,r1,q1⟩=>?_) hs;exact X0 I1 hN hi hx r1 (λs2 I2=>⟨_,H1,I2,q1⟩) hf
end
section
variable{X:Cx} {pos:Pos}
def aw (c:TT)(tb:TS):TS:=λD σ H=>∃W:Nat->St->Hp->Prop,(∃m,W m σ H)/\∀m σ H,W m σ H->
 c σ H λb H1=>if b=true then∃N:St->Hp->Prop,(∀ao H',N ao H'->∃m',m'<m/\W m' ao H')/\tb {D with nx:=N,ct:=N,bk:=D.nx} σ H1 else D.nx σ H1
def QT {c:Expr}{body:List Stmt}{tc:TT}{tb:TS}(hp:PassesOwn (model X.prog X.w) X.A X.env X.xe)(hc:PT X c tc)(hb:uF X body tb):PS X (.While c body [] pos) (aw tc tb):=by
 intro pins s σ H D I h;obtain⟨W,⟨m0,w0⟩,turn⟩:=h;refine wpAny_While (codeAny_whileLoop (λn s'=>∃ao H',Inv X pins ao H' s'/\W n ao H') ?_ m0 ⟨σ,H,I,w0⟩);rintro n s1 ⟨σ1,H1,I1,w1⟩;refine aCO hp (D4 (hc pins s1 σ1 H1 _ I1<|turn n σ1 H1 w1) λb s2 ⟨H2,I2,q2⟩=>?_);cases b with
 |true=>
  obtain⟨N,hN,q2⟩:=q2;rw[if_pos rfl];refine aCO hp (D4 (hb pins s2 σ1 H2 _ I2 q2) λf s3 q3=>?_);cases f with
  |next=>obtain⟨ql,H3,I3,n3⟩:=q3;obtain⟨m',hm,w3⟩:=hN ql H3 n3;exact⟨m',hm,ql,H3,I3,w3⟩
  |cont=>obtain⟨ql,H3,I3,n3⟩:=q3;obtain⟨m',hm,w3⟩:=hN ql H3 n3;exact⟨m',hm,ql,H3,I3,w3⟩
  |brk=>exact q3
  |ret v=>exact q3
 |false=>rw[if_neg aAL];exact aDE ⟨σ1,H2,I2,q2⟩
end
structure It where
 go:Nat->Hp->Prop
 yld:Nat->Hp->V->Hp->Prop
 stop:Nat->Hp->Prop
def qV (X:Cx)(pins:M5)(H:Hp)(b:Addr):Prop:=
 H b=none/\b≠X.env.locals/\b∉X.fs/\(b∈X.ex\/X.se.heap.objs.size<=b)/\(∀x c,X.env.cells.lookup x=some c->c≠b)/\∀p∈X.pn++pins,p.1≠b
def Inv.af3 (I:Inv X pins σ H s)(hb:s.heap.objs.size<=b)(hn:H' b=none):qV X pins H' b:=by
 refine⟨hn,aDk (aAq I.lt hb),I.ag4 hb,.inr (aAr I.sz hb),λx c e z=>?_,λp hp z=>?_⟩
 ·obtain⟨v,q⟩:=I.cell x c e;exact absurd (aAq q.lt (by rw[z];exact hb)) (aBc _)
 ·exact absurd (aAq (aAf (I.pin p hp).1) (by rw[z];exact hb)) (aBc _)
structure Turn (P:Program)(w:World)(K:PySem.W.Frag)(tg:Expr)(J:It)(fp:List Addr)(it:Addr)(tn:Nat->Heap->Prop):Prop where
 mem:it∈fp
 obj:∀i h,tn i h->∀b∈fp,∃o,h.get? b=some o/\∀v,o.data≠.cell v
 keep:∀i h h',tn i h->(∀b∈fp,∀o,h.get? b=some o->h'.get? b=some o)->tn i h'
 item:∀(X:Cx),X.prog=P->X.w=w->X.K=K->X.calm=true->∀(i:Nat) (pins:M5) (s:Shared) (σ:St) (H:Hp) (E:F1),Inv X pins σ H s->(∀b∈fp,qV X pins H b)->tn i s.heap->J.go i H->
  wpAny (model P w) X.A (pyNext (.ref it)) (λr s1=>∃u,r=some u/\
   wpAny (model P w) X.A (letOwnedTupleGo tg (.ref it) u) (λ_ s2=>∃x H',Inv X pins σ H' s2/\RelV x u/\J.yld i H x H'/\tn (i+1) s2.heap/\∀b∈fp,H' b=none) E s1) E s
 done:∀(X:Cx),X.prog=P->X.w=w->X.K=K->X.calm=true->∀(i:Nat) (pins:M5) (s:Shared) (σ:St) (H:Hp) (E:F1),Inv X pins σ H s->(∀b∈fp,qV X pins H b)->tn i s.heap->J.stop i H->
  wpAny (model P w) X.A (pyNext (.ref it)) (λr s1=>r=none/\Inv X pins σ H s1) E s
 self:∀(A:Around) (i:Nat) (s:Shared) (Q:F1) (E:F1),tn i s.heap->Q (.ref it) s->wpAny (model P w) A (pyIter (.ref it)) Q E s
abbrev TI:=St->Hp->(It->Hp->Prop)->Prop
def PIE (X:Cx)(pins:M5)(σ:St)(tg:Expr)(R:It->Hp->Prop)(itv:Value)(s2:Shared):Prop:=
 ∃(it:Addr) (fp:List Addr) (tn:Nat->Heap->Prop) (J:It) (H':Hp),itv=.ref it/\Inv X pins σ H' s2/\Turn X.prog X.w X.K tg J fp it tn/\tn 0 s2.heap/\(∀b∈fp,qV X pins H' b)/\R J H'
def PI (X:Cx)(tg C8:Expr)(wi:TI):Prop:=
 ∀(pins:M5) (s:Shared) (σ:St) (H:Hp) (R:It->Hp->Prop),Inv X pins σ H s->wi σ H R->
  wpAny (model X.prog X.w) X.A (eval C8 X.env) (λv s1=>wpAny (model X.prog X.w) X.A (pyIter v) (PIE X pins σ tg R) X.xe s1) X.xe s
def LZ {E : Value → Shared → Prop} {Q : Unit → Shared → Prop} (ho : s.heap.get? it = some o) (hc : o.cls = .type n) (hd : o.data = .fields vs) (hn : ["enumerate", "zip", "dict_itemiterator", "dict_reverseitemiterator", "odict_iterator", "itertools.zip_longest", "itertools.pairwise"].contains n = false) (hQ : Q () s) : wpAny M A (letOwnedTupleGo tg (.ref it) u) Q E s := by
  unfold letOwnedTupleGo;cases tg <;> first
    | exact aAb hQ
    | (cases u <;> first
        | exact aAb hQ
        | (refine aAa (wpAny_load ho ?_)
           rw [hc, hd];show wpAny M A (if (["enumerate", "zip", "dict_itemiterator", "dict_reverseitemiterator", "odict_iterator", "itertools.zip_longest", "itertools.pairwise"].contains n && vs[0]? == some (rawInt _)) = true then _ else _) Q E s;rw [if_neg (by intro h; rw [hn, Bool.false_and] at h; cases h)];exact aAb hQ))
def Itl (K:PySem.W.Frag)(a:Addr):It:=
 ⟨λi H=>∃xs x,O6 K H a xs/\xs[i]?=some x,λi H x H'=>H'=H/\∀xs,O6 K H a xs->xs[i]?=some x,λi H=>∃xs,O6 K H a xs/\xs.length<=i⟩
def Itt (K:PySem.W.Frag)(a:Addr):It:=
 ⟨λi H=>∃xs x,X7 K H a xs/\xs[i]?=some x,λi H x H'=>H'=H/\∀xs,X7 K H a xs->xs[i]?=some x,λi H=>∃xs,X7 K H a xs/\xs.length<=i⟩
def HU {P:Program}{w:World}{K:PySem.W.Frag}{tg:Expr}(a it:Addr):Turn P w K tg (Itl K a) [it] it (λi h=>h.IsListIter it a i)where
 mem:=by simp
 obj:=λi h st b hb=>by
  have e:b=it:=by simpa using hb
  subst e;obtain⟨o,e,c,d⟩:=st;exact⟨o,e,λv z=>by rw[d]at z;cases z⟩
 keep:=λi h h' st k=>st.at λo e=>k it (by simp) o e
 item:=by intro X hP hw hK hc i pins s σ H E I hf st hg;subst hP hw hK;obtain⟨xs,x,hq,hx⟩:=hg;obtain⟨its,rv,p,hz⟩:=I.list hq;obtain⟨u,hu,ru⟩:=rv.get hx;obtain⟨f0,f1,f2,f3,f4,f5⟩:=hf it (by simp);refine wpAny_pyNext_list_item st p.isList (x:=u) (by simpa using hu) λh' st' sb=>?_;have I1:Inv X pins σ H {s with heap:=h'}:=I.turned (t':=s.toks) (λb o hb e=>(sb.2 b hb).trans e) f0 f1 f3 f4 f5;obtain⟨o,e,c,d⟩:=id st';exact⟨u,rfl,LZ (s:={s with heap:=h'}) e c d (by decide) ⟨x,H,I1,ru,⟨rfl,λys hy=>by rw[I.ab9 hy hq];exact hx⟩,st',λb hb=>(hf b hb).1⟩⟩
 done:=by intro X hP hw hK hc i pins s σ H E I hf st hg;subst hP hw hK;obtain⟨xs,hq,hx⟩:=hg;obtain⟨its,rv,p,hz⟩:=I.list hq;obtain⟨f0,f1,f2,f3,f4,f5⟩:=hf it (by simp);have hl:=rv.length;exact wpAny_pyNext_list_end (I.ok.hd hc) st p.isList (by simp;lia) λh' eb=>⟨rfl,I.turned (t':=s.toks) (λb o hb e=>eb b o hb e) f0 f1 f3 f4 f5⟩
 self:=λ_ _ _ _ _ st h=>wpAny_pyIter_listiter st h
def AJ {P:Program}{w:World}{K:PySem.W.Frag}{tg:Expr}(a it:Addr):Turn P w K tg (Itt K a) [it] it (λi h=>h.IsTupleIter it a i)where
 mem:=by simp
 obj:=λi h st b hb=>by
  have e:b=it:=by simpa using hb
  subst e;obtain⟨o,e,c,d⟩:=st;exact⟨o,e,λv z=>by rw[d]at z;cases z⟩
 keep:=λi h h' st k=>st.at λo e=>k it (by simp) o e
 item:=by intro X hP hw hK hc i pins s σ H E I hf st hg;subst hP hw hK;obtain⟨xs,x,hq,hx⟩:=hg;obtain⟨its,rv,p,hz⟩:=I.tuple hq;obtain⟨u,hu,ru⟩:=rv.get hx;obtain⟨f0,f1,f2,f3,f4,f5⟩:=hf it (by simp);refine wpAny_pyNext_tuple_item st (show s.heap.IsTuple a its.toArray from p) (x:=u) (by simpa using hu) λh' st' sb=>?_;have I1:Inv X pins σ H {s with heap:=h'}:=I.turned (t':=s.toks) (λb o hb e=>(sb.2 b hb).trans e) f0 f1 f3 f4 f5;obtain⟨o,e,c,d⟩:=id st';exact⟨u,rfl,LZ (s:={s with heap:=h'}) e c d (by decide) ⟨x,H,I1,ru,⟨rfl,λys hy=>by rw[I.ab5 hy hq];exact hx⟩,st',λb hb=>(hf b hb).1⟩⟩
 done:=by intro X hP hw hK hc i pins s σ H E I hf st hg;subst hP hw hK;obtain⟨xs,hq,hx⟩:=hg;obtain⟨its,rv,p,hz⟩:=I.tuple hq;obtain⟨f0,f1,f2,f3,f4,f5⟩:=hf it (by simp);have hl:=rv.length;exact wpAny_pyNext_tuple_end (I.ok.hd hc) st (show s.heap.IsTuple a its.toArray from p) (by simp;lia) λh' eb=>⟨rfl,I.turned (t':=s.toks) (λb o hb e=>eb b o hb e) f0 f1 f3 f4 f5⟩
 self:=λ_ _ _ _ _ st h=>wpAny_pyIter_tupleiter st h
end L2
namespace L2
open PySem PySem.Spec PyProof.Rows
section
variable{X:Cx} {tg:Expr}
def kj (K:PySem.W.Frag)(tl:TE):TI:=λσ H R=>tl σ H λx H1=>∃a,x=.ref a/\(∃xs,O6 K H1 a xs)/\R (Itl K a) H1
def a2a (K:PySem.W.Frag)(tl:TE):TI:=λσ H R=>tl σ H λx H1=>∃a,x=.ref a/\(∃xs,X7 K H1 a xs)/\R (Itt K a) H1
def UQ (hl:PE X l tl):PI X tg l (kj X.K tl):=by
 intro pins s σ H R I h;refine D4 (hl pins s σ H _ I h) λv s1 ⟨x,H1,I1,r1,q1⟩=>?_;obtain⟨a,e,⟨xs,hq⟩,q⟩:=q1;subst e;cases r1;obtain⟨its,rv,p,hz⟩:=I1.list hq;refine aCP p.isList ?_;refine⟨s1.heap.objs.size,[s1.heap.objs.size],_,_,H1,rfl,I1.kept (t':=s1.toks) λb o e=>aAc _ e,HU a _,⟨_,aAn _ rfl,rfl,rfl⟩,λb hb=>?_,q⟩;have e:b=s1.heap.objs.size:=by simpa using hb
 subst e;exact I1.af3 (aAh _) (I1.hok.fresh<|aAh _)
def XQ {l:Expr}{tl:TE}(hl:PE X l tl):PI X tg l (a2a X.K tl):=by
 intro pins s σ H R I h;refine D4 (hl pins s σ H _ I h) λv s1 ⟨x,H1,I1,r1,q1⟩=>?_;obtain⟨a,e,⟨xs,hq⟩,q⟩:=q1;subst e;cases r1;obtain⟨its,rv,p,hz⟩:=I1.tuple hq;refine wpAny_pyIter_tuple (show s1.heap.IsTuple a its.toArray from p) ?_;refine⟨s1.heap.objs.size,[s1.heap.objs.size],_,_,H1,rfl,I1.kept (t':=s1.toks) λb o e=>aAc _ e,AJ a _,⟨_,aAn _ rfl,rfl,rfl⟩,λb hb=>?_,q⟩;have e:b=s1.heap.objs.size:=by simpa using hb
 subst e;exact I1.af3 (aAh _) (I1.hok.fresh<|aAh _)
def a2k (wi:TI)(g:TG)(tb:TS):TS:=λD σ H=>wi σ H λJ H1=>∃W:Nat->Nat->St->Hp->Prop,(∃m,W 0 m σ H1)/\∀i m σ H,W i m σ H->
 (J.stop i H/\D.nx σ H)\/(J.go i H/\∃N:St->Hp->Prop,(∀ao H',N ao H'->∃m',m'<m/\W (i+1) m' ao H')/\∀x H',J.yld i H x H'->g x σ H' λwm H2=>tb {D with nx:=N,ct:=N,bk:=D.nx} wm H2)
def oQ (fp:List Addr)(h:Heap):List (Addr×Obj):=fp.filterMap λb=>(h.get? b).map λo=>(b,o)
def bH (hb:b∈fp)(e:h.get? b=some o):(b,o)∈oQ fp h:=aBE.mpr ⟨b,hb,by rw[e];rfl⟩
def GU (hp:p∈oQ fp h):p.1∈fp/\h.get? p.1=some p.2:=by
 obtain⟨b,hb,e⟩:=aBE.mp hp;cases q:h.get? b with
 |none=>rw[q]at e;cases e
 |some o=>rw[q]at e;have e':(b,o)=p:=aAj e;subst e';exact⟨hb,q⟩
def Inv.pinned (I:Inv X pins σ H s)(hf:∀b∈fp,qV X pins H b)(ho:∀b∈fp,∃o,s.heap.get? b=some o/\∀v,o.data≠.cell v):Inv X (pins++oQ fp s.heap) σ H s:=
 I.ad4 λp hp=>(aAH.mp hp).elim (λz=>I.pin p (aAE _ z)) λz=>by obtain⟨hb,e⟩:=GU z;obtain⟨f0,f1,f2,_⟩:=hf p.1 hb;obtain⟨o,e',d⟩:=ho p.1 hb;rw[e]at e';cases e';exact⟨e,f0,f1,f2,d⟩
def Inv.ab2 (I:Inv X (pins++pl) σ H s):Inv X pins σ H s:=I.ad4 λp hp=>I.pin p (aAE _<|aBB _ hp)
def YT (hp:PassesOwn (model X.prog X.w) X.A X.env X.xe)(hc:X.calm=true)(hi:PI X tg C8 wi)(hg:PG X tg g)(hb:uF X body tb)(hs:∀x,foldedSetIterable C8 X.env x=pure x:=by intro _;rfl):PS X (.For tg C8 body [] pos) (a2k wi g tb):=by
 intro pins s σ H D I h;refine wpAny_For (D4 (hi pins s σ H _ I h) λv s1 h1=>D4 h1 λitv s2 h2=>?_) hs;obtain⟨it,fp,tn,J,H2,e,I2,T,lh,f2,W,⟨m0,w0⟩,turn⟩:=h2;subst e;have stat:∀{H':Hp},(∀b∈fp,H' b=none)->∀b∈fp,qV X pins H' b:=λhn b hb=>⟨hn b hb,(f2 b hb).2⟩;refine codeAny_forLoop_any (λn s'=>∃i ao H',Inv X pins ao H' s'/\tn i s'.heap/\(∀b∈fp,H' b=none)/\W i n ao H') ?_ m0 ⟨0,σ,H2,I2,lh,λb hb=>(f2 b hb).1,w0⟩;rintro n s3 ⟨i,ql,H3,I3,st3,fr3,w3⟩;rcases turn i n ql H3 w3 with⟨stop,qn⟩|⟨go,N,hN,step⟩
 ·refine aCO hp (D4 (T.done X rfl rfl rfl hc i pins s3 ql H3 X.xe I3 (stat fr3) st3 stop) λr s4 ⟨hr,I4⟩=>?_);subst hr;exact aDE ⟨ql,H3,I4,qn⟩
 ·refine aCO hp (D4 (T.item X rfl rfl rfl hc i pins s3 ql H3 X.xe I3 (stat fr3) st3 go) λr s4 ⟨u,hr,h4⟩=>?_);subst hr;refine aCO hp (D4 h4 λ_ s5 ⟨x,H5,I5,r5,y5,st5,fr5⟩=>?_);have I5':=I5.pinned (stat fr5) (T.obj _ _ st5);refine aCO hp (D4 (hg _ s5 ql H5 x u _ I5' r5<|step x H5 y5) λ_ s6 ⟨σ6,H6,I6,q6⟩=>?_);refine aCO hp (D4 (hb _ s6 σ6 H6 _ I6 q6) λf s7 q7=>?_);have again:∀{qd:St} {H7:Hp},Inv X (pins++oQ fp s5.heap) qd H7 s7->N qd H7->∃m,m<n/\∃i ao H',Inv X pins ao H' s7/\tn i s7.heap/\(∀b∈fp,H' b=none)/\W i m ao H':=λ{qd H7} I7 n7=>by obtain⟨m',hm,w7⟩:=hN qd H7 n7;refine⟨m',hm,i+1,qd,H7,I7.ab2,T.keep _ _ _ st5 λb hb o e=>(I7.pin (b,o)<|aAE _<|aAE _<|bH hb e).1,λb hb=>?_,w7⟩;obtain⟨o,e,d⟩:=T.obj _ _ st5 b hb;exact(I7.pin (b,o)<|aAE _<|aAE _<|bH hb e).2.1
  cases f with
  |next=>obtain⟨qd,H7,I7,n7⟩:=q7;exact again I7 n7
  |cont=>obtain⟨qd,H7,I7,n7⟩:=q7;exact again I7 n7
  |brk=>obtain⟨qd,H7,I7,q7⟩:=q7;exact⟨qd,H7,I7.ab2,q7⟩
  |ret v=>obtain⟨x7,qd,H7,I7,r7,q7⟩:=q7;exact⟨x7,qd,H7,I7.ab2,r7,q7⟩
end
end L2
namespace L2
open PySem PySem.Spec PyProof.Rows
abbrev R2:=V->V->Hp->VK->Prop
def mE (X:Cx)(f:Value->Value->Sem Value)(r:R2):Prop:=
 ∀(pins:M5) (s:Shared) (σ:St) (H:Hp) (x y:V) (v u:Value) (Q:VK),Inv X pins σ H s->RelV x v->RelV y u->r x y H Q->
  wpAny (model X.prog X.w) X.A (f v u) (EP X pins σ Q) X.xe s
def UnR (X:Cx)(f:Value->Sem Value)(r:V->Hp->VK->Prop):Prop:=
 ∀(pins:M5) (s:Shared) (σ:St) (H:Hp) (x:V) (v:Value) (Q:VK),Inv X pins σ H s->RelV x v->r x H Q->
  wpAny (model X.prog X.w) X.A (f v) (EP X pins σ Q) X.xe s
def pU (X:Cx)(f:Value)(r:List V->Hp->VK->Prop):Prop:=
 ∀(pins:M5) (s:Shared) (σ:St) (H:Hp) (xs:List V) (us:List Value) (Q:VK),Inv X pins σ H s->l8 xs us->r xs H Q->
  wpAny (model X.prog X.w) X.A (call f us) (EP X pins σ Q) X.xe s
def tUn (r:V->Hp->VK->Prop)(ta:TE):TE:=λσ H Q=>ta σ H λx H1=>r x H1 Q
def rI (C:Int->Int->Prop)(g:Int->Int->V):R2:=λx y H Q=>∃i j,x=.int i/\y=.int j/\C i j/\Q (g i j) H
def XE (g:Int->Int->V):R2:=λx y H Q=>∃i j,x=.int i/\y=.int j/\Q (g i j) H
def rU (g:Int->V):V->Hp->VK->Prop:=λx H Q=>∃i,x=.int i/\Q (g i) H
section
variable{X:Cx} {a b c:Expr} {ta tb tc:TE} {pos:Pos}
def HW (ha:PE X a ta)(hb:PE X b tb){pins:M5}{s:Shared}{σ:St}{H:Hp}{R:V->V->Hp->Prop}(I:Inv X pins σ H s)
  (h:ta σ H λx H1=>tb σ H1 λy H2=>R x y H2) {Q:F1} {f:Value->Value->Sem Value}
  (hf:∀v u s2 x y H2,Inv X pins σ H2 s2->RelV x v->RelV y u->R x y H2->wpAny (model X.prog X.w) X.A (f v u) Q X.xe s2):
  wpAny (model X.prog X.w) X.A (eval a X.env) (λv ah=>wpAny (model X.prog X.w) X.A (eval b X.env) (λu ic=>wpAny (model X.prog X.w) X.A (f v u) Q X.xe ic) X.xe ah) X.xe s:=by
 refine D4 (ha pins s σ H _ I h) λv s1 ⟨x,H1,I1,r1,q1⟩=>?_;refine D4 (hb pins s1 σ H1 _ I1 q1) λu s2 ⟨y,H2,I2,r2,q2⟩=>?_;exact hf v u s2 x y H2 I2 r1 r2 q2
def pq {r:V->Hp->VK->Prop}(ho:UnR X (unaryOp op) r)(ha:PE X a ta):PE X (.UnaryOp op a pos) (tUn r ta):=by intro pins s σ H Q I h;exact UnaryOp_ (D4 (ha pins s σ H _ I h) λv s1 ⟨x,H1,I1,r1,q1⟩=>ho pins s1 σ H1 x v Q I1 r1 q1)
def opI {f:Value->Value->Sem Value}{C:Int->Int->Prop}{g:Int->Int->Int}
  (rule:∀(i j:Int) (t u:Tok) (s:Shared) (Q:F1) (E:F1),C i j->Q (.int (g i j) s.toks) {s with toks:=s.toks+1}->wpAny (model X.prog X.w) X.A (f (.int i t) (.int j u)) Q E s):
  mE X f (rI C λi j=>.int (g i j)):=by
 intro pins s σ H x y v u Q I rx ry h;obtain⟨i,j,rfl,rfl,hc,q⟩:=h;obtain⟨t,rfl⟩:=rx;obtain⟨t',rfl⟩:=ry;exact rule i j t t' s _ _ hc ⟨.int (g i j),H,I.tok _,⟨_,rfl⟩,q⟩
def tj {f:Value->Value->Sem Value}{g:Int->Int->Int}
  (rule:∀(i j:Int) (t u:Tok) (s:Shared) (Q:F1) (E:F1),Q (.int (g i j) s.toks) {s with toks:=s.toks+1}->wpAny (model X.prog X.w) X.A (f (.int i t) (.int j u)) Q E s):
  mE X f (XE λi j=>.int (g i j)):=by
 intro pins s σ H x y v u Q I rx ry h;obtain⟨i,j,rfl,rfl,q⟩:=h;obtain⟨t,rfl⟩:=rx;obtain⟨t',rfl⟩:=ry;exact rule i j t t' s _ _ ⟨.int (g i j),H,I.tok _,⟨_,rfl⟩,q⟩
def ZZ {f:Value->Value->Sem Value}{g:Int->Int->Bool}
  (rule:∀(i j:Int) (t u:Tok) (s:Shared) (Q:F1) (E:F1),Q (.bool (g i j)) s->wpAny (model X.prog X.w) X.A (f (.int i t) (.int j u)) Q E s):
  mE X f (XE λi j=>.bl (g i j)):=by
 intro pins s σ H x y v u Q I rx ry h;obtain⟨i,j,rfl,rfl,q⟩:=h;obtain⟨t,rfl⟩:=rx;obtain⟨t',rfl⟩:=ry;exact rule i j t t' s _ _ ⟨.bl (g i j),H,I,rfl,q⟩
def a3a (i j:Int):Prop:=0<=j/\j<=1000000/\i.natAbs<2^64
def a5f (i j:Int):Prop:=(-(2^64)<i/\i<2^64)\/(-(2^64)<j/\j<2^64)
def YC:mE X (binaryOp .Add) (XE λi j=>.int (i+j)):=tj λ_ _ _ _ _ _ _ q=>add_int q
def ZM:mE X (binaryOp .Sub) (XE λi j=>.int (i-j)):=tj λ_ _ _ _ _ _ _ q=>sub_int q
def VR:mE X (binaryOp .Mod) (rI (λ_ j=>j≠0) λi j=>.int (i.fmod j)):=opI λ_ _ _ _ _ _ _ hc q=>mod_int' hc q
def XV:mE X (binaryOp .Pow) (rI a3a λi j=>.int (i^j.toNat)):=opI λ_ _ _ _ _ _ _ hc q=>pow_int_small hc.1 hc.2.1 hc.2.2 q
def unI {f:Value->Sem Value}{g:Int->Int}
  (rule:∀(i:Int) (t:Tok) (s:Shared) (Q:F1) (E:F1),Q (.int (g i) s.toks) {s with toks:=s.toks+1}->wpAny (model X.prog X.w) X.A (f (.int i t)) Q E s):
  UnR X f (rU λi=>.int (g i)):=by
 intro pins s σ H x v Q I rx h;obtain⟨i,rfl,q⟩:=h;obtain⟨t,rfl⟩:=rx;exact rule i t s _ _ ⟨.int (g i),H,I.tok _,⟨_,rfl⟩,q⟩
def ZW:UnR X (unaryOp .USub) (rU λi=>.int (-i)):=unI λ_ _ _ _ _ q=>neg_int q
end
section
variable{X:Cx} {a b c:Expr} {ta tb tc:TE} {pos:Pos}
def ay (I:Inv X pins σ H s)(q:Q (.bl k) H)(e:k=k'):EP X pins σ Q (.bool k') s:=by subst e;exact⟨.bl k,H,I,rfl,q⟩
def zj:mE X (compareOp .Lt) (XE λi j=>.bl (decide (i<j))):=ZZ λ_ _ _ _ _ _ _ q=>lt_int q
def uw:mE X (compareOp .LtE) (XE λi j=>.bl (decide (i<=j))):=ZZ λ_ _ _ _ _ _ _ q=>le_int q
def qx:mE X (compareOp .Gt) (XE λi j=>.bl (decide (j<i))):=ZZ λ_ _ _ _ _ _ _ q=>gt_int q
def XX:mE X (compareOp .Is) (λx y H Q=>y=.non/\Q (.bl (decide (x=.non))) H):=by
 intro pins s σ H x y v u Q I rx ry h;obtain⟨rfl,q⟩:=h;cases ry;refine is_none_gen (ay I q ?_);cases x<;>first
  |(cases rx;rfl)
  |(obtain⟨t,rfl⟩:=rx;rfl)
def NS (b:Expr)(h:op≠.In:=by decide)(h2:op≠.NotIn:=by decide):behindInMarks op b=false:=by
 have e1:(op==CmpOp.In)=false:=by cases op<;>first|rfl|exact absurd rfl h
 have e2:(op==CmpOp.NotIn)=false:=by cases op<;>first|rfl|exact absurd rfl h2
 cases b<;>simp[behindInMarks,e1,e2]
def vG:(sizeLine:Nat)<2^63:=by rw[aEj];decide
def vals1 (r:l8 [x] us):∃u,us=[u]/\RelV x u:=by
 cases r with
 |cons r1 r2=>cases r2;exact⟨_,rfl,r1⟩
def vals2 (r:l8 [x,y] us):∃u w',us=[u,w']/\RelV x u/\RelV y w':=by
 cases r with
 |cons r1 r2=>
  cases r2 with
  |cons r3 r4=>cases r4;exact⟨_,_,rfl,r1,r3⟩
def KG:pU X (.builtin "abs") (λxs H Q=>∃i,xs=[.int i]/\Q (.int (if i<0 then-i else i)) H):=by intro pins s σ H xs us Q I r h;obtain⟨i,rfl,q⟩:=h;obtain⟨u,rfl,t,rfl⟩:=vals1 r;exact call_abs_int λu tk=>⟨.int (if i<0 then-i else i),H,I.tok _,⟨_,rfl⟩,q⟩
def GX (hc:X.calm=true):pU X (.builtin "max") (λxs H Q=>∃i j,xs=[.int i,.int j]/\Q (.int (if j>i then j else i)) H):=by
 intro pins s σ H xs us Q I r h;obtain⟨i,j,rfl,q⟩:=h;obtain⟨u,w',rfl,⟨t,rfl⟩,⟨t',rfl⟩⟩:=vals2 r;refine max_two_ints (I.ok.hd hc) λh' tk k=>⟨_,H,I.kept k,?_,q⟩;by_cases hj:j>i
 ·rw[if_pos hj,if_pos hj];exact⟨_,rfl⟩
 ·rw[if_neg hj,if_neg hj];exact⟨_,rfl⟩
def HR (hc:X.calm=true):pU X (.builtin "min") (λxs H Q=>∃i j,xs=[.int i,.int j]/\Q (.int (if j<i then j else i)) H):=by
 intro pins s σ H xs us Q I r h;obtain⟨i,j,rfl,q⟩:=h;obtain⟨u,w',rfl,⟨t,rfl⟩,⟨t',rfl⟩⟩:=vals2 r;refine min_two_ints (I.ok.hd hc) λh' tk k=>⟨_,H,I.kept k,?_,q⟩;by_cases hj:j<i
 ·rw[if_pos hj,if_pos hj];exact⟨_,rfl⟩
 ·rw[if_neg hj,if_neg hj];exact⟨_,rfl⟩
end
end L2
namespace L2
open PySem PySem.Spec PyProof.Rows
structure ObjM (h:Heap)(x dx C:Addr)(mA:Y0):Prop where
 obj:h.get? x=some (PySem.W.instObj C dx)
 ns:h.Ns1 dx mA
 ne:dx≠x
section
variable{prog:Program} {w:World} {A:Around} {E:F1} {s:Shared} {K:PySem.W.Frag} {x dx C f:Addr} {mA:Y0} {name:Str} {v:Value}
end
section
variable{P:Program} {w:World} {H H':Hp} {h h':Heap} {a C dx:Addr} {fs yf:List (Str×V)}
end
structure Cls (K:PySem.W.Frag)(C:Addr):Prop where
 pg:PySem.W.plainGet K C Str.empty=true
 hd:PySem.W.hasDictIn K C=true
 po:PySem.W.plainOver K C=true
 sa:PySem.W.findIn K (.ref C) "__setattr__"=some (some (.builtin "object.__setattr__"))
section
variable{X:Cx} {pins:M5} {σ:St} {H:Hp} {s:Shared} {a C dx:Addr} {fs:List (Str×V)} {f:Str} {v:V} {A:Around} {E:F1}
end
section
variable{X:Cx} {o e value:Expr} {f:Str} {pos pos' tpos:Pos} {ta tv:TE}
end
section
variable{X:Cx} {pins:M5} {σ:St} {H:Hp} {s:Shared} {A:Around} {E:F1} {Q:F1} {c:Value} {b:Bool}
end
end L2
namespace L2
open PySem PySem.Spec PyProof.Rows
structure Room (k:Nat)(A:Around):Prop where
 hd:A.handled=none
 dp:A.depth+3*k+5<recursionLimit
 un:A.units+16*k+200<cLine
def Room.mono (r:Room k A)(h:j<=k):Room j A:=⟨r.hd,by have:=r.dp;lia,by have:=r.un;lia⟩
def Room.deeper (r:Room (k+1) A)(env:Env):Room k (A.deeper env):=
 ⟨r.hd,by have:=r.dp;show A.depth+1+3*k+5<_;lia,by have:=r.un;show A.units+3+16*k+200<_;lia⟩
def Room.depth (r:Room k A):A.depth<recursionLimit:=by have:=r.dp;lia
def Room.units (r:Room k A):A.units+64<cLine:=by have:=r.un;lia
def a2t:TA:=λ_ H Q=>Q [] H
def my (ta:TE)(tr:TA):TA:=λσ H Q=>ta σ H λx H1=>tr σ H1 λxs H2=>Q (x::xs) H2
section
variable{X:Cx} {e:Expr} {es:List Expr} {te:TE} {t:TA} {pos:Pos}
def cC:PA X [] a2t:=λ_ _ _ _ H Q I h=>aEQ ⟨[],H,I,.nil,h⟩
def J8 (ha:PE X e te)(hr:PA X es t)(hs:starEach (e::es) X.env=(false,eval e X.env)::starEach es X.env:=by rfl):PA X (e::es) (my te t):=by intro pos pins s σ H Q I h;rw[hs];show wpAny _ _ (spliced ((false,eval e X.env)::backTo pos (starEach es X.env))) _ _ s;refine aEC (D4 (ha pins s σ H _ I h) λu s1 ⟨x,H1,I1,r1,q1⟩=>?_);exact D4 (hr pos pins s1 σ H1 _ I1 q1) λus s2 ⟨xs,H2,I2,r2,q2⟩=>⟨x::xs,H2,I2,.cons r1 r2,q2⟩
def a1l (t:TA):TE:=λσ H Q=>t σ H λxs H1=>xs.length<=sizeLine/\∀p,H1 p=none->Q (.ref p) (upd H1 p<|.tup xs)
def a1s (t:TA):TE:=λσ H Q=>t σ H λxs H1=>xs.length<=sizeLine/\∀p,H1 p=none->Q (.ref p) (upd H1 p<|.lst xs)
def YB {x1}(h:PA X es t):PE X (.Tuple es x1 pos) (a1l t):=by intro pins s σ H Q I hq;refine wpAny_Tuple_spliced (D4 (h pos pins s σ H _ I hq) λus s1 ⟨xs,H1,I1,r,z,q⟩=>⟨by rw[<-r.length];exact z,?_⟩);have hf:H1 s1.heap.objs.size=none:=I1.hok.fresh (aAh _);refine⟨.ref s1.heap.objs.size,upd H1 s1.heap.objs.size (.tup xs),I1.laid (t':=s1.toks) (λb u e=>aAc _ e) (aAh _) ?_,rfl,q _ hf⟩;exact⟨z,us,r,⟨_,aAn _ rfl,rfl,_,rfl⟩⟩
def JS (h:PA X es t):PE X (.List es pos) (a1s t):=by intro pins s σ H Q I hq;refine wpAny_List_spliced (D4 (h pos pins s σ H _ I hq) λus s1 ⟨xs,H1,I1,r,z,q⟩=>⟨by rw[<-r.length];exact z,?_⟩);have hf:H1 s1.heap.objs.size=none:=I1.hok.fresh (aAh _);refine⟨.ref s1.heap.objs.size,upd H1 s1.heap.objs.size (.lst xs),I1.laid (t':=s1.toks) (λb u e=>aAc _ e) (aAh _) ?_,rfl,q _ hf⟩;exact⟨z,us,0,r,aAn _ rfl⟩
end
abbrev Sp:=List V->Hp->VK->XK->Prop
abbrev OK:=List Env->Hp->Shared->XK->Value->Shared->Prop
structure Env0 (P:Program)(w:World)(K:PySem.W.Frag)(mg:Y0)(base:Heap)(A:Around)(outer:List Env)(s:Shared)(H:Hp):Prop where
 frames:A.frames=some outer
 mod:Mod K mg base
 bs:∀b o,base.get? b=some o->s.heap.get? b=some o/\H b=none
 bsz:base.objs.size<=s.heap.objs.size
 funs:s.heap.FunFrames base outer
 frf:∀b∈W4 outer,H b=none
 hok:aM P w H s.heap
 bare:AllBare s.gens
def CE (outer:List Env)(P:Program)(w:World)(H:Hp)(s:Shared)(Q:VK)(u:Value)(s':Shared):Prop:=
 ∃v H',s'.os=s.os/\AllBare s'.gens/\Un (W4 outer) [] H H' s.heap s'.heap/\aM P w H' s'.heap/\RelV v u/\Q v H'
def CR (CX:OK)(outer:List Env)(P:Program)(w:World)(H:Hp)(s:Shared)(Q:VK)(E:XK)(r:Result)(s':Shared):Prop:=
 match r with
 |.ok (.ret u)=>CE outer P w H s Q u s'
 |.ok _=>False
 |.error e=>CX outer H s E e s'
structure FnOk (P:Program)(w:World)(K:PySem.W.Frag)(mg:Y0)(base:Heap)(CX:OK)(k:Nat)(f:Addr)(fd:FuncData)(ps:List Str)(sp:Sp):Prop where
 len:∀vs H Q E,sp vs H Q E->vs.length=ps.length
 run:∀(A:Around) (outer:List Env) (s:Shared) (H:Hp) (args:Args) (us:List Value) (vs:List V) (Q:VK) (E:XK),Room k A->Env0 P w K mg base A outer s H->BindsTo s fd args (ps.zip us)->l8 vs us->sp vs H Q E->
  codeAny (model P w) A (.call (.ref f) args) (CR CX outer P w H s Q E) s
def FnOk.imp {P:Program}{w:World}{K:PySem.W.Frag}{mg:Y0}{base:Heap}{CX:OK}{k:Nat}{f:Addr}{fd:FuncData}{ps:List Str}{sp sp':Sp}(F:FnOk P w K mg base CX k f fd ps sp)
  (h:∀vs H Q E,sp' vs H Q E->sp vs H Q E):FnOk P w K mg base CX k f fd ps sp':=
 ⟨λvs H Q E q=>F.len vs H Q E (h _ _ _ _ q),λA outer s H args us vs Q E hr he hb hv hs=>F.run A outer s H args us vs Q E hr he hb hv (h _ _ _ _ hs)⟩
section
variable{X:Cx} {pins:M5} {σ:St} {H:Hp} {s s':Shared}
def Inv.ae9 (I:Inv X pins σ H s):Env0 X.prog X.w X.K X.mg X.base X.A X.stack s H:=
 ⟨I.ok.frames,I.ok.mod,I.bs,aAr I.ok.bsz I.sz,I.stack,I.ab7,I.hok,I.bare⟩
def Inv.after (I:Inv X pins σ H s)(h:CE X.stack X.prog X.w H s Q u s'):EP X pins σ Q u s':=by obtain⟨v,H',os,bare,un,hok,r,q⟩:=h;obtain⟨hh,g,d,t,os'⟩:=s';obtain rfl:os'=s.os:=os;exact⟨v,H',I.call (h':=hh) (g':=g) (d':=d) (t':=t) (ch:=[]) un hok bare (λb z=>absurd z (by simp)),r,q⟩
end
def wq (sp:Sp)(dvs:List V)(E:XK)(t:TA):TE:=λσ H Q=>t σ H λvs H1=>sp (vs++dvs) H1 Q E
def Binds (K:PySem.W.Frag)(fd:FuncData)(ps:List Str)(ds:List Value):Prop:=
 ∀(s:Shared) (us:List Value),K.In s.heap->(us++ds).length=ps.length->BindsTo s fd ⟨us,[]⟩ (ps.zip<|us++ds)
def Binds.all {K:PySem.W.Frag}{fd:FuncData}{ps:List Str}(h:∀us:List Value,us.length=ps.length->bindArgs fd ⟨us,[]⟩=pure (ps.zip us)):Binds K fd ps []:=λs us _ hl=>by rw[aBu]at hl⊢;exact .of_eq (h us hl)
def oN (CX:OK)(X:Cx)(E:XK):Prop:=∀(pins:M5) (σ:St) (H:Hp) (s:Shared) (e:Value) (s':Shared),Inv X pins σ H s->CX X.stack H s E e s'->X.xe e s'
section
variable{X:Cx} {CX:OK} {k:Nat} {f C:Addr} {fd:FuncData} {ps:List Str} {sp:Sp} {dvs:List V} {ds:List Value} {E:XK} {x m:Str} {p pos apos:Pos} {e o:Expr} {es:List Expr} {ta:TE} {t:TA}
def XZ (F:FnOk X.prog X.w X.K X.mg X.base CX k f fd ps sp)(hr:Room k X.A)(hb:Binds X.K fd ps ds)(hd:l8 dvs ds)(hx:oN CX X E)(I:Inv X pins σ H s)(r:l8 vs us)(h:sp (vs++dvs) H Q E):wpAny (model X.prog X.w) X.A (call (.ref f) us) (EP X pins σ Q) X.xe s:=by
 have r2:l8 (vs++dvs) (us++ds):=r.append hd;have hl:(us++ds).length=ps.length:=by rw[<-r2.length];exact F.len _ _ _ _ h
 refine aFz (aDl (F.run X.A X.stack s H ⟨us,[]⟩ (us++ds) (vs++dvs) Q E hr I.ae9 (hb s us I.kIn hl) r2 h) λr s' hq=>?_);cases r with
 |error e=>exact hx pins σ H s e s' I hq
 |ok fl=>
  cases fl with
  |ret u=>exact I.after hq
  |next=>exact aAg hq
  |brk=>exact aAg hq
  |cont=>exact aAg hq
def FT (F:FnOk X.prog X.w X.K X.mg X.base CX k f fd ps sp)(hr:Room k X.A)(hg:Gl X x)(hm:X.mg x=some (.ref f))(hk:PySem.W.keepIn X.K (.ref f)=true)(hb:Binds X.K fd ps ds)(hd:l8 dvs ds)(hx:oN CX X E)
  (ha:PA X (e::es) t) (de:(x==("__debug__":Str))=false:=by decide) (he:starEach (e::es) X.env=(false,eval e X.env)::starEach es X.env:=by rfl) (bh:(backTo pos (starEach es X.env)).any (·.1)=false:=by rfl):
  PE X (.Call (.Name x p) (e::es) [] pos) (wq sp dvs E t):=by
 intro pins s σ H Q I h;refine aAP (fI I hg hm ?_ de);refine PySem.W.callWith_K (h₀:=X.base) I.ok.mod.kin hk (D4 (ha pos pins s σ H _ I h) λus s1 ⟨vs,H1,I1,r,q⟩=>⟨I1.kIn,?_⟩) he bh;exact XZ F hr hb hd hx I1 r q
end
section
variable{X:Cx} {CX:OK} {k:Nat} {f C:Addr} {fd:FuncData} {ps ks:List Str} {sp:Sp} {E:XK} {x m:Str} {p pos apos kpos:Pos} {e o:Expr} {es:List Expr} {kws:List Keyword} {te ta:TE} {t tk:TA} {nm:Option Str}
variable{g:List Value->List Value->List Value} {gV:List V->List V->List V}
end
structure FnScope (N P:List Str)(sc:Scope):Prop where
 kind:sc.kind=.function
 co:sc.isCoroutine=false
 gen:sc.isGenerator=false
 nd:N.Nodup
 pre:N.take P.length=P
 par:∀x∈P,sc.names.lookup x=some .local\/sc.names.lookup x=some .cell
 nofree:∀y∈sc.names,y.2≠.free
theorem rS {kindOf:Str->Option NameKind}{x:Str}:∀{binds:List (Str×Value)} {m:Y0},(∀v,(x,v)∉binds)->bindL kindOf binds m x=m x
 |[],_,_=>rfl
 |(n,v)::r,m,h=>by
  unfold bindL;rw[rS λw hw=>h w (aAd _ hw)];split
  ·have:x≠n:=by rintro rfl;exact h v aAK
   simp[this]
  ·rfl
theorem sZ {kindOf:Str->Option NameKind}{x:Str}:∀{binds:List (Str×Value)} {m:Y0},(∀v,(x,v)∉binds)->bindC kindOf binds m x=m x
 |[],_,_=>rfl
 |(n,v)::r,m,h=>by
  unfold bindC;rw[sZ λw hw=>h w (aAd _ hw)];split
  ·rfl
  ·have:x≠n:=by rintro rfl;exact h v aAK
   simp[this]
theorem tW {kindOf:Str->Option NameKind}{x:Str}{v:Value}:∀{P:List Str} {vs:List Value} {i:Nat} {m:Y0},P.Nodup->P[i]?=some x->vs[i]?=some v->kindOf x=some .local->
  bindL kindOf (P.zip vs) m x=some v
 |[],_,_,_,_,h,_,_=>by simp at h
 |_::_,[],_,_,_,_,h,_=>by simp at h
 |p::P,w::vs,0,m,nd,h1,h2,hk=>by simp at h1 h2;subst h1;subst h2;show bindL kindOf ((p,w)::P.zip vs) m p=_;unfold bindL;rw[rS λv hv=>(aAM.mp nd).1 (aEk hv).1,if_pos hk];simp
 |p::P,w::vs,i+1,m,nd,h1,h2,hk=>by show bindL kindOf ((p,w)::P.zip vs) m x=_;unfold bindL;exact tW (i:=i) (aAM.mp nd).2 (by simpa using h1) (by simpa using h2) hk
theorem tO {kindOf:Str->Option NameKind}{x:Str}{v:Value}:∀{P:List Str} {vs:List Value} {i:Nat} {m:Y0},P.Nodup->P[i]?=some x->vs[i]?=some v->kindOf x≠some .local->
  bindC kindOf (P.zip vs) m x=some v
 |[],_,_,_,_,h,_,_=>by simp at h
 |_::_,[],_,_,_,_,h,_=>by simp at h
 |p::P,w::vs,0,m,nd,h1,h2,hk=>by simp at h1 h2;subst h1;subst h2;show bindC kindOf ((p,w)::P.zip vs) m p=_;unfold bindC;rw[sZ λv hv=>(aAM.mp nd).1 (aEk hv).1,if_neg hk];simp
 |p::P,w::vs,i+1,m,nd,h1,h2,hk=>by show bindC kindOf ((p,w)::P.zip vs) m x=_;unfold bindC;exact tO (i:=i) (aAM.mp nd).2 (by simpa using h1) (by simpa using h2) hk
def start (N:List Str)(vs:List V):St:=vs.map some++aAF (N.length-vs.length) none
def uO (CX:OK)(P:Program)(w:World)(K:PySem.W.Frag)(mg:Y0)(base:Heap)(N:List Str)(qual:Str)(scope:Scope)(f:Addr)(cd:Value)(A:Around)(outer:List Env)(s:Shared)(H:Hp)(E:XK):Cx where
 prog:=P
 w:=w
 K:=K
 mg:=mg
 base:=base
 A:=A.deeper (envOfC qual scope s.heap.objs.size f cd)
 N:=N
 se:=s
 Ha:=H
 env:=envOfC qual scope s.heap.objs.size f cd
 outer:=outer
 stack:=envOfC qual scope s.heap.objs.size f cd::outer
 ex:=[]
 calm:=true
 fn:=λ_=>true
 pn:=[]
 xe:=λe s'=>wpAny (model P w) (A.deeper<|envOfC qual scope s.heap.objs.size f cd) (leaving (envOfC qual scope s.heap.objs.size f cd) e) (λ_ s''=>CX outer H s E e s'') (λe' s''=>CX outer H s E e' s'') s'
def yF {sc:Scope}{n:Nat}{x:Str}(h:sc.names.lookup x=some .cell):∃c,(cellsFrom n sc.names []).lookup x=some c:=by have q:=PySem.W.cellsFrom_some sc.names n [] (.inl h);exact aER.mp q
def GP {CX:OK}{P:Program}{w:World}{K:PySem.W.Frag}{mg:Y0}{base:Heap}{N ps:List Str}{qual:Str}{scope:Scope}{f:Addr}{cd:Value}{A:Around}{outer:List Env}{s s1:Shared}{H:Hp}{E:XK}{us:List Value}{vs:List V}
  (S:FnScope N ps scope) (hd:A.handled=none) (e0:Env0 P w K mg base A outer s H) (hl:vs.length=ps.length) (r:l8 vs us)
  (x:InCallC s s.heap.objs.size (bindL (envOfC qual scope s.heap.objs.size f cd).kindOf (ps.zip us) λ_=>none) (cellsFrom (s.heap.objs.size+1) scope.names []) (bindC (envOfC qual scope s.heap.objs.size f cd).kindOf (ps.zip us) λ_=>none) s1):
  Inv (uO CX P w K mg base N qual scope f cd A outer s H E) [] (start N vs) H s1:=by
 have bh:ps.length<=N.length:=by have:=congrArg List.length S.pre;rw[aBl]at this;lia
 obtain⟨h1,tk,rfl,hk⟩:=x.done;have noA:∀b:Addr,b∉(uO CX P w K mg base N qual scope f cd A outer s H E).ex:=λb z=>absurd (show b∈([]:List Addr)from z) (by simp);refine⟨⟨e0.mod,S.kind,rfl,rfl,aAh _,λy z c h1 h2=>?_,λy hy=>?_,λy c _ h=>?_,λ_=>hd,aFB e0.frames,.inr ⟨rfl,rfl⟩,λb z=>absurd z (noA b),e0.bs,e0.bsz,λb _ _=>noA b,λb z=>absurd z (noA b),e0.funs,e0.frf⟩,
  rfl,e0.bare,Un.kept hk,⟨_,x.toInCall.ns,λi y v h1 h2 h3=>?_⟩,λy c h=>⟨_,x.cell y c h⟩,e0.hok.fresh (aAh _),λy c h=>?_,λp hp=>absurd (show p∈([]:M5)from hp) (by simp),e0.hok.kept hk,?_⟩
 ·exact name_of_addr x.apart (PySem.mem_of_lookup h1) (PySem.mem_of_lookup h2)
 ·have hy:scope.names.lookup y=some .cell\/scope.names.lookup y=some .free:=hy;rcases hy with hy|hy
  ·exact yF hy
  ·exact absurd rfl (S.nofree _<|PySem.mem_of_lookup hy)
 ·exact aCV (x.above y c<|PySem.mem_of_lookup h)
 ·have hi:i<vs.length:=by
   unfold start at h2;by_cases hi:i<vs.length
   ·exact hi
   ·rw[aAx (by simpa using hi)]at h2;rw[aBg]at h2;split at h2<;>cases h2
  have ha:vs[i]?=some v:=by
   unfold start at h2;rw[aAR (by simpa using hi),aAN]at h2;cases e:vs[i]? with
   |none=>rw[e]at h2;cases h2
   |some a=>rw[e]at h2;cases h2;rfl
  obtain⟨u,hu,rv⟩:=r.get ha;have hp:ps[i]?=some y:=by rw[<-S.pre,List.getElem?_take_of_lt (by lia)];exact h1
  have ndP:ps.Nodup:=by rw[<-S.pre];exact S.nd.sublist (List.take_sublist _ _)
  refine⟨u,rv,?_⟩;rcases S.par y (aAs hp)with k|k
  ·exact .inl ⟨k,tW ndP hp hu k⟩
  ·obtain⟨c,e⟩:=yF (n:=s.heap.objs.size+1) k;refine .inr ⟨.inl k,c,e,?_⟩;have q:=x.cell y c e;rw[tO ndP hp hu (by show scope.names.lookup y≠_;rw[k];decide)]at q;exact q
 ·exact e0.hok.fresh (aCV<|x.above y c<|PySem.mem_of_lookup h)
 ·unfold start;show _=N.length;rw[aAD,aAm,aCi]
  lia
def KJ {CX:OK}{P:Program}{w:World}{K:PySem.W.Frag}{mg:Y0}{base:Heap}{k:Nat}{f:Addr}{name qual:Str}{params:Arguments}{body:List Stmt}{scope:Scope}{dV kV doc pm cdv ct oc:Value}{an od:Option Addr}
  {osl:Array (Option Value)} {N ps:List Str} {sp:Sp} (lk:K.lookup f=some ⟨oc,od,.func (PySem.W.fnOf name qual params body scope dV kV doc pm an cdv ct),osl⟩) (eu:PySem.W.codeIn K cdv qual=true) (S:FnScope N ps scope)
  (len:∀vs H Q E,sp vs H Q E->vs.length=ps.length)
  (wo:∀(A:Around) (outer:List Env) (s:Shared) (H:Hp) (vs:List V) (Q:VK) (E:XK),Room k (A.deeper (envOfC qual scope s.heap.objs.size f cdv))->sp vs H Q E->
   ∃t,uF (uO CX P w K mg base N qual scope f cdv A outer s H E) body t/\t {nx:=λ_ H'=>Q .non H',rt:=Q} (start N vs) H):
  FnOk P w K mg base CX (k+1) f (PySem.W.fnOf name qual params body scope dV kV doc pm an cdv ct) ps sp:=by
 refine⟨len,λA outer s H args us vs Q E hr e0 hb r hsp=>?_⟩;have hl:=len _ _ _ _ hsp;have KX:K.In s.heap:=e0.mod.kin.keeps λb o e=>(e0.bs b o e).1;have lim:s.heap.NoLimit:=e0.mod.nolimit.keeps λb o e=>(e0.bs b o e).1;have om:∀y∈ps.zip us,scope.names.lookup y.1=some .local\/(scope.names.lookup y.1=some .cell/\((cellsFrom (s.heap.objs.size+1) scope.names []).lookup y.1).isSome=true):=λ⟨n,v⟩ hy=>by
  rcases S.par n (aEk hy).1 with q|q
  ·exact .inl q
  ·exact .inr ⟨q,PySem.W.cellsFrom_some _ _ _ (.inl q)⟩
 refine codeAny_call_function hr.depth (KX _ _ lk) rfl S.co S.gen rfl (PySem.W.codeRec_of KX eu) (hb _ _ _ _ ?_);refine wpAny_newFunctionEnv_cells S.kind om λenv he s1 x=>?_;subst he;refine⟨lim.keeps x.toInCall.keep,codeAny_func ?_⟩;obtain⟨t,ht,hq⟩:=wo A outer s H vs Q E (hr.deeper _) hsp;have I:Inv (uO CX P w K mg base N qual scope f cdv A outer s H E) [] (start N vs) H s1:=GP S hr.hd e0 hl r x;refine aBG (ht [] s1 (start N vs) H _ I hq) (λfl s' hs=>?_) λe s' hs=>hs;have fin:∀{ao:St} {H':Hp} {v:V} {u:Value},Inv (uO CX P w K mg base N qual scope f cdv A outer s H E) [] ao H' s'->RelV v u->Q v H'->CE outer P w H s Q u s':=
  λ{ao H' v u} J rv q=>⟨v,H',J.os,J.bare,J.base,J.hok,rv,q⟩
 cases fl with
 |ret u=>obtain⟨v,ao,H',J,rv,q⟩:=hs;exact fin J rv q
 |next=>obtain⟨ao,H',J,q⟩:=hs;exact fin (v:=V.non) (u:=Value.none) J rfl q
 |brk=>obtain⟨_,_,_,q⟩:=hs;exact aAg q
 |cont=>obtain⟨_,_,_,q⟩:=hs;exact aAg q
end L2
namespace L2
open PySem PySem.Spec PyProof.Rows
section
variable{X:Cx} {x:Str} {p pos:Pos} {e:Expr} {es:List Expr} {t:TA} {id T:String} {r:List V->Hp->VK->Prop}
end
end L2
namespace HT
open PySem PyProof.Rows
def lexLt:List Int->List Int->Bool
 |[],[]=>false
 |[],_::_=>true
 |_::_,[]=>false
 |x::xs,y::ys=>if x=y then lexLt xs ys else decide (x<y)
def I0 (x y:Int)(xs ys:List Int):lexLt (x::xs) (y::ys)=if x=y then lexLt xs ys else decide (x<y):=rfl
def Y9:lexLt [] []=false:=rfl
def N0 (y:Int)(ys:List Int):lexLt [] (y::ys)=true:=rfl
def C4 (x:Int)(xs:List Int):lexLt (x::xs) []=false:=rfl
def zU (A:Around)(s:Shared)(a:Int)(t:Tok)(c:Int)(u:Tok):∃e,SeqAt.EqAt A s (.int a t) (.int c u) e/\(e=true↔a=c):=
 ⟨(a==c),aED a t c u,by simp⟩
def xZ (A:Around)(s:Shared)(a:Int)(t:Tok)(c:Int)(u:Tok)(prog:Program)(w:World)(E:F1)(Q:F1)(h:Q (.bool (decide (a<c))) s):
  wpAny (model prog w) A (richCompare .Lt (.int a t) (.int c u)) Q E s:=
 (PyProof.Rows.lt_int h:wpAny (model prog w) A (compareOp .Lt (.int a t) (.int c u)) Q E s)
section
open PySem.SeqAt
open PySem.AutoSeq1 (wpAny_loadPart')
open PySem.MeetsSeq PySem.MeetsSeq2 PySem.MeetsSeq3
def qZ (l b:Addr)(items bf:Array Value)(n n2:Nat)(dd wu:Option Addr)(sl vm:Array (Option Value))(ns ms:List Int)(hi:IntsAre items.toList ns)(hj:IntsAre bf.toList ms):
  Meets (Builtin.«tuple.__lt__» ⟨[.ref l,.ref b],[]⟩)
   (λ_ R s=>s.heap.get? l=some {cls:=.type "tuple",dict:=dd,data:=.seq items n,slots:=sl}/\s.heap.get? b=some {cls:=.type "tuple",dict:=wu,data:=.seq bf n2,slots:=vm}/\
    R (.ok (.ret (.bool (lexLt ns ms)))) s):=
 .of_wp λprog w A R s h=>by
  obtain⟨hp,g,d,tk,os⟩:=s;obtain⟨hl,hb,h⟩:=h;have f2:=AutoSeq1.sub_tuple_tuple;have z1:items.size=ns.length:=by rw[<-hi.length];simp
  have z2:bf.size=ms.length:=by rw[<-hj.length];simp
  wp_walk using aEm hl,aEm hb,aCp _ (λrest b s'=>b.1=none/\s'=⟨hp,g,d,tk,os⟩/\∃(vs ws:List Value) (ui vo:List Int),rest=vs.zip ws/\
   IntsAre vs ui/\IntsAre ws vo/\ui.length+bf.size=vo.length+items.size/\R (.ok (.ret (.bool (lexLt ui vo)))) ⟨hp,g,d,tk,os⟩) _
  case turn=>
   rintro⟨y,x⟩ rest b s' ⟨qe,rfl,vs,ws,ui,vo,hz,vp,ze,hlen,hR⟩;cases vp with
   |nil=>rw[List.zip_nil_left]at hz;cases hz
   |cons a t hvi'=>
    cases ze with
    |nil=>rw[List.zip_nil_right]at hz;cases hz
    |cons c u hwi'=>
     rw[aBN]at hz;injection hz with hyx ar;injection hyx with hy hx;subst hy hx;rw[I0]at hR;simp only[aAv]at hlen;obtain⟨e,he,xa⟩:=zU A.in1 ⟨hp,g,d,tk,os⟩ a t c u;refine aAa (he prog w _ _ ?_);cases e with
     |true=>
      rw[if_pos (xa.mp rfl)]at hR
      wp_walk
      exact⟨rfl,rfl,_,_,_,_,ar,hvi',hwi',by lia,hR⟩
     |false=>
      rw[if_neg (λq=>absurd (xa.mpr q) aAL)]at hR;have hri:=xZ A.in1 ⟨hp,g,d,tk,os⟩ a t c u prog w
      wp_walk using hri
      exact⟨_,rfl,by simpa using hR⟩
  case fin=>
   rintro⟨b1,b2⟩ s' ⟨qe,rfl,vs,ws,ui,vo,hz,vp,ze,hlen,hR⟩;simp only at qe;subst qe;have hv:lexLt ui vo=decide (items.size<bf.size):=by
    cases vp with
    |nil=>
     cases ze with
     |nil=>simp only[aBO]at hlen;rw[Y9];exact(decide_eq_false (by lia)).symm
     |cons c u hw=>simp only[aBO,aAv]at hlen;rw[N0];exact(decide_eq_true (by lia)).symm
    |cons a t hv=>
     cases ze with
     |nil=>simp only[aBO,aAv]at hlen;rw[C4];exact(decide_eq_false (by lia)).symm
     |cons c u hw=>rw[aBN]at hz;cases hz
   rw[hv]at hR
   wp_walk
   exact⟨_,rfl,by simpa[Builtin.Tuple.tupleCompareSizes]using hR⟩
  case h=>exact⟨rfl,rfl,items.toList,bf.toList,ns,ms,rfl,hi,hj,by lia,h⟩
end
section
variable{prog:Program} {w:World} {A:Around} {E:F1} {s:Shared}
def lt_tupInts {Q:F1}(hl:IsTup s.heap l items)(hb:IsTup s.heap b bf)(hi:IntsAre items.toList ns)(hj:IntsAre bf.toList ms)(hu:A.units<cLine)(h:Q (.bool (lexLt ns ms)) s):wpAny (model prog w) A (compareOp .Lt (.ref l) (.ref b)) Q E s:=by
 obtain⟨⟨cls,dd,data,sl⟩,ho,hc,n,hd⟩:=id hl;obtain⟨⟨cls2,wu,data2,vm⟩,lu,ki,n2,hd2⟩:=id hb;simp only at hc hd ki hd2;subst hc hd ki hd2;exact richCompare_meets_room (op:=.Lt) ⟨_,ho,rfl⟩ ⟨_,lu,rfl⟩ PySem.F.slot_tuple_lt PySem.F.entry_tuple_lt (PySem.F.args_tuple_lt_2 _ _) (qZ l b items bf n n2 dd wu sl vm ns ms hi hj)
  ⟨ho,lu,show aCE (lexLt ns ms)≠Value.notImplemented/\Q (.bool (lexLt ns ms)) s from⟨(λx=>nomatch x),h⟩⟩ hu
def cat_tup {Q:F1}(ht:IsTup s.heap t vs.toArray)(hb:IsTup s.heap b ws.toArray)(hv:vs≠[])(h1:ws=[]->Q (.ref t) s)(h2:ws≠[]->Q (.ref s.heap.objs.size) {s with heap:=s.heap.push {cls:=.type "tuple",data:=.seq (vs++ws).toArray}})(iu:vs.length+ws.length<=sizeLine):wpAny (model prog w) A (binaryOp .Add (.ref t) (.ref b)) Q E s:=by
 obtain⟨⟨cls,dd,data,sl⟩,ho,hc,n,hd⟩:=id ht;obtain⟨⟨cls2,wu,data2,vm⟩,lu,ki,n2,hd2⟩:=id hb;simp only at hc hd ki hd2;subst hc hd ki hd2;have e:vs.toArray++ws.toArray=(vs++ws).toArray:=by simp
 by_cases hw:ws=[]
 ·exact aFq ⟨_,ho,rfl⟩ ⟨_,lu,rfl⟩ aFf seq_tuple_add PySem.F.slot_tuple_add PySem.F.entry_tuple_add (PySem.F.args_tuple_add_2 _ _)
   (tuple_addW1 t b vs.toArray ws.toArray n n2 dd wu sl vm (by simpa using hv) (by simp[hw])) ⟨ho,lu,h1 hw⟩
 ·refine aFq ⟨_,ho,rfl⟩ ⟨_,lu,rfl⟩ aFf seq_tuple_add PySem.F.slot_tuple_add PySem.F.entry_tuple_add (PySem.F.args_tuple_add_2 _ _)
   (tuple_addW2 t b vs.toArray ws.toArray n n2 dd wu sl vm (by simpa using hv) (by simpa using hw) (by rw[aAl,aAl];exact iu)) ⟨ho,lu,?_⟩
  rw[e];exact h2 hw
def sIx (n d:Nat):Option Int->Nat
 |none=>d
 |some v=>if v<0 then(v+(n:Int)).toNat else min v.toNat n
def sIx_none (n d:Nat):sIx n d none=d:=rfl
def sIx_nat (n d k:Nat):sIx n d (some (k:Int))=min k n:=by show(if(k:Int)<0 then((k:Int)+(n:Int)).toNat else min (k:Int).toNat n)=min k n;rw[if_neg (by lia),aCx]
def YN (n d:Nat)(hd:d<=n)(o:Option Int):sIx n d o<=n:=by
 cases o with
 |none=>exact hd
 |some v=>
  show(if v<0 then(v+(n:Int)).toNat else min v.toNat n)<=n;by_cases hv:v<0
  ·rw[if_pos hv];lia
  ·rw[if_neg hv];exact Nat.min_le_right _ _
def FE (v:Int)(n d:Nat):(if v<0 then max (v+(n:Int)) 0 else min v (n:Int))=((sIx n d (some v):Nat):Int):=by
 show(if v<0 then max (v+(n:Int)) 0 else min v (n:Int))=(((if v<0 then(v+(n:Int)).toNat else min v.toNat n):Nat):Int);by_cases hv:v<0
 ·simp only[if_pos hv];lia
 ·simp only[if_neg hv];lia
def BL (lo hi:Option Int)(n:Nat):aDt lo hi 1 (n:Int)=(((sIx n 0 lo:Nat):Int),((sIx n n hi:Nat):Int)):=by
 have h1:¬((1:Int)<0):=by lia
 unfold aDt;simp only[h1,if_false];refine aFT ?_ ?_
 ·cases lo with
  |none=>rfl
  |some v=>exact FE v n 0
 ·cases hi with
  |none=>rfl
  |some v=>exact FE v n n
def DD (i j:Nat):aCK (i:Int) (j:Int) 1=j-i:=by
 unfold aCK;have h1:(1:Int)>0:=by lia
 simp only[h1,if_true,Int.ediv_one];split<;>lia
def pN {Q:Option Int->Shared->Prop}(p:IsPart v o)(h:Q o s):wpAny (model prog w) A (Builtin.Slice.slicePartIndex v) Q E s:=by
 cases p with
 |none=>exact slicePart_none h
 |int i t=>exact slicePart_int h
def jW {sl:Addr}{vl vu:Value}{lo hi:Option Int}{n:Nat}{Q:Int×Int×Nat->Shared->Prop}(hs:s.heap.IsSliceOf sl vl vu .none)(pl:IsPart vl lo)(pu:IsPart vu hi)
  (h:Q (((sIx n 0 lo:Nat):Int),1,sIx n n hi-sIx n 0 lo) s):wpAny (model prog w) A (aEw (.ref sl) (pure (n:Int))) Q E s:=by
 obtain⟨os,hos,xb,yi⟩:=id hs;unfold aEw Builtin.Slice.sliceFields;refine aAa (aAa<|aCL hos yi (x:=vl) rfl<|aAa<|aCL hos yi (x:=vu) rfl<|aAa<|aCL hos yi (x:=.none) rfl<|aAb ?_);refine aAa (slicePart_none ?_);show wpAny _ _ (if((1:Int)==0)=true then _ else _) _ _ s;rw[if_neg (by decide)];refine aAa (pN pl<|aAa<|pN pu<|aAa<|aAb ?_);show wpAny _ _ (match aDt lo hi 1 (n:Int)with|(lo,hi)=>pure (lo,(1:Int),aCK lo hi 1)) _ _ s;rw[BL lo hi n];show wpAny _ _ (pure (((sIx n 0 lo:Nat):Int),(1:Int),aCK ((sIx n 0 lo:Nat):Int) ((sIx n n hi:Nat):Int) 1)) _ _ s;rw[DD];exact aAb h
def MX (xs:Array Value)(i k:Nat):((aBL k).filterMap λ(m:Nat)=>xs[((i:Int)+(m:Int)*1).toNat]?).toArray=((xs.toList.drop i).take k).toArray:=by
 have e:(λ(m:Nat)=>xs[((i:Int)+(m:Int)*1).toNat]?)=λm=>xs[i+m]?:=by
  funext m
  have:((i:Int)+(m:Int)*1).toNat=i+m:=by lia
  rw[this]
 rw[e];have:=pick_run xs i k;rw[aDf]at this;have e2:((λx=>xs[x]?)∘λx=>i+x)=λm=>xs[i+m]?:=rfl;rw[e2]at this;rw[this]
def getItem_tuple_cut {t sl:Addr}{items:Array Value}{vl vu:Value}{lo hi:Option Int}{Q:F1}(ht:IsTup s.heap t items)(hs:s.heap.IsSliceOf sl vl vu .none)(pl:IsPart vl lo)(pu:IsPart vu hi)
  (hw:¬(sIx items.size 0 lo=0/\sIx items.size items.size hi=items.size))
  (h:Q (.ref s.heap.objs.size) {s with heap:=s.heap.push {cls:=.type "tuple",data:=.seq ((items.toList.drop (sIx items.size 0 lo)).take (sIx items.size items.size hi-sIx items.size 0 lo)).toArray}})
  (iu:items.size<=sizeLine):wpAny (model prog w) A (getItem (.ref t) (.ref sl)) Q E s:=by
 have td:sizeOk (.seq ((items.toList.drop<|sIx items.size 0 lo).take (sIx items.size items.size hi-sIx items.size 0 lo)).toArray):=by
  show((items.toList.drop<|sIx items.size 0 lo).take (sIx items.size items.size hi-sIx items.size 0 lo)).toArray.size<=sizeLine;rw[aAl,aBl,aDc,aAW]
  lia
 have hj:sIx items.size items.size hi<=items.size:=YN _ _ (aAh _) hi;obtain⟨os,hos,xb,yi⟩:=id hs;have hTs:s.TypeIs (.ref sl) "slice":=⟨os,hos,xb⟩;unfold getItem;try with_reducible refine aAO ?_
 first|refine aAa (aAb ?_)|skip
 refine aAa (wpAny_sequenceKey ht.typeIs (by decide) ?_);refine aAa (aCt (name:=aCW "__getitem__") ht.typeIs aCv
  (aBm aCv ht.typeIs entry_tuple_getitem ?_ (args_tuple_getitem _ _)))
 show wpAny _ _ (aDr (.ref t)>>=_) _ _ s;refine aAa (tupleItemsOf_ ht ?_);refine aAa (aDB hTs ?_);rw[if_pos (by decide)];refine aAa (jW hs pl pu ?_);have hno:¬((((sIx items.size 0 lo:Nat):Int)==0&&(1:Int)==1&&(sIx items.size items.size hi-sIx items.size 0 lo)==items.size)=true):=by intro q;rw[aAC,aAC]at q;have q1:((sIx items.size 0 lo:Nat):Int)=0:=eq_of_beq q.1.1;have q2:sIx items.size items.size hi-sIx items.size 0 lo=items.size:=eq_of_beq q.2;exact hw ⟨by lia,by lia⟩
 show wpAny _ _ (if(((sIx items.size 0 lo:Nat):Int)==0&&(1:Int)==1&&(sIx items.size items.size hi-sIx items.size 0 lo)==items.size)=true then _ else _) _ _ s;rw[if_neg hno,MX];first
  |exact aAa (m:=aCQ _) (aBA (aAb ⟨_,rfl,aAb h⟩) td)
  |exact aAa (m:=aCQ _) (aBA (aAa<|aAb<|aAb ⟨_,rfl,aAb h⟩) td)
  |exact aAa (aAa (m:=aCQ _)<|aBA (aAb<|aAb ⟨_,rfl,aAb h⟩) td)
  |exact aAa (aAa (m:=aCQ _)<|aBA (aAb ⟨_,rfl,aAb h⟩) td)
end
end HT
namespace L2
open PySem PySem.Spec PyProof.Rows
abbrev TO:=St->Hp->(Option Int->Hp->Prop)->Prop
def PO (X:Cx)(e:Option Expr)(t:TO):Prop:=
 ∀(pins:M5) (s:Shared) (σ:St) (H:Hp) (Q:Option Int->Hp->Prop),Inv X pins σ H s->t σ H Q->
  wpAny (model X.prog X.w) X.A (evalPart e X.env) (λu s'=>∃o H',Inv X pins σ H' s'/\IsPart u o/\Q o H') X.xe s
def UL:TO:=λ_ H Q=>Q none H
def uj (t:TE):TO:=λσ H Q=>t σ H λx H1=>∃i,x=.int i/\Q (some i) H1
section
variable{X:Cx} {e:Expr} {te:TE} {lo hi:Option Expr} {tl th:TO} {pos p2:Pos}
def VJ:PO X none UL:=by intro pins s σ H Q I h;rw[evalPart_none];exact aAb ⟨none,H,I,.none,h⟩
def TW (h:PE X e te):PO X (some e) (uj te):=by intro pins s σ H Q I hw;rw[evalPart_some];refine D4 (h pins s σ H _ I hw) λu s1 ⟨x,H1,I1,r1,q1⟩=>?_;obtain⟨i,rfl,q⟩:=q1;obtain⟨t,rfl⟩:=r1;exact⟨some i,H1,I1,.int i t,q⟩
def YI (X:Cx)(r:V->Option Int->Option Int->Hp->VK->Prop):Prop:=
 ∀(pins:M5) (s:Shared) (σ:St) (H:Hp) (x:V) (v vl vu:Value) (lo hi:Option Int) (sl:Addr) (Q:VK),Inv X pins σ H s->RelV x v->s.heap.IsSliceOf sl vl vu .none->IsPart vl lo->IsPart vu hi->r x lo hi H Q->
  ∃T id,typeLookup (.type T) "__getitem__"=pure (some<|.builtin id)/\s.TypeIs v T/\wpAny (model X.prog X.w) X.A (getItem v<|.ref sl) (EP X pins σ Q) X.xe s
def YI.or {r r':V->Option Int->Option Int->Hp->VK->Prop}(h:YI X r)(h':YI X r'):YI X (λx lo hi H Q=>r x lo hi H Q\/r' x lo hi H Q):=by
 intro pins s σ H x v vl vu lo hi sl Q I rx hs pl pu q;rcases q with q|q
 ·exact h pins s σ H x v vl vu lo hi sl Q I rx hs pl pu q
 ·exact h' pins s σ H x v vl vu lo hi sl Q I rx hs pl pu q
def tSl (r:V->Option Int->Option Int->Hp->VK->Prop)(te:TE)(tl th:TO):TE:=λσ H Q=>te σ H λx H1=>tl σ H1 λl H2=>th σ H2 λu H3=>r x l u H3 Q
def QW {r:V->Option Int->Option Int->Hp->VK->Prop}(hr:YI X r)(he:PE X e te)(hl:PO X lo tl)(hu:PO X hi th):PE X (.Subscript e (.Slice lo hi none p2) pos) (tSl r te tl th):=by intro pins s σ H Q I h;refine Subscript_ (D4 (he pins s σ H _ I h) λv s1 ⟨x,H1,I1,r1,q1⟩=>?_);refine wpAny_Slice (D4 (hl pins s1 σ H1 _ I1 q1) λvl s2 ⟨l,H2,I2,pl,q2⟩=>D4 (hu pins s2 σ H2 _ I2 q2) λvu s3 ⟨u,H3,I3,pu,q3⟩=>?_);rw[evalPart_none];refine aAb ?_;have I4:Inv X pins σ H3 {s3 with heap:=s3.heap.push {cls:=.type "slice",data:=.fields #[vl,vu,.none]}}:=I3.kept (t':=s3.toks) λb ob q=>aAc _ q;obtain⟨T,id,hT,ht,hg⟩:=hr pins {s3 with heap:=s3.heap.push {cls:=.type "slice",data:=.fields #[vl,vu,.none]}} σ H3 x v vl vu l u s3.heap.objs.size Q I4 r1 (Heap.IsSliceOf.new ..) pl pu q3;show wpAny (model X.prog X.w) X.A (subscriptTail e (.Slice lo hi none p2) v<|.ref s3.heap.objs.size) (EP X pins σ Q) X.xe {s3 with heap:=s3.heap.push {cls:=.type "slice",data:=.fields #[vl,vu,.none]}};exact tail_any (ops:=[.ref s3.heap.objs.size,v]) ht hT hg (by with_unfolding_all rfl)
def yX (xs:List V)(lo hi:Option Int):List V:=(xs.drop<|HT.sIx xs.length 0 lo).take (HT.sIx xs.length xs.length hi-HT.sIx xs.length 0 lo)
def mB (xs:List V)(lo hi:Option Int):(yX xs lo hi).length<=xs.length:=by
 unfold yX;rw[aBl,aDc]
 lia
def yj (K:PySem.W.Frag):V->Option Int->Option Int->Hp->VK->Prop:=λx lo hi H Q=>∃a xs,x=.ref a/\X7 K H a xs/\
 ¬(HT.sIx xs.length 0 lo=0/\HT.sIx xs.length xs.length hi=xs.length)/\∀p,H p=none->Q (.ref p) (upd H p<|.tup (yX xs lo hi))
def dj:YI X (yj X.K):=by
 intro pins s σ H x v vl vu lo hi sl Q I rx hs pl pu h;obtain⟨a,xs,rfl,hx,hw,q⟩:=h;cases rx;obtain⟨its,r,ht,hz⟩:=I.tuple hx;have hlen:its.toArray.size=xs.length:=by rw[aAl];exact r.length.symm
 refine⟨"tuple",_,aCv.lookup,ht.typeIs,?_⟩;refine HT.getItem_tuple_cut ht hs pl pu (by rw[hlen];exact hw) ?_ (by rw[hlen];exact hz);rw[hlen];refine⟨.ref s.heap.objs.size,_,I.laid (t':=s.toks) (o:=.tup (yX xs lo hi)) (λb ob q=>aAc _ q) (aAh _) ?_,rfl,q _ (I.hok.fresh<|aAh _)⟩;exact⟨aAr (mB xs lo hi) hz,_,(r.drop<|HT.sIx xs.length 0 lo).take (HT.sIx xs.length xs.length hi-HT.sIx xs.length 0 lo),IsTup.new _ _⟩
def uk (K:PySem.W.Frag):R2:=λx y H Q=>∃a b xs ys,x=.ref a/\y=.ref b/\X7 K H a xs/\X7 K H b ys/\xs≠[]/\xs.length+ys.length<=sizeLine/\
 (ys=[]->Q (.ref a) H)/\(ys≠[]->∀p,H p=none->Q (.ref p) (upd H p<|.tup (xs++ys)))
def l8.ac4 (r:l8 xs us):us=[]↔xs=[]:=by
 cases r with
 |nil=>simp
 |cons _ _=>simp
def EQ:mE X (binaryOp .Add) (uk X.K):=by intro pins s σ H x y v u Q I rx ry h;obtain⟨a,b,xs,ys,rfl,rfl,ha,hb,hx,hz,q1,q2⟩:=h;cases rx;cases ry;obtain⟨its,r1,p1,_⟩:=I.tuple ha;obtain⟨me,r2,p2,_⟩:=I.tuple hb;refine HT.cat_tup p1 p2 (λz=>hx (r1.ac4.mp z)) (λz=>⟨.ref a,H,I,rfl,q1 (r2.ac4.mp z)⟩) (λz=>?_) (by rw[<-r1.length,<-r2.length];exact hz);refine⟨.ref s.heap.objs.size,_,I.laid (t':=s.toks) (o:=.tup (xs++ys)) (λb ob q=>aAc _ q) (aAh _) ?_,rfl,q2 (λw=>z (r2.ac4.mpr w)) _ (I.hok.fresh<|aAh _)⟩;exact⟨by rw[aAD];exact hz,_,r1.append r2,IsTup.new _ _⟩
end
end L2
namespace L2
open PySem PySem.Spec PyProof.Rows
def JI (n:Nat)(i:Int):Option Nat:=if 0<=i then(if i<n then some i.toNat else none)else if-(n:Int)<=i then some (i+n).toNat else none
def qI {α:Type}(xs:List α)(i:Int):Option α:=(JI xs.length i).bind λj=>xs[j]?
def FX (h:JI n i=some j):seqIndex? i n=some j/\j<n/\-(n:Int)<=i/\i<n:=by
 unfold JI at h;by_cases h0:0<=i
 ·rw[if_pos h0]at h;by_cases h1:i<n
  ·rw[if_pos h1]at h;have e:i.toNat=j:=aAj h;exact⟨by rw[seqIndex_of h0 h1,e],by lia,by lia,h1⟩
  ·rw[if_neg h1]at h;cases h
 ·rw[if_neg h0]at h;by_cases h1:-(n:Int)<=i
  ·rw[if_pos h1]at h;have e:(i+n).toNat=j:=aAj h;exact⟨by rw[seqIndex_neg (by lia) h1,e],by lia,h1,by lia⟩
  ·rw[if_neg h1]at h;cases h
def FK {α:Type}{xs:List α}{i:Int}{v:α}(h:qI xs i=some v):∃j,seqIndex? i xs.length=some j/\xs[j]?=some v/\j<xs.length/\-(xs.length:Int)<=i/\i<xs.length:=by
 unfold qI at h;cases e:JI xs.length i with
 |none=>rw[e]at h;cases h
 |some j=>rw[e]at h;obtain⟨h1,h2,h3,h4⟩:=FX e;exact⟨j,h1,h,h2,h3,h4⟩
def TK (b:Expr):Prop:=∀o i,subscripted b false o i=operate [o,i] (getItem o i)
def IxR (X:Cx)(r:R2):Prop:=
 ∀(value slice:Expr) (pins:M5) (s:Shared) (σ:St) (H:Hp) (x y:V) (v u:Value) (Q:VK),Inv X pins σ H s->RelV x v->RelV y u->r x y H Q->
  subscripted slice false v u=operate [v,u] (getItem v u)->wpAny (model X.prog X.w) X.A (subscriptTail value slice v u) (EP X pins σ Q) X.xe s
def MtR (X:Cx)(id:String)(r:V->List V->Hp->VK->Prop):Prop:=
 ∀(pins:M5) (s:Shared) (σ:St) (H:Hp) (x:V) (xs:List V) (v:Value) (us:List Value) (Q:VK),Inv X pins σ H s->RelV x v->l8 xs us->r x xs H Q->
  wpAny (model X.prog X.w) X.A (call (.builtin id) (v::us)) (EP X pins σ Q) X.xe s
section
variable{X:Cx} {a b:Expr} {ta tb:TE} {pos:Pos}
def a2p (K:PySem.W.Frag):R2:=λx y H Q=>∃p xs i v,x=.ref p/\y=.int i/\O6 K H p xs/\qI xs i=some v/\Q v H
def a3g (K:PySem.W.Frag):R2:=λx y H Q=>∃p xs i v,x=.ref p/\y=.int i/\X7 K H p xs/\qI xs i=some v/\Q v H
def SD:IxR X (a2p X.K):=by
 intro value slice pins s σ H x y v u Q I rx ry h hs;obtain⟨p,xs,i,z,rfl,rfl,hq,he,q⟩:=h;cases rx;obtain⟨t,rfl⟩:=ry;obtain⟨its,r,pl,hz⟩:=I.list hq;obtain⟨j,h1,h2,h3,h4,h5⟩:=FK he;obtain⟨w,ew,rw'⟩:=r.get h2;have hl:=r.length;have hn:=vG;have fin:EP X pins σ Q w s:=⟨z,H,I,rw',q⟩;by_cases h0:0<=i
 ·have hj:i.toNat=j:=by rw[seqIndex_of h0 h5]at h1;exact aAj h1
  exact item_listR pl.isList h0 (by lia) (by rw[hj];simpa using ew) fin hs
 ·have hj:(i+(its.toArray.size:Int)).toNat=j:=by rw[seqIndex_neg (by lia) h4]at h1;rw[aAl,<-hl];exact aAj h1
  exact subscriptTail_builtinR (x:=w) pl.isList.typeIs slot_list_getitem.lookup
   (wpAny_getItem_list_neg (Q:=λr s'=>r=w/\EP X pins σ Q r s') pl.isList (by lia) (by rw[aAl]<;>lia) (by lia) (by rw[hj];simpa using ew) ⟨rfl,fin⟩) hs
def aq:IxR X (a3g X.K):=by
 intro value slice pins s σ H x y v u Q I rx ry h hs;obtain⟨p,xs,i,z,rfl,rfl,hq,he,q⟩:=h;cases rx;obtain⟨t,rfl⟩:=ry;obtain⟨its,r,pl,hz⟩:=I.tuple hq;obtain⟨j,h1,h2,h3,h4,h5⟩:=FK he;obtain⟨w,ew,rw'⟩:=r.get h2;have hl:=r.length;have hn:=vG;have fin:EP X pins σ Q w s:=⟨z,H,I,rw',q⟩;exact subscriptTail_builtinR (x:=w) pl.typeIs aCv.lookup
  (getItem_tuple (j:=j) (Q:=λr s'=>r=w/\EP X pins σ Q r s') pl (by lia) (by lia) (by rw[aAl,<-hl];exact h1) (by simpa using ew) ⟨rfl,fin⟩) hs
def CN (its:List Value)(n j:Nat)(u:Value):aBp (·.setIfInBounds j u) {cls:=.type "list",data:=.seq its.toArray n}={cls:=.type "list",data:=.seq (its.set j u).toArray n}:=by simp[aBp]
def Inv.lst {pins:M5}{σ:St}{H:Hp}{s:Shared}{p:Addr}{xs:List V}(I:Inv X pins σ H s)(h:H p=some (.lst xs)):
  ∃(its:List Value) (n:Nat),l8 xs its/\s.heap.get? p=some {cls:=.type "list",data:=.seq its.toArray n}/\xs.length<=sizeLine:=by
 obtain⟨z,its,n,r,e⟩:=I.hok p _ h;exact⟨its,n,r,e,z⟩
def Inv.af7 {pins:M5}{σ:St}{H:Hp}{s:Shared}{p:Addr}{xs ys:List V}{its its':List Value}{n n':Nat}{f:Obj->Obj}(I:Inv X pins σ H s)(h:H p=some (.lst xs))
  (ho:s.heap.get? p=some {cls:=.type "list",data:=.seq its.toArray n}) (hf:f {cls:=.type "list",data:=.seq its.toArray n}={cls:=.type "list",data:=.seq its'.toArray n'}) (r:l8 ys its') (hz:ys.length<=sizeLine) (t:Nat):
  Inv X pins σ (upd H p (.lst ys)) {s with heap:=s.heap.update p f,toks:=t}:=by
 have e:(s.heap.update p f).get? p=some {cls:=.type "list",data:=.seq its'.toArray n'}:=by rw[aAY f ho (by rw[hf]<;>rfl),hf]
 refine I.write (x:=p) (e:=p) (by rw[h];trivial) (.inl rfl) (λb u hb q=>(aAA _ _<|aCh hb).trans q) ⟨_,e⟩ ?_;exact⟨hz,its',n',r,e⟩
def qz:V->V->V->Hp->(Hp->Prop)->Prop:=λo i v H Q=>∃p xs k j,o=.ref p/\i=.int k/\H p=some (.lst xs)/\JI xs.length k=some j/\Q (upd H p<|.lst (xs.set j v))
def zO:ZP X qz:=by
 intro pins s σ H o i v ov iv u Q I ro ri rv h;obtain⟨p,xs,k,j,rfl,rfl,hp,hj,q⟩:=h;cases ro;obtain⟨t,rfl⟩:=ri;obtain⟨its,n,r,ho,hz⟩:=I.lst hp;obtain⟨h1,h2,h3,h4⟩:=FX hj;have hl:=r.length;have hn:=vG;have I':Inv X pins σ (upd H p<|.lst (xs.set j v)) {s with heap:=s.heap.update p (aBp (·.setIfInBounds j u))}:=
  I.af7 hp ho (CN its n j u) (r.set rv j) (by rw[List.length_set];exact hz) s.toks
 by_cases h0:0<=k
 ·have hk:k.toNat=j:=by rw[seqIndex_of h0 h4]at h1;exact aAj h1
  exact PySem.W.ki_setAt ho h0 (by lia) (by rw[aAl,<-hl];exact h4) (by rw[hk];exact⟨_,I',q⟩)
 ·have hk:(k+(its.toArray.size:Int)).toNat=j:=by rw[seqIndex_neg (by lia) h3]at h1;rw[aAl,<-hl];exact aAj h1
  exact PySem.W.ki_setBack ho (by lia) (by rw[aAl,<-hl];exact h3) (by lia) (by rw[hk];exact⟨_,I',q⟩)
def vX (lo hi:Option Int)(n:Nat):(sliceBounds lo hi none n).1=((HT.sIx n 0 lo:Nat):Int)/\(sliceBounds lo hi none n).2.1=((HT.sIx n n hi:Nat):Int)/\(sliceBounds lo hi none n).2.2=1:=by
 refine⟨?_,?_,rfl⟩
 ·cases lo with
  |none=>simp[sliceBounds,HT.sIx]
  |some i=>
   simp only[sliceBounds,HT.sIx,Option.getD_none,show(1:Int)>0 by decide,if_true];by_cases h:i<0
   ·simp only[h,if_true]<;>lia
   ·simp only[h,if_false]<;>lia
 ·cases hi with
  |none=>simp[sliceBounds,HT.sIx]
  |some i=>
   simp only[sliceBounds,HT.sIx,Option.getD_none,show(1:Int)>0 by decide,if_true];by_cases h:i<0
   ·simp only[h,if_true]<;>lia
   ·simp only[h,if_false]<;>lia
def qT (its:List Value)(lo hi:Option Int):slicePick its.toArray lo hi none=((its.drop (HT.sIx its.length 0 lo)).take (HT.sIx its.length its.length hi-HT.sIx its.length 0 lo)).toArray:=by obtain⟨h1,h2,h3⟩:=vX lo hi its.toArray.size;unfold slicePick;rw[h1,h2,h3];simp only[sliceRange_one,pick_run,aAl]<;>rfl
def a0d (K:PySem.W.Frag):V->Option Int->Option Int->Hp->VK->Prop:=λx lo hi H Q=>∃a xs,x=.ref a/\O6 K H a xs/\∀p,H p=none->Q (.ref p) (upd H p<|.lst (yX xs lo hi))
def UO:YI X (a0d X.K):=by intro pins s σ H x v vl vu lo hi sl Q I rx hs pl pu h;obtain⟨a,xs,rfl,hx,q⟩:=h;cases rx;obtain⟨its,r,ht,hz⟩:=I.list hx;have hlen:=r.length;refine⟨"list",_,slot_list_getitem.lookup,ht.isList.typeIs,?_⟩;refine wpAny_getItem_list_slice ht.isList hs pl pu .none (by simp) ?_ (by rw[aAl]<;>lia);rw[qT,<-hlen];refine⟨.ref s.heap.objs.size,_,I.laid (t':=s.toks) (o:=.lst (yX xs lo hi)) (λb ob q=>aAc _ q) (aAh _) ?_,rfl,q _ (I.hok.fresh<|aAh _)⟩;exact⟨aAr (mB xs lo hi) hz,_,0,(r.drop<|HT.sIx xs.length 0 lo).take (HT.sIx xs.length xs.length hi-HT.sIx xs.length 0 lo),aAn _ rfl⟩
def a3n:V->Bool
 |.non=>true
 |.bl _=>true
 |.int _=>true
 |.str _=>true
 |_=>false
def eqV:V->V->Bool
 |.non,.non=>true
 |.bl a,.bl b=>a==b
 |.bl a,.int b=>(if a then 1 else 0)==b
 |.int a,.bl b=>a==(if b then 1 else 0)
 |.int a,.int b=>a==b
 |.str a,.str b=>a==b
 |_,_=>false
def eqU (x:V)(u:Value):Bool:=match u with
 |.none=>eqV .non x
 |.bool b=>eqV (.bl b) x
 |.int i _=>eqV (.int i) x
 |.str z _=>eqV (.str z) x
 |_=>false
def iH:pU X (.builtin "len") (λxs H Q=>∃p ys,xs=[.ref p]/\(O6 X.K H p ys\/X7 X.K H p ys)/\Q (.int ys.length) H):=by
 intro pins s σ H xs us Q I r h;obtain⟨p,ys,rfl,hq,q⟩:=h;obtain⟨u,rfl,rx⟩:=vals1 r;cases rx;have hn:=vG;rcases hq with hq|hq
 ·obtain⟨its,r',pl,hz⟩:=I.list hq;have hlen:=r'.length;exact Calls.call_len_list pl.isList (by simp only[aAl]<;>lia) ⟨.int ys.length,H,I.tok _,⟨s.toks+1,by rw[aAl,hlen]⟩,q⟩
 ·obtain⟨its,r',pl,hz⟩:=I.tuple hq;have hlen:=r'.length;exact len_tuple pl (by simp only[aAl]<;>lia) ⟨.int ys.length,H,I.tok _,⟨s.toks+1,by rw[aAl,hlen]⟩,q⟩
def jG:pU X (.type "list") (λxs H Q=>∃p ys,xs=[.ref p]/\(O6 X.K H p ys\/X7 X.K H p ys)/\∀l,H l=none->Q (.ref l) (upd H l (.lst ys))):=by
 intro pins s σ H xs us Q I r h;obtain⟨p,ys,rfl,hq,q⟩:=h;obtain⟨u,rfl,rx⟩:=vals1 r;cases rx;have fin:∀(its:List Value),l8 ys its->ys.length<=sizeLine->∀(h':Heap) (c':Nat),(∀b o',s.heap.get? b=some o'->h'.get? b=some o')->
   h'.get? s.heap.objs.size=some {cls:=.type "list",dict:=none,data:=.seq its.toArray c',slots:=#[]}->EP X pins σ Q (.ref s.heap.objs.size) {s with heap:=h'}:=λits r' hz h' c' kp e=>
  ⟨.ref s.heap.objs.size,_,I.laid (t':=s.toks) kp (aAh _) (show ObjOk X.prog X.w _ h' _ (.lst ys)from⟨hz,its,c',r',e⟩),rfl,q _ (I.hok.fresh<|aAh _)⟩
 rcases hq with hq|hq
 ·obtain⟨its,r',pl,hz⟩:=I.list hq;have hlen:=r'.length;obtain⟨o,ho,hc,n,hd⟩:=pl.isList;exact call_list_seq p (.inl rfl) ho hc hd (λh' c' kp e=>fin its r' hz h' c' kp e) (by simp only[aAl]<;>lia)
 ·obtain⟨its,r',pl,hz⟩:=I.tuple hq;have hlen:=r'.length;obtain⟨o,ho,hc,n,hd⟩:=pl;exact call_list_seq p (.inr rfl) ho hc hd (λh' c' kp e=>fin its r' hz h' c' kp e) (by simp only[aAl]<;>lia)
def fV:pU X (.type "tuple") (λxs H Q=>∃p ys,xs=[.ref p]/\((O6 X.K H p ys/\∀l,H l=none->Q (.ref l) (upd H l (.tup ys)))\/(X7 X.K H p ys/\Q (.ref p) H))):=by
 intro pins s σ H xs us Q I r h;obtain⟨p,ys,rfl,h⟩:=h;obtain⟨u,rfl,rx⟩:=vals1 r;cases rx;rcases h with⟨hq,q⟩|⟨hq,q⟩
 ·obtain⟨its,r',pl,hz⟩:=I.list hq;have hlen:=r'.length;refine call_tuple_list pl.isList (λh' kp=>?_) (by simp only[aAl]<;>lia);have I1:Inv X pins σ H {s with heap:=h'}:=I.kept (t':=s.toks) kp;have I2:Inv X pins σ (upd H h'.objs.size<|.tup ys) {s with heap:=h'.push {cls:=.type "tuple",data:=.seq its.toArray}}:=
   I1.laid (t':=s.toks) (λb o e=>aAc _ e) (aAh _) (show ObjOk X.prog X.w _ _ _ (.tup ys)from⟨hz,its,r',IsTup.new _ _⟩)
  exact⟨.ref h'.objs.size,_,I2,rfl,q _ (I1.hok.fresh<|aAh _)⟩
 ·obtain⟨its,r',pl,hz⟩:=I.tuple hq;exact call_tuple_same pl ⟨.ref p,H,I,rfl,q⟩
def tyV (K : PySem.W.Frag) (T : String) (x : V) (H : Hp) : Prop := match x with
  | .str _ => T = "str"
  | .int _ => T = "int"
  | .ref p => (T = "list" ∧ ∃ xs, O6 K H p xs) ∨ (T = "tuple" ∧ ∃ o, K.lookup p = some o ∧ o.cls = .type "tuple" ∧ o.dict = none) ∨
      (T = "dict" ∧ ((∃ kvs, H p = some (.dK kvs)) ∨ ∃ kvs, H p = some (.dT kvs))) ∨ (T = "set" ∧ ∃ S n, H p = some (.set S n))
  | _ => False
def LR (I:Inv X pins σ H s)(r:RelV x v)(ty:tyV X.K T x H):
  s.TypeIs v T/\∀a,v=.ref a->∃ob,s.heap.get? a=some ob/\ob.dict=none:=by
 cases x with
 |str z=>obtain⟨t,rfl⟩:=r;cases(show T= "str"from ty);exact⟨typeIs_str s z t,λ_ e=>nomatch e⟩
 |int i=>obtain⟨t,rfl⟩:=r;cases(show T= "int"from ty);exact⟨typeIs_int s i t,λ_ e=>nomatch e⟩
 |ref p=>
  cases r;rcases ty with⟨rfl,xs,hq⟩|⟨rfl,o,hk,hc,hd⟩|⟨rfl,hk⟩|⟨rfl,S,n,hk⟩
  ·obtain⟨its,_,pl,_⟩:=I.list hq;refine⟨pl.isList.typeIs,λa e=>?_⟩;cases e;obtain⟨o,n,e,c,hd,_⟩:=pl;exact⟨o,e,hd⟩
  ·refine⟨⟨o,I.kIn p o hk,hc⟩,λa e=>?_⟩;cases e;exact⟨o,I.kIn _ o hk,hd⟩
  ·have z:∃o,s.heap.get? p=some o/\o.ExactDict:=by
    rcases hk with⟨kvs,hk⟩|⟨kvs,hk⟩
    ·obtain⟨_,_,_,_,o,_,_,e,ex,_⟩:=I.hok p _ hk;exact⟨o,e,ex⟩
    ·obtain⟨_,_,_,_,o,_,_,e,ex,_⟩:=I.hok p _ hk;exact⟨o,e,ex⟩
   obtain⟨o,e,ex⟩:=z;refine⟨⟨o,e,ex.1⟩,λa e2=>?_⟩;cases e2;exact⟨o,e,ex.2.1⟩
  ·obtain⟨o,_,_,_,e,ex,_⟩:=I.hok p _ hk;refine⟨⟨o,e,ex.1⟩,λa e2=>?_⟩;cases e2;exact⟨o,e,ex.2.1⟩
 |_=>exact aAg ty
def a2u (K:PySem.W.Frag)(T:String)(r:V->List V->Hp->VK->Prop)(to:TE):TE:=λσ H Q=>to σ H λx H1=>tyV K T x H1/\r x [] H1 Q
def tBM (K:PySem.W.Frag)(T:String)(r:V->List V->Hp->VK->Prop)(to:TE)(t:TA):TE:=λσ H Q=>to σ H λx H1=>tyV K T x H1/\t σ H1 λxs H2=>r x xs H2 Q
variable{o e:Expr} {es:List Expr} {to:TE} {t:TA} {name:Str} {apos bp:Pos} {T id:String} {r:V->List V->Hp->VK->Prop}
def OI (pa:PlainAttrs T)(slot:Slot T name id)(hty:typeOf (.builtin id)=pure (.type "method_descriptor"))(hm:MtR X id r)(ho:PE X o to)
  (ie:attributeBase o name X.env (eval o X.env)=eval o X.env:=by rfl) (fg:(apos.endLine==bp.line)=true:=by rfl):PE X (.Call (.Attribute o name apos) [] [] bp) (a2u X.K T r to):=by
 intro pins s σ H Q I h;refine wpAny_Call_method0_late ie fg (D4 (ho pins s σ H _ I h) λv s1 ⟨x,H1,I1,r1,ty,q1⟩=>?_);obtain⟨h1,h2⟩:=LR I1 r1 ty;exact⟨T,id,pa,slot,hty,h1,h2,aFl rfl (PySem.evalArgs_none<|hm pins s1 σ H1 x [] v [] Q I1 r1 .nil q1)⟩
def XD (pa:PlainAttrs T)(slot:Slot T name id)(hty:typeOf (.builtin id)=pure (.type "method_descriptor"))(hm:MtR X id r)(ho:PE X o to)(ha:PA X (e::es) t)
  (ie:attributeBase o name X.env (eval o X.env)=eval o X.env:=by rfl)
  (xc:((backTo bp (starEach (e::es) X.env)).all (λx=>!x.1)&&(backToKw bp (keywordEach [] X.env)).all (λx=>x.1.isSome)
   &&decide ((e::es).length+([]:List Keyword).length+(if([]:List Keyword).isEmpty then 0 else 1)<30))=true:=by rfl)
  (fg:(apos.endLine==bp.line)=true:=by rfl) (hs:starEach (e::es) X.env=(false,eval e X.env)::starEach es X.env:=by rfl) (kl:(backTo bp (starEach es X.env)).any (·.1)=false:=by rfl):
  PE X (.Call (.Attribute o name apos) (e::es) [] bp) (tBM X.K T r to t):=by
 intro pins s σ H Q I h;refine wpAny_Call_method_late ie xc fg rfl (D4 (ho pins s σ H _ I h) λv s1 ⟨x,H1,I1,r1,ty,q1⟩=>?_);obtain⟨h1,h2⟩:=LR I1 r1 ty;refine⟨T,id,pa,slot,hty,h1,h2,?_⟩;have hA:=ha bp pins s1 σ H1 _ I1 q1;rw[hs]at hA⊢;refine aFl (by show(false||(backTo bp<|starEach es X.env).any (·.1))=false;rw[kl]<;>rfl) (aFC ?_);exact D4 hA λus s2 ⟨vs,H2,I2,r2,q2⟩=>hm pins s2 σ H2 x vs v us Q I2 r1 r2 q2
end
end L2
namespace L2
open PySem PySem.Spec PyProof.Rows
def MtM (X:Cx)(id:String)(r:V->List V->Hp->VK->Prop):Prop:=
 ∀(pins:M5) (s:Shared) (σ:St) (H:Hp) (x:V) (xs:List V) (v:Value) (us:List Value) (Q:VK),Inv X pins σ H s->RelV x v->l8 xs us->r x xs H Q->
  wpAny (model X.prog X.w) X.A (call (.builtin id) (v::us)) (EP X pins σ Q) X.xe s
theorem l8.one:∀{x:V} {us:List Value},l8 [x] us->∃u,us=[u]/\RelV x u
 |_,_,.cons r .nil=>⟨_,rfl,r⟩
theorem l8.zero:∀{us:List Value},l8 [] us->us=[]
 |_,.nil=>rfl
def l8.dropLast (h:l8 xs us):l8 xs.dropLast us.dropLast:=by
 induction h with
 |nil=>exact .nil
 |cons r t ih=>
  cases t with
  |nil=>exact .nil
  |cons q t'=>exact .cons r ih
theorem l8.rep (h:l8 xs us):∀k:Nat,l8 (aAF k xs).flatten (aAF k us).flatten
 |0=>.nil
 |k+1=>by rw[aBh,aBh,aCa,aCa];exact l8.append h (l8.rep h k)
def BP {α:Type}(l:List α):l.eraseIdx (l.length-1)=l.dropLast:=by
 induction l with
 |nil=>rfl
 |cons a r ih=>
  cases r with
  |nil=>rfl
  |cons b r=>
   have e:(a::b::r).length-1=((b::r).length-1)+1:=by
    have h1:(a::b::r).length=r.length+2:=rfl;have h2:(b::r).length=r.length+1:=rfl
    lia
   rw[e,aFb,ih]
   all_goals rfl
theorem foldl_rep (its:List Value):∀(k:Nat) (acc:List Value),
  aGa (λx1 x2=>x1++x2) acc.toArray (aAF k its.toArray)=(acc++(aAF k its).flatten).toArray
 |0,acc=>by simp
 |k+1,acc=>by
  have e:acc.toArray++its.toArray=(acc++its).toArray:=by simp
  have e2:(acc++its)++(aAF k its).flatten=acc++(aAF (k+1) its).flatten:=by rw[aBh,aCa,aDN]
  rw[<-e2,<-foldl_rep its k (acc++its),<-e,aBh,aEn]
section
variable{X:Cx} {pins:M5} {σ:St} {H:Hp} {s:Shared} {l b:Addr} {xs ys zs:List V}
def Inv.af6 {its its':List Value}{n:Nat}{f:Array Value->Array Value}{t':Nat}(I:Inv X pins σ H s)(hH:H l=some (.lst xs))
  (e:s.heap.get? l=some {cls:=.type "list",data:=.seq its.toArray n}) (hf:f its.toArray=its'.toArray) (hv:l8 ys its') (hz:ys.length<=sizeLine):
  Inv X pins σ (upd H l (.lst ys)) {s with heap:=s.heap.update l (aBp f),toks:=t'}:=by
 have q:=PySem.IsL.update e f;rw[hf]at q;refine I.write (x:=l) (e:=l) (by rw[hH];exact trivial) (.inl rfl) (λb' u hb hu=>(aAA s.heap (aBp f)<|aCh hb).trans hu) ⟨_,q⟩ ?_;exact⟨hz,its',_,hv,q⟩
def Inv.ag2 (I:Inv X pins σ H s)(hv:l8 ys its)(hz:ys.length<=sizeLine):
  Inv X pins σ (upd H s.heap.objs.size (.lst ys)) {s with heap:=s.heap.push {cls:=.type "list",data:=.seq its.toArray},toks:=t'}:=
 I.laid (λ_ _ q=>aAc _ q) (aAh _) ⟨hz,its,0,hv,aAn _ rfl⟩
def Inv.fresh (I:Inv X pins σ H s):H s.heap.objs.size=none:=I.hok.fresh (aAh _)
def Inv.ae2 (I:Inv X pins σ H s)(hH:H l=some (.lst xs)):xs.length<=sizeLine/\∃(its:List Value) (n:Nat),l8 xs its/\xs.length=its.length/\s.heap.get? l=some {cls:=.type "list",data:=.seq its.toArray n}:=by obtain⟨z,its,n,r,e⟩:=I.hok l _ hH;exact⟨z,its,n,r,r.length,e⟩
def zM (h:n<=sizeLine):aCn n=false:=by unfold aCn;exact decide_eq_false (by lia)
end
section
variable{X:Cx}
def TF:V->List V->Hp->VK->Prop:=λx vs H Q=>∃l xs y,x=.ref l/\vs=[y]/\H l=some (.lst xs)/\xs.length<sizeLine/\Q .non (upd H l<|.lst (xs++[y]))
def rZ:MtM X "list.append" TF:=by
 intro pins s σ H x vs v us Q I rx rv h;obtain⟨l,xs,y,rfl,rfl,hH,hz,q⟩:=h;cases rx;obtain⟨u,rfl,ru⟩:=rv.one;obtain⟨z,its,n,r,hl,e⟩:=I.ae2 hH;refine aFA F.slot_list_append ⟨_,e,rfl⟩ F.entry_list_append (F.args_list_append_2 _ _) (PySem.list_append l its.toArray n u (by rw[aAl];lia)) ⟨e,?_⟩;refine⟨.non,_,I.af6 (its':=its++[u]) hH e (by simp) (r.append<|.cons ru .nil) ?_,rfl,q⟩;rw[aAD,List.length_singleton]
 lia
def a1o:V->List V->Hp->VK->Prop:=λx vs H Q=>∃l xs y,x=.ref l/\vs=[]/\H l=some (.lst xs)/\xs[xs.length-1]?=some y/\Q y (upd H l<|.lst xs.dropLast)
def OB:MtM X "list.pop" a1o:=by
 intro pins s σ H x vs v us Q I rx rv h;obtain⟨l,xs,y,rfl,rfl,hH,hy,q⟩:=h;cases rx;have hus:=rv.zero;subst hus;obtain⟨z,its,n,r,hl,e⟩:=I.ae2 hH;obtain⟨u,hu,ru⟩:=r.get hy;have hy':its.toArray[its.toArray.size-1]?=some u:=by show its.toArray[its.length-1]?=some u;rw[<-aAB,<-hl];exact hu
 refine aFA F.slot_list_pop ⟨_,e,rfl⟩ F.entry_list_pop (F.args_list_pop_1 _) (MeetsSeq.list_pop_last l its.toArray n u hy' (by rw[aAl];lia)) ⟨e,?_⟩;refine⟨y,_,I.af6 (its':=its.dropLast) hH e ?_ r.dropLast ?_,ru,q⟩
 ·show its.toArray.eraseIdxIfInBounds (its.toArray.size-1)=its.dropLast.toArray;rw[aAl,List.eraseIdxIfInBounds_toArray,BP]
 ·rw[aFD]
  lia
def pz:R2:=λx y H Q=>∃l k xs,x=.ref l/\y=.int k/\H l=some (.lst xs)/\-(2^63)<=k/\k<2^63/\xs.length*k.toNat<=sizeLine/\
 ∀p,H p=none->Q (.ref p) (upd H p<|.lst (aAF k.toNat xs).flatten)
def UH {α:Type}(xs:List α)(k:Nat):(aAF k xs).flatten.length=k*xs.length:=by
 induction k with
 |zero=>simp
 |succ k ih=>rw[aBh,aCa,aAD,ih,Nat.succ_mul,Nat.add_comm]
def ZR:mE X (binaryOp .Mult) pz:=by
 intro pins s σ H x y v u Q I rx ry h;obtain⟨l,k,xs,rfl,rfl,hH,h1,h2,hz,q⟩:=h;cases rx;obtain⟨t,rfl⟩:=ry;obtain⟨z,its,n,r,hl,e⟩:=I.ae2 hH;have hlen:its.toArray.size*k.toNat<=sizeLine:=by rw[aAl,<-hl];exact hz
 have hcap:¬its.toArray.size*k.toNat>(2^63-1)/8:=by
  have:(sizeLine:Nat)<=(2^63-1)/8:=by decide
  lia
 have hfit:¬(!Builtin.List.listFitsIndex k)=true:=by rw[fitsIndex_both h1 h2];exact aAL
 have xf:¬aCn (its.toArray.size*k.toNat)=true:=by rw[zM hlen];exact aAL
 have km:aGa (λx1 x2=>x1++x2) #[] (aAF (if its.toArray.isEmpty=true then 0 else k.toNat) its.toArray)=(aAF k.toNat its).flatten.toArray:=by
  have f0:∀m:Nat,aGa (λx1 x2=>x1++x2) #[] (aAF m its.toArray)=(aAF m its).flatten.toArray:=λm=>by have:=foldl_rep its m [];rw[aDm]at this;exact this
  rw[f0];cases its with
  |nil=>simp
  |cons a r'=>rw[if_neg (by simp)]
 refine wpAny_binaryOp_repeat_ref (T:= "list") (U:= "int") (by decide) ⟨_,e,rfl⟩ (λs'=>typeIs_int s' k t) noFill_list_mul F.fills_int_mul F.slot_int_rmul repeat_list F.slot_int_index.lookup
  (aFA F.slot_int_rmul (typeIs_int s k t) F.entry_int_rmul (F.args_int_rmul_2 _ _) (int___rmul___int_list k t l its.toArray n)
   ⟨e,rfl,⟨_,e,rfl⟩,aFA F.slot_list_mul ⟨_,e,rfl⟩ F.entry_list_mul (F.args_list_mul_2 _ _) (AutoListH.list___mul___list_int_3 l its.toArray n k t hfit hcap xf) ⟨e,?_⟩⟩)
 rw[km];exact⟨.ref _,_,I.ag2 (t':=s.toks) (r.rep k.toNat) (by rw[UH,Nat.mul_comm];exact hz),rfl,q _ I.fresh⟩
end
section
variable{prog:Program} {w:World} {A:Around} {E:F1} {s:Shared}
end
section
variable{X:Cx}
end
end L2
namespace Att
open PySem PySem.W PySem.Calls PyProof.Rows
def mK:∀(ns:List Int) (vs:List Value),WellAll P h vs (ns.map WData.int)->IntsAre vs ns:=by
 intro ns;induction ns with
 |nil=>intro vs w;rw[aDR]at w;cases w;exact .nil
 |cons n ns ih=>
  intro vs w;rw[aAu]at w;cases w with
  |cons a b=>cases a;exact .cons _ _ (ih _ b)
def script_of {l:OpenLaw}{n:Nat}(hn:l.most=some n){P:Params}{h:Heap}{args:List WData}{vals:List Value}
  (zf:l.row.toRowW.claim.pre args=true) (um:WellAll P h vals args):
  ∃a vs ns,vals=[aDb a]/\args=[WData.list (ns.map WData.int)]/\h.get? a=some {cls:=.type "list",data:=.seq vs.toArray}/\IntsAre vs ns/\ns.length<=n:=by
 have hsh:WShape.hasAll [] args [.list .int]=true:=(pre_splitW zf).1;have hc:l.pre.holds [] {args:=args}=true:=(pre_splitW zf).2;obtain⟨d,r,rfl,h1,h2⟩:=hasAllW_cons hsh;obtain rfl:=hasAllW_nil h2;obtain⟨xs,rfl,h3⟩:=hasW_list h1;obtain⟨ns,rfl⟩:=items_int h3;have hlen:ns.length<=n:=by
  unfold OpenLaw.pre at hc;have h4:(WTm.not<|.lt (.lit (.int (n:Int))) (.len (.arg 0))).holds [] {args:=[.list (ns.map .int)]}=true:=by have h4:=(holds_andW hc).1;rw[hn]at h4;exact h4
  have h5:=condW_of h4 (w_not<|w_lt w_lit<|w_len_list<|w_arg rfl);rw[aAm]at h5;refine aDX λq=>?_;have q':(n:Int)<((ns.length:Nat):Int):=by lia
  first
   |(rw[decide_eq_true q']at h5;exact absurd h5 (by decide))
   |(simp at h5;lia)
 cases um with
 |cons w1 w2=>
  cases w2;cases w1 with
  |list ho qm=>exact⟨_,_,ns,rfl,rfl,ho,mK ns _ qm,hlen⟩
def post_true (l:OpenLaw)(args:List WData):l.row.toRowW.claim.post args (.bool true) args=true:=
 postW_of (r:=l.row.toRowW) (X:=(true==true))
  (show WShape.has [] (.bool true) .bool=true by first|rfl|decide|simp[WShape.has,WShape.arms,WShape.armsAll])
  (show(WTm.eq .res (.lit (.bool true))).value [] {args:=args,res:=some (.bool true),after:=args}=some (.bool (true==true))from w_eq_bool (w_res rfl) w_lit) rfl
section
variable{prog:Program} {w:World} {A:Around} {E:F1} {s:Shared} {K:Frag}
def a2v (h:Heap):Heap:={h with objs:=#[]}
def a1d (h:Heap)(L d:Addr):List (Addr×Obj):=(aBL h.objs.size).filterMap λa=>if a=L\/a=d then none else(h.get? a).map λo=>(a,o)
end
end Att
namespace L2
open PySem PySem.Spec PyProof.Rows
theorem tM:∀{vs:List Value} {ns:List Int},IntsAre vs ns->l8 (ns.map V.int) vs
 |_,_,.nil=>.nil
 |_,_,.cons n t h=>.cons ⟨t,rfl⟩ (tM h)
end L2
namespace L2
open PySem PySem.Spec PyProof.Rows
end L2
namespace L2
open PySem PySem.Spec PyProof.Rows
def G7 (s:Stmt):Arguments:=match s with
 |.FunctionDef _ a _ _ _ _ _ _ _ _=>a
 |_=>{posonlyargs:=[],args:=[],vararg:=none,kwonlyargs:=[],kw_defaults:=[],kwarg:=none,defaults:=[]}
def q8 (s:Stmt):List Stmt:=match s with
 |.FunctionDef _ _ b _ _ _ _ _ _ _=>b
 |_=>[]
def c6 (s:Stmt):Scope:=match s with
 |.FunctionDef _ _ _ _ _ _ sc _ _ _=>sc
 |_=>{kind:=.function,names:=[],isGenerator:=false,isCoroutine:=false}
abbrev vE:OK:=λ_ _ _ _ _ _=>False
abbrev E0:XK:=λ_ _ _=>False
def xj:oN vE X E0:=λ_ _ _ _ _ _ _ h=>h.elim
structure Fun (K:PySem.W.Frag)(x qual:Str)(st:Stmt)(f:Addr)(fd:FuncData):Prop where
 ex:∃(oc:Value) (od:Option Addr) (kV doc pm:Value) (an:Option Addr) (cdv ct:Value) (osl:Array (Option Value)),
  fd=PySem.W.fnOf x qual (G7 st) (q8 st) (c6 st) .none kV doc pm an cdv ct/\K.lookup f=some ⟨oc,od,.func fd,osl⟩/\PySem.W.codeIn K cdv qual=true
 kp:PySem.W.keepIn K (.ref f)=true
section
variable{P:Program} {w:World} {K:PySem.W.Frag} {mg:Y0} {base:Heap}
def Fun.ok {x qual:Str}{st:Stmt}{f:Addr}{fd:FuncData}{N ps:List Str}{k:Nat}{sp:Sp}(F:Fun K x qual st f fd)(S:FnScope N ps (c6 st))(len:∀vs H Q E,sp vs H Q E->vs.length=ps.length)
  (wo:∀(cdv:Value) (A:Around) (outer:List Env) (s:Shared) (H:Hp) (vs:List V) (Q:VK) (E:XK),Room k (A.deeper (envOfC qual (c6 st) s.heap.objs.size f cdv))->sp vs H Q E->
   ∃t,uF (uO vE P w K mg base N qual (c6 st) f cdv A outer s H E).nox (q8 st) t/\t {nx:=λ_ H'=>Q .non H',rt:=Q} (start N vs) H):FnOk P w K mg base vE (k+1) f fd ps sp:=by
 obtain⟨oc,od,kV,doc,pm,an,cdv,ct,osl,rfl,lk,eu⟩:=F.ex;refine KJ lk eu S len λA outer s H vs Q E hr hsp=>?_;obtain⟨t,h,q⟩:=wo cdv A outer s H vs Q E hr hsp;exact⟨t,h.nox,q⟩
def Fun.binds {x qual:Str}{st:Stmt}{f:Addr}{fd:FuncData}{ps:List Str}(F:Fun K x qual st f fd)
  (h:∀(kV doc pm:Value) (an:Option Addr) (cdv ct:Value) (us:List Value),us.length=ps.length->bindArgs (PySem.W.fnOf x qual (G7 st) (q8 st) (c6 st) .none kV doc pm an cdv ct) ⟨us,[]⟩=pure (ps.zip us)):Binds K fd ps []:=by
 obtain⟨oc,od,kV,doc,pm,an,cdv,ct,osl,rfl,lk,eu⟩:=F.ex;exact .all (h kV doc pm an cdv ct)
def MP {x qual:Str}{st:Stmt}{f:Addr}{oc:Value}{od an:Option Addr}{osl:Array (Option Value)}{kV doc pm cdv ct:Value}(l:K.lookup f=some ⟨oc,od,.func (PySem.W.fnOf x qual (G7 st) (q8 st) (c6 st) .none kV doc pm an cdv ct),osl⟩)
 (c:PySem.W.codeIn K cdv qual=true) (k:PySem.W.keepIn K (.ref f)=true):Fun K x qual st f (PySem.W.fnOf x qual (G7 st) (q8 st) (c6 st) .none kV doc pm an cdv ct):=⟨⟨oc,od,kV,doc,pm,an,cdv,ct,osl,rfl,l,c⟩,k⟩
end
def HA (h:n<=1000):n<sizeLine:=aCH h (by decide)
section
variable{X:Cx}
end
def Same (H H':Hp):Prop:=∀b o,H b=some o->H' b=some o
def Same.refl (H:Hp):Same H H:=λ_ _ h=>h
def Same.trans (a:Same H H1)(b:Same H1 H2):Same H H2:=λc o h=>b c o (a c o h)
def Same.seq {K:PySem.W.Frag}{H H':Hp}{a:Addr}{xs:List V}(e:Same H H')(h:O6 K H a xs):O6 K H' a xs:=by
 rcases h with(h|⟨o,h⟩)|h
 ·exact .inl (.inl (e _ _ h))
 ·exact .inl (.inr ⟨o,e _ _ h⟩)
 ·exact .inr h
end L2
namespace DL
open PySem PySem.Spec L2
open PyProof.Rows hiding St
inductive D where
 |non|bl (b:Bool)|int (i:Int)|str (x:Str)|tup (xs:List D)|lst (xs:List D)|dct
mutual
def o7:D->Int
 |.int i=>hashInt i
 |.tup xs=>reduceHash (aAJ (uV xs))
 |_=>0
def uV:List D->List Int
 |[]=>[]
 |x::xs=>o7 x::uV xs
end
def R9:Nat->D->Bool
 |_,.int _=>true
 |n+1,.tup xs=>xs.all (R9 n)
 |_,_=>false
inductive R (α:Type)where
 |ok (a:α)|ex (e:Str)|bad
def R.bind {α β:Type}:R α->(α->R β)->R β
 |.ok a,f=>f a
 |.ex e,_=>.ex e
 |.bad,_=>.bad
@[simp]def R.aa0 {α β:Type}(a:α)(f:α->R β):(R.ok a).bind f=f a:=rfl
section
variable(K:PySem.W.Frag) (H:Hp) (O:Addr->Prop)
mutual
inductive Rep:V->D->Prop
 |non:Rep .non .non
 |bl {b:Bool}:Rep (.bl b) (.bl b)
 |int {i:Int}:Rep (.int i) (.int i)
 |str {x:Str}:Rep (.str x) (.str x)
 |tup {a:Addr} {vs:List V} {ds:List D} (h:X7 K H a vs) (r:Reps vs ds):Rep (.ref a) (.tup ds)
 |lst {a:Addr} {vs:List V} {ds:List D} (h:O6 K H a vs) (n:¬O a) (r:Reps vs ds):Rep (.ref a) (.lst ds)
 |dct {a:Addr} {o:Obj} (h:H a=some (.ext λh=>h.get? a=some o)) (x:o.ExactDict) (n:¬O a):Rep (.ref a) .dct
inductive Reps:List V->List D->Prop
 |nil:Reps [] []
 |cons {v:V} {d:D} {vs:List V} {ds:List D} (h:Rep v d) (t:Reps vs ds):Reps (v::vs) (d::ds)
end
end
section
variable{K:PySem.W.Frag}
def _root_.L2.Same.tup {a:Addr}{xs:List V}(e:Same H H')(h:X7 K H a xs):X7 K H' a xs:=by
 rcases h with(h|⟨o,h⟩)|h
 ·exact .inl (.inl (e _ _ h))
 ·exact .inl (.inr ⟨o,e _ _ h⟩)
 ·exact .inr h
mutual
theorem Rep.mono (hT:∀a xs,X7 K H a xs->X7 K H' a xs)(hL:∀a xs,¬O a->O6 K H a xs->¬O' a/\O6 K H' a xs)(hD:∀a φ,¬O a->H a=some (.ext φ)->¬O' a/\H' a=some (.ext φ)):∀{v:V} {d:D},Rep K H O v d->Rep K H' O' v d
 |_,_,.non=>.non
 |_,_,.bl=>.bl
 |_,_,.int=>.int
 |_,_,.str=>.str
 |_,_,.tup h r=>.tup (hT _ _ h) (Reps.mono hT hL hD r)
 |_,_,.lst h n r=>.lst (hL _ _ n h).2 (hL _ _ n h).1 (Reps.mono hT hL hD r)
 |_,_,.dct h x n=>.dct (hD _ _ n h).2 x (hD _ _ n h).1
theorem Reps.mono (hT:∀a xs,X7 K H a xs->X7 K H' a xs)(hL:∀a xs,¬O a->O6 K H a xs->¬O' a/\O6 K H' a xs)(hD:∀a φ,¬O a->H a=some (.ext φ)->¬O' a/\H' a=some (.ext φ)):∀{vs:List V} {ds:List D},Reps K H O vs ds->Reps K H' O' vs ds
 |_,_,.nil=>.nil
 |_,_,.cons h t=>.cons (Rep.mono hT hL hD h) (Reps.mono hT hL hD t)
end
def Rep.same (e:Same H H')(r:Rep K H O v d):Rep K H' O v d:=r.mono (λ_ _ h=>e.tup h) (λ_ _ n h=>⟨n,e.seq h⟩) λ_ _ n h=>⟨n,e _ _ h⟩
def Reps.same (e:Same H H')(r:Reps K H O v d):Reps K H' O v d:=r.mono (λ_ _ h=>e.tup h) (λ_ _ n h=>⟨n,e.seq h⟩) λ_ _ n h=>⟨n,e _ _ h⟩
def Rep.sub (e:∀a,O' a->O a)(r:Rep K H O v d):Rep K H O' v d:=r.mono (λ_ _ h=>h) (λ_ _ n h=>⟨λz=>n (e _ z),h⟩) λ_ _ n h=>⟨λz=>n (e _ z),h⟩
def Reps.sub (e:∀a,O' a->O a)(r:Reps K H O v d):Reps K H O' v d:=r.mono (λ_ _ h=>h) (λ_ _ n h=>⟨λz=>n (e _ z),h⟩) λ_ _ n h=>⟨λz=>n (e _ z),h⟩
theorem Reps.length:∀{vs:List V} {ds:List D},Reps K H O vs ds->vs.length=ds.length
 |_,_,.nil=>rfl
 |_,_,.cons _ t=>by simp[Reps.length t]
theorem Reps.get:∀{vs:List V} {ds:List D} {i:Nat} {d:D},Reps K H O vs ds->ds[i]?=some d->∃v,vs[i]?=some v/\Rep K H O v d
 |_,_,_,_,.nil,e=>by simp at e
 |_,_,0,_,.cons r _,e=>by simp at e;subst e;exact⟨_,rfl,r⟩
 |_,_,i+1,d,.cons _ t,e=>by obtain⟨u,h1,h2⟩:=Reps.get (i:=i) (d:=d) t (by simpa using e);exact⟨u,by simpa using h1,h2⟩
theorem Reps.append:∀{vs ws:List V} {ds es:List D},Reps K H O vs ds->Reps K H O ws es->Reps K H O (vs++ws) (ds++es)
 |_,_,_,_,.nil,s=>s
 |_,_,_,_,.cons r t,s=>.cons r (Reps.append t s)
theorem Reps.take:∀{vs:List V} {ds:List D} (n:Nat),Reps K H O vs ds->Reps K H O (vs.take n) (ds.take n)
 |_,_,0,_=>.nil
 |_,_,_+1,.nil=>.nil
 |_,_,n+1,.cons r t=>.cons r (Reps.take n t)
theorem Reps.drop:∀{vs:List V} {ds:List D} (n:Nat),Reps K H O vs ds->Reps K H O (vs.drop n) (ds.drop n)
 |_,_,0,r=>r
 |_,_,_+1,.nil=>.nil
 |_,_,n+1,.cons _ t=>Reps.drop n t
theorem Reps.set (r:Rep K H O v d):∀{vs:List V} {ds:List D} (i:Nat),Reps K H O vs ds->Reps K H O (vs.set i v) (ds.set i d)
 |_,_,_,.nil=>.nil
 |_,_,0,.cons _ t=>.cons r t
 |_,_,i+1,.cons q t=>.cons q (Reps.set r i t)
def Reps.dropLast (r:Reps K H O vs ds):Reps K H O vs.dropLast ds.dropLast:=by rw[aDS,aDS,r.length];exact r.take _
def Reps.snoc (r:Reps K H O vs ds)(h:Rep K H O v d):Reps K H O (vs++[v]) (ds++[d]):=r.append (.cons h .nil)
theorem Reps.ints:∀(ns:List Int),Reps K H O (ns.map V.int) (ns.map D.int)
 |[]=>.nil
 |_::ns=>.cons .int (Reps.ints ns)
theorem Reps.reverse:∀{vs:List V} {ds:List D},Reps K H O vs ds->Reps K H O vs.reverse ds.reverse
 |_,_,.nil=>.nil
 |_,_,.cons r t=>by rw[aAQ,aAQ];exact(Reps.reverse t).snoc r
end
def Kp (H:Hp)(O:Addr->Prop)(H':Hp)(O':Addr->Prop):Prop:=∀b o,H b=some o->¬O b->H' b=some o/\¬O' b
section
def Kp.refl (H:Hp)(O:Addr->Prop):Kp H O H O:=λ_ _ h n=>⟨h,n⟩
def Kp.of (s:Same H H'):Kp H O H' O:=λb o h n=>⟨s b o h,n⟩
def Kp.trans (a:Kp H O H' O')(b:Kp H' O' H'' O''):Kp H O H'' O'':=λc o h n=>let⟨h1,n1⟩:=a c o h n;b c o h1 n1
end
class Tabs where
 tbs:List (Addr×List (Pos×Str))
inductive Sl where
 |no|v (d:D)|o (xs:List D)|x (C:Value)|c (m:List D->R D) (φ:Hp->(Addr->Prop)->Addr->Prop)|d (kvs:List (D×D))
abbrev Ev:=List Sl
def Mt:HO->Prop
 |.lst _=>True
 |.dK _=>True
 |.dT _=>True
 |.ext _=>True
 |_=>False
def nV (K:PySem.W.Frag)(H:Hp)(O:Addr->Prop)(es:List DictEntry)(kvs:List (D×D)):Prop:=
 Paired (λ(e:DictEntry) (p:D×D)=>(∃a,e.key=.ref a/\Rep K H O (.ref a) p.1)/\(∃v,RelV v e.val/\Rep K H O v p.2)/\e.hash=o7 p.1/\R9 7 p.1=true) es kvs
def QF (a:Addr)(o:Obj)(es:List DictEntry):Prop:=(a==sysModules)=false/\o.ExactDict/\∃ea ep,o.data=.dict ea ep/\ea.toList=es
def IY:Sl->Prop
 |.o _=>True
 |.d _=>True
 |_=>False
section
variable(K:PySem.W.Frag) (Ha H:Hp) (O:Addr->Prop)
def jM (x:Option (Option V)):Sl->Prop
 |.no=>True
 |.v d=>∃v,x=some (some v)/\Rep K H O v d
 |.o xs=>∃a vs,x=some (some (V.ref a))/\O a/\Ha a=none/\H a=some (.lst vs)/\Reps K H O vs xs
 |.x C=>∃a o,x=some (some (V.ref a))/\H a=some (.frz o (.own a))/\o.cls=C
 |.c m φ=>∃a,x=some (some (V.ref a))/\∀H2 O2,Kp H O H2 O2->φ H2 O2 a
 |.d kvs=>∃a o es,x=some (some (V.ref a))/\O a/\Ha a=none/\H a=some (.ext λh=>h.get? a=some o)/\QF a o es/\nV K H O es kvs/\(kvs.map (·.1)).Nodup
end
variable [Tabs]
def Tb (H:Hp):Prop:=∀p∈Tabs.tbs,H p.1=some (.tbl p.2)
structure EnvOk (K:PySem.W.Frag)(Ha:Hp)(O0:Addr->Prop)(H:Hp)(O:Addr->Prop)(σ:St)(ρ:Ev):Prop where
 len:σ.length=ρ.length
 same:Same Ha H
 sub:∀a,O0 a->O a
 trk:∀a,O a->∃o,H a=some o/\Mt o
 trk0:∀a,O0 a->∃o,Ha a=some o
 tab:Tb H
 slot:∀(i:Nat) (sl:Sl),ρ[i]?=some sl->jM K Ha H O σ[i]? sl
 inj:∀(i j:Nat) (x y:Sl) (a:Addr),ρ[i]?=some x->ρ[j]?=some y->IY x->IY y->σ[i]?=some (some (V.ref a))->σ[j]?=some (some (V.ref a))->i=j
section
variable{K:PySem.W.Frag} {O0 O O':Addr->Prop}
def Tb.same (h:Tb H)(s:Same H H'):Tb H':=λp hp=>s _ _ (h p hp)
def EnvOk.val (E:EnvOk K Ha O0 H O σ ρ)(i:Nat)(d:D)(h:ρ[i]?=some (Sl.v d)):∃v,σ[i]?=some (some v)/\Rep K H O v d:=E.slot i _ h
def EnvOk.own (E:EnvOk K Ha O0 H O σ ρ)(i:Nat)(xs:List D)(h:ρ[i]?=some (Sl.o xs)):∃a vs,σ[i]?=some (some (V.ref a))/\O a/\Ha a=none/\H a=some (.lst vs)/\Reps K H O vs xs:=E.slot i _ h
def EnvOk.exc (E:EnvOk K Ha O0 H O σ ρ)(i:Nat)(C:Value)(h:ρ[i]?=some (Sl.x C)):∃a o,σ[i]?=some (some (V.ref a))/\H a=some (.frz o (.own a))/\o.cls=C:=E.slot i _ h
def nV.mono (f:∀{v:V} {d:D},Rep K H O v d->Rep K H' O' v d):∀{kvs:List (D×D)},nV K H O es kvs->nV K H' O' es kvs:=λ{_} r=>Paired.af8 r λ_ _ ⟨⟨v,h1,h2⟩,⟨w,h3,h4⟩,h5⟩=>⟨⟨v,h1,f h2⟩,⟨w,h3,f h4⟩,h5⟩
def jM.move (h:jM K Ha H O x sl)(hT:∀a xs,X7 K H a xs->X7 K H' a xs)(hL:∀a xs,¬O a->O6 K H a xs->¬O' a/\O6 K H' a xs)(hF:∀a o u,H a=some (.frz o u)->H' a=some (.frz o u))(hk:Kp H O H' O')(ho:IY sl->∀a o,x=some (some (V.ref a))->O a->H a=some o->O' a/\H' a=some o):jM K Ha H' O' x sl:=by
 have hD:∀a φ,¬O a->H a=some (.ext φ)->¬O' a/\H' a=some (.ext φ):=λa φ n h=>⟨(hk a _ h n).2,(hk a _ h n).1⟩;cases sl with
 |no=>trivial
 |v d=>obtain⟨v,h1,h2⟩:=h;exact⟨v,h1,h2.mono hT hL hD⟩
 |o xs=>obtain⟨a,vs,h1,h2,h3,h4,h5⟩:=h;obtain⟨h6,h7⟩:=ho trivial a _ h1 h2 h4;exact⟨a,vs,h1,h6,h3,h7,h5.mono hT hL hD⟩
 |x C=>obtain⟨a,o,h1,h2,h3⟩:=h;exact⟨a,o,h1,hF _ _ _ h2,h3⟩
 |c m φ=>obtain⟨a,h1,h2⟩:=h;exact⟨a,h1,λH2 O2 k=>h2 H2 O2 (hk.trans k)⟩
 |d kvs=>obtain⟨a,o,es,h1,h2,h3,h4,h5,h6⟩:=h;obtain⟨h7,h8⟩:=ho trivial a _ h1 h2 h4;exact⟨a,o,es,h1,h7,h3,h8,h5,h6.1.mono λr=>r.mono hT hL hD,h6.2⟩
def jM.grow (h:jM K Ha H O x sl)(e:Same H H'):jM K Ha H' O x sl:=
 h.move (λ_ _ q=>e.tup q) (λ_ _ n q=>⟨n,e.seq q⟩) (λ_ _ _ q=>e _ _ q) (Kp.of e) λ_ _ _ _ q1 q2=>⟨q1,e _ _ q2⟩
def EnvOk.grow (E:EnvOk K Ha O0 H O σ ρ)(e:Same H H'):EnvOk K Ha O0 H' O σ ρ where
 len:=E.len
 same:=E.same.trans e
 sub:=E.sub
 trk:=λa h=>let⟨o,q,m⟩:=E.trk a h;⟨o,e a o q,m⟩
 trk0:=E.trk0
 tab:=E.tab.same e
 slot:=λi sl h=>(E.slot i sl h).grow e
 inj:=E.inj
def EnvOk.fresh (E:EnvOk K Ha O0 H O σ ρ)(h:H p=none):¬O p:=λz=>by obtain⟨o,q,_⟩:=E.trk p z;rw[h]at q;cases q
def u7 {α:Type}{l:List α}{i j:Nat}{x:α}(h:i≠j):(l.set i x)[j]?=l[j]?:=aCr h
def B6 {α:Type}{l:List α}{i:Nat}{x y:α}(h:(l.set i x)[i]?=some y):y=x/\i<l.length:=by
 have hl:i<l.length:=by have:=(aAz.mp h).1;simpa using this
 rw[aBt hl]at h;exact⟨(aAj h).symm,hl⟩
def EnvOk.put (E:EnvOk K Ha O0 H O σ ρ){v:Option V}{sl:Sl}(i:Nat)(no:¬IY sl)(r:jM K Ha H O (some v) sl):EnvOk K Ha O0 H O (σ.set i v) (ρ.set i sl)where
 len:=by simpa using E.len
 same:=E.same
 sub:=E.sub
 trk:=E.trk
 trk0:=E.trk0
 tab:=E.tab
 slot:=λj s h=>by
  by_cases hj:i=j
  ·subst hj;obtain⟨e,hl⟩:=B6 h;subst e;rw[aBt (by rw[E.len];exact hl)];exact r
  ·rw[u7 hj]at h⊢;exact E.slot j s h
 inj:=λj k x y a h1 h2 o1 o2 h3 h4=>by
  have ne:∀(l:Nat) (z:Sl),(ρ.set i sl)[l]?=some z->IY z->i≠l:=λl z q o e=>by subst e;obtain⟨e,_⟩:=B6 q;subst e;exact no o
  have n1:=ne j x h1 o1;have n2:=ne k y h2 o2;rw[u7 n1]at h1 h3;rw[u7 n2]at h2 h4;exact E.inj j k x y a h1 h2 o1 o2 h3 h4
def EnvOk.set (E:EnvOk K Ha O0 H O σ ρ)(i:Nat)(r:Rep K H O v d):EnvOk K Ha O0 H O (σ.set i (some v)) (ρ.set i (.v d)):=E.put i (λz=>z) ⟨v,rfl,r⟩
def jM.at_ (h:jM K Ha H O x sl)(o:IY sl):∃a u,x=some (some (V.ref a))/\O a/\Ha a=none/\H a=some u/\Mt u:=by
 cases sl with
 |o xs=>obtain⟨a,vs,h1,h2,h3,h4,_⟩:=h;exact⟨a,_,h1,h2,h3,h4,trivial⟩
 |d kvs=>obtain⟨a,u,es,h1,h2,h3,h4,_⟩:=h;exact⟨a,_,h1,h2,h3,h4,trivial⟩
 |_=>exact o.elim
def EnvOk.af4 (E:EnvOk K Ha O0 H O σ ρ){a:Addr}{sl:Sl}(i:Nat)(hn:∀(j:Nat) (y:Sl),i≠j->ρ[j]?=some y->IY y->σ[j]?≠some (some (V.ref a)))(r:jM K Ha H O (some (some (V.ref a))) sl):
  EnvOk K Ha O0 H O (σ.set i (some (V.ref a))) (ρ.set i sl)where
 len:=by simpa using E.len
 same:=E.same
 sub:=E.sub
 trk:=E.trk
 trk0:=E.trk0
 tab:=E.tab
 slot:=λj s h=>by
  by_cases hj:i=j
  ·subst hj;obtain⟨e,hl⟩:=B6 h;subst e;rw[aBt (by rw[E.len];exact hl)];exact r
  ·rw[u7 hj]at h⊢;exact E.slot j s h
 inj:=λj k x y b h1 h2 o1 o2 h3 h4=>by
  have at_:∀(l:Nat),i=l->(σ.set i<|some<|V.ref a)[l]?=some (some<|V.ref b)->b=a:=λl e q=>by subst e;obtain⟨e,_⟩:=B6 q;injection e with e;injection e
  by_cases hj:i=j
  ·by_cases hk:i=k
   ·exact hj.symm.trans hk
   ·exfalso;have eb:=at_ j hj h3;subst eb;rw[u7 hk]at h2 h4;exact hn k y hk h2 o2 h4
  ·by_cases hk:i=k
   ·exfalso;have eb:=at_ k hk h4;subst eb;rw[u7 hj]at h1 h3;exact hn j x hj h1 o1 h3
   ·rw[u7 hj]at h1 h3;rw[u7 hk]at h2 h4;exact E.inj j k x y b h1 h2 o1 o2 h3 h4
def j4 (h:H p=none)(o:HO):Same H (upd H p o):=λb u q=>by rw[j7 (t8 q h)];exact q
def EnvOk.ab8 (E:EnvOk K Ha O0 H O σ ρ)(h:H a=none)(hk:K.lookup a=none)(m:Mt u):EnvOk K Ha O0 (upd H a u) (λb=>O b\/b=a) σ ρ:=by
 have s:=j4 h u;have ne:∀b xs,O6 K H b xs->b≠a:=λb xs q z=>by
  subst z;rcases q with(q|⟨o,q⟩)|⟨o,_,_,q,_⟩
  ·rw[h]at q;cases q
  ·rw[h]at q;cases q
  ·rw[hk]at q;cases q
 refine⟨E.len,E.same.trans s,λb z=>.inl (E.sub b z),λb z=>?_,E.trk0,E.tab.same s,λi sl e=>?_,E.inj⟩
 ·rcases z with z|z
  ·obtain⟨o,q,m⟩:=E.trk b z;exact⟨o,s b o q,m⟩
  ·subst z;exact⟨_,i9,m⟩
 ·exact(E.slot i sl e).move (λ_ _ q=>s.tup q) (λb xs n q=>⟨λz=>z.elim n (ne b xs q),s.seq q⟩) (λ_ _ _ q=>s _ _ q) (λb o hb n=>⟨s b o hb,λz=>z.elim n λe=>by subst e;rw[h]at hb;cases hb⟩) λ_ b o _ q1 q2=>⟨.inl q1,s _ _ q2⟩
def bj (h:H a=none)(hk:K.lookup a=none)(q:O6 K H b xs):b≠a:=λz=>by
 subst z;rcases q with(q|⟨o,q⟩)|⟨o,_,_,q,_⟩
 ·rw[h]at q;cases q
 ·rw[h]at q;cases q
 ·rw[hk]at q;cases q
def Reps.ab8 (h:H a=none)(hk:K.lookup a=none)(r:Reps K H O v d):Reps K (upd H a u) (λb=>O b\/b=a) v d:=
 r.mono (λ_ _ q=>(j4 h u).tup q) (λb xs n q=>⟨λz=>z.elim n (bj h hk q),(j4 h u).seq q⟩) λb φ n q=>⟨λz=>z.elim n (t8 q h),j4 h u _ _ q⟩
def EnvOk.ae0 (E:EnvOk K Ha O0 H O σ ρ)(i:Nat)(h:H a=none)(hk:K.lookup a=none)(m:Mt u)(r:Ha a=none->jM K Ha (upd H a u) (λb=>O b\/b=a) (some (some (V.ref a))) sl):
  EnvOk K Ha O0 (upd H a u) (λb=>O b\/b=a) (σ.set i (some (.ref a))) (ρ.set i sl):=by
 have h0:Ha a=none:=by
  cases e:Ha a with
  |none=>rfl
  |some o=>have:=E.same a o e;rw[h]at this;cases this
 refine(E.ab8 h hk m).af4 i (λj y _ e o q=>?_) (r h0);obtain⟨b,w,p1,_,_,p4,_⟩:=(E.slot j y e).at_ o;rw[q]at p1;injection p1 with p1;injection p1 with p1;injection p1 with p1;subst p1;rw[h]at p4;cases p4
def vW (h:H a=some u)(m:Mt u)(q:X7 K H b xs):X7 K (upd H a u') b xs:=by
 have ne:∀w,H b=some w->¬Mt w->b≠a:=λw e n z=>by subst z;rw[h]at e;cases e;exact n m
 rcases q with(q|⟨o,q⟩)|q
 ·exact .inl (.inl (by rw[j7 (ne _ q λz=>z)];exact q))
 ·exact .inl (.inr ⟨o,by rw[j7 (ne _ q λz=>z)];exact q⟩)
 ·exact .inr q
def vM (hO:O a)(n:¬O b)(q:O6 K H b xs):O6 K (upd H a u') b xs:=by
 have ne:b≠a:=λz=>by subst z;exact n hO
 rcases q with(q|⟨o,q⟩)|q
 ·exact .inl (.inl (by rw[j7 ne];exact q))
 ·exact .inl (.inr ⟨o,by rw[j7 ne];exact q⟩)
 ·exact .inr q
def Rep.upd (h:H a=some u)(m:Mt u)(hO:O a)(r:Rep K H O v d):Rep K (upd H a u') O v d:=r.mono (λ_ _ q=>vW h m q) (λ_ _ n q=>⟨n,vM hO n q⟩) λb _ n q=>⟨n,by rw[j7 (λz=>n (by rw[z];exact hO))];exact q⟩
def Reps.upd (h:H a=some u)(m:Mt u)(hO:O a)(r:Reps K H O v d):Reps K (upd H a u') O v d:=r.mono (λ_ _ q=>vW h m q) (λ_ _ n q=>⟨n,vM hO n q⟩) λb _ n q=>⟨n,by rw[j7 (λz=>n (by rw[z];exact hO))];exact q⟩
def EnvOk.ad9 {i:Nat}{sl sl':Sl}{a:Addr}{u u':HO}(E:EnvOk K Ha O0 H O σ ρ)(e:ρ[i]?=some sl)(ow:IY sl)(h1:σ[i]?=some (some (V.ref a)))(hu:H a=some u)(m':Mt u')(ow':IY sl')
  (r:O a->Ha a=none->Mt u->jM K Ha (upd H a u') O (some (some (V.ref a))) sl'):EnvOk K Ha O0 (upd H a u') O σ (ρ.set i sl')/\Kp H O (upd H a u') O:=by
 obtain⟨b,w,p1,p2,p3,p4,m⟩:=(E.slot i sl e).at_ ow;rw[h1]at p1;injection p1 with p1;injection p1 with p1;injection p1 with p1;subst p1;rw[hu]at p4;cases p4;have kp:Kp H O (upd H a u') O:=λb o hb n=>⟨by rw[j7 (λz=>by subst z;exact n p2)];exact hb,n⟩;have nf:∀b w,H b=some w->¬Mt w->upd H a u' b=some w:=λb w q n=>by rw[j7 (λz=>by subst z;rw[hu]at q;cases q;exact n m)];exact q
 refine⟨⟨by simpa using E.len,λb o q=>?_,E.sub,λb z=>?_,E.trk0,λp hp=>nf _ _ (E.tab p hp) λz=>z,λj s h=>?_,λj k x y b q1 q2 o1 o2 q3 q4=>?_⟩,kp⟩
 ·rw[j7 (λz=>by subst z;rw[p3]at q;cases q)];exact E.same b o q
 ·by_cases hb:b=a
  ·subst hb;exact⟨_,i9,m'⟩
  ·obtain⟨o,q,m⟩:=E.trk b z;exact⟨o,by rw[j7 hb];exact q,m⟩
 ·by_cases hj:i=j
  ·subst hj;obtain⟨e',_⟩:=B6 h;subst e';rw[h1];exact r p2 p3 m
  ·rw[u7 hj]at h;refine(E.slot j s h).move (λ_ _ q=>vW hu m q) (λ_ _ n q=>⟨n,vM p2 n q⟩) (λb o w q=>nf _ _ q λz=>z) kp λo b w q1 q2 q3=>⟨q2,?_⟩;rw[j7 (λz=>by subst z;exact hj (E.inj i j sl s b e h ow o h1 q1))];exact q3
 ·have fin:∀l z,(ρ.set i sl')[l]?=some z->IY z->∃z',ρ[l]?=some z'/\IY z':=λl z q o=>by
   by_cases hl:i=l
   ·subst hl;exact⟨sl,e,ow⟩
   ·rw[u7 hl]at q;exact⟨z,q,o⟩
  obtain⟨x',u1,o1'⟩:=fin j x q1 o1;obtain⟨y',u2,o2'⟩:=fin k y q2 o2;exact E.inj j k x' y' b u1 u2 o1' o2' q3 q4
def EnvOk.ae5 {i:Nat}{sl sl':Sl}{a:Addr}(E:EnvOk K Ha O0 H O σ ρ)(e:ρ[i]?=some sl)(ow:IY sl)(h1:σ[i]?=some (some (V.ref a)))(no:¬IY sl')(r:jM K Ha H (λb=>O b/\b≠a) (some (some (V.ref a))) sl'):
  EnvOk K Ha O0 H (λb=>O b/\b≠a) σ (ρ.set i sl'):=by
 obtain⟨b,w,p1,p2,p3,p4,m⟩:=(E.slot i sl e).at_ ow;rw[h1]at p1;injection p1 with p1;injection p1 with p1;injection p1 with p1;subst p1;have sub:∀b,(O b/\b≠a)->O b:=λb z=>z.1;refine⟨by simpa using E.len,E.same,λb z=>⟨E.sub b z,λq=>?_⟩,λb z=>E.trk b z.1,E.trk0,E.tab,λj s h=>?_,λj k x y b q1 q2 o1 o2 q3 q4=>?_⟩
 ·subst q;obtain⟨o,q⟩:=E.trk0 b z;rw[p3]at q;cases q
 ·by_cases hj:i=j
  ·subst hj;obtain⟨e',_⟩:=B6 h;subst e';rw[h1];exact r
  ·rw[u7 hj]at h;refine(E.slot j s h).move (λ_ _ q=>q) (λ_ _ n q=>⟨λz=>n z.1,q⟩) (λ_ _ _ q=>q) (λb o hb n=>⟨hb,λz=>n z.1⟩) λo b w q1 q2 q3=>⟨⟨q2,λz=>?_⟩,q3⟩;subst z;exact hj (E.inj i j sl s b e h ow o h1 q1)
 ·have n1:i≠j:=λz=>by subst z;obtain⟨e',_⟩:=B6 q1;subst e';exact no o1
  have n2:i≠k:=λz=>by subst z;obtain⟨e',_⟩:=B6 q2;subst e';exact no o2
  rw[u7 n1]at q1;rw[u7 n2]at q2;exact E.inj j k x y b q1 q2 o1 o2 q3 q4
end
def XW (X:Cx)(e:Str)(H:Hp):Prop:=False
def RC (X:Cx)(H:Hp)(O:Addr->Prop)(r:R D)(Q:VK):Prop:=match r with
 |.ok d=>∀v H',Same H H'->Rep X.K H' O v d->Q v H'
 |.ex e=>∀H',Same H H'->XW X e H'
 |.bad=>False
def C0 (K:PySem.W.Frag)(H:Hp)(O:Addr->Prop)(v:V)(d:D):Prop:=Rep K H O v d\/∃a vs ds,v=.ref a/\d=.lst ds/\O6 K H a vs/\Reps K H O vs ds
def OY (X:Cx)(H:Hp)(O:Addr->Prop)(r:R D)(Q:VK):Prop:=match r with
 |.ok d=>∀v H',Same H H'->C0 X.K H' O v d->Q v H'
 |.ex e=>∀H',Same H H'->XW X e H'
 |.bad=>False
def tH (X:Cx)(H:Hp)(r:R Bool)(Q:Bool->Hp->Prop):Prop:=match r with
 |.ok b=>∀H',Same H H'->Q b H'
 |.ex e=>∀H',Same H H'->XW X e H'
 |.bad=>False
def GJ (X:Cx)(H:Hp)(O:Addr->Prop)(r:R (List D))(Q:List V->Hp->Prop):Prop:=match r with
 |.ok ds=>∀vs H',Same H H'->Reps X.K H' O vs ds->Q vs H'
 |.ex e=>∀H',Same H H'->XW X e H'
 |.bad=>False
def NI (X:Cx)(H:Hp)(O:Addr->Prop)(r:R (List D))(Q:List V->Hp->Prop):Prop:=match r with
 |.ok ds=>∀vs H',Same H H'->Paired (C0 X.K H' O) vs ds->Q vs H'
 |.ex e=>∀H',Same H H'->XW X e H'
 |.bad=>False
def tD (X:Cx)(f:Ev->R D):TE:=λσ H Q=>∃Ha O0 O ρ,EnvOk X.K Ha O0 H O σ ρ/\RC X H O (f ρ) Q
def tDB (X:Cx)(f:Ev->R D):TE:=λσ H Q=>∃Ha O0 O ρ,EnvOk X.K Ha O0 H O σ ρ/\OY X H O (f ρ) Q
def tDT (X:Cx)(f:Ev->R Bool):TT:=λσ H Q=>∃Ha O0 O ρ,EnvOk X.K Ha O0 H O σ ρ/\tH X H (f ρ) Q
def tDs (X:Cx)(f:Ev->R (List D)):TA:=λσ H Q=>∃Ha O0 O ρ,EnvOk X.K Ha O0 H O σ ρ/\GJ X H O (f ρ) Q
def a3e (X:Cx)(f:Ev->R (List D)):TA:=λσ H Q=>∃Ha O0 O ρ,EnvOk X.K Ha O0 H O σ ρ/\NI X H O (f ρ) Q
def PD (X:Cx)(e:Expr)(f:Ev->R D):Prop:=PE X e (tD X f)
def PB (X:Cx)(e:Expr)(f:Ev->R D):Prop:=PE X e (tDB X f)
def BO (X:Cx)(e:Expr)(f:Ev->R Bool):Prop:=PT X e (tDT X f)
def qH (X:Cx)(es:List Expr)(f:Ev->R (List D)):Prop:=PA X es (tDs X f)
def cz (X:Cx)(es:List Expr)(f:Ev->R (List D)):Prop:=PA X es (a3e X f)
def PM {r:Hp->(Addr->Prop)->Ev->VK->Prop}(h:PE X e t)(i:∀σ H Q Ha O0 O ρ,EnvOk X.K Ha O0 H O σ ρ->r H O ρ Q->t σ H Q):PE X e λσ H Q=>∃Ha O0 O ρ,EnvOk X.K Ha O0 H O σ ρ/\r H O ρ Q:=λpins s σ H Q I q=>h pins s σ H Q I (let⟨Ha,O0,O,ρ,E,q⟩:=q;i σ H Q Ha O0 O ρ E q)
def ptI {r:Hp->(Addr->Prop)->Ev->(Bool->Hp->Prop)->Prop}(h:PT X e t)(i:∀σ H Q Ha O0 O ρ,EnvOk X.K Ha O0 H O σ ρ->r H O ρ Q->t σ H Q):PT X e λσ H Q=>∃Ha O0 O ρ,EnvOk X.K Ha O0 H O σ ρ/\r H O ρ Q:=λpins s σ H Q I q=>h pins s σ H Q I (let⟨Ha,O0,O,ρ,E,q⟩:=q;i σ H Q Ha O0 O ρ E q)
def paI {r:Hp->(Addr->Prop)->Ev->(List V->Hp->Prop)->Prop}(h:PA X es t)(i:∀σ H Q Ha O0 O ρ,EnvOk X.K Ha O0 H O σ ρ->r H O ρ Q->t σ H Q):PA X es λσ H Q=>∃Ha O0 O ρ,EnvOk X.K Ha O0 H O σ ρ/\r H O ρ Q:=λpos pins s σ H Q I q=>h pos pins s σ H Q I (let⟨Ha,O0,O,ρ,E,q⟩:=q;i σ H Q Ha O0 O ρ E q)
def qO {β:Type}{r:Hp->(Addr->Prop)->Ev->β->Prop}{G:List (Addr×Obj)->Shared->St->Hp->β->Prop}(h:∀pins s σ H Q,Inv X pins σ H s->∀Ha O0 O ρ,EnvOk X.K Ha O0 H O σ ρ->r H O ρ Q->G pins s σ H Q)(pins s σ H Q)(I:Inv X pins σ H s)(q:∃Ha O0 O ρ,EnvOk X.K Ha O0 H O σ ρ/\r H O ρ Q):G pins s σ H Q:=let⟨Ha,O0,O,ρ,E,q⟩:=q;h pins s σ H Q I Ha O0 O ρ E q
def PD.pb (h:PD X e f):PB X e f:=PM h λσ H Q Ha O0 O ρ E q=>⟨Ha,O0,O,ρ,E,by
 unfold RC OY at*
 cases e:f ρ with
 |ok d=>rw[e]at q;exactλv H' s r=>q v H' s (.inl r)
 |ex x=>rw[e]at q;exact q
 |bad=>rw[e]at q;exact q⟩
def RC.seq {O:Addr->Prop}(h:RC X H O (r.bind g) Q):
  RC X H O r λv H1=>∃d,r=.ok d/\Same H H1/\Rep X.K H1 O v d/\RC X H1 O (g d) Q:=by
 cases r with
 |ok d=>
  intro v H1 s1 r1;refine⟨d,rfl,s1,r1,?_⟩;have h':RC X H O (g d) Q:=h;cases e:g d with
  |ok d'=>rw[e]at h';exactλw H2 s2 r2=>h' w H2 (s1.trans s2) r2
  |ex x=>rw[e]at h';exactλH2 s2=>h' H2 (s1.trans s2)
  |bad=>rw[e]at h';exact h'
 |ex x=>exact h
 |bad=>exact h
def OY.seq {O:Addr->Prop}(h:RC X H O (r.bind g) Q):
  OY X H O r λv H1=>∃d,r=.ok d/\Same H H1/\C0 X.K H1 O v d/\RC X H1 O (g d) Q:=by
 cases r with
 |ok d=>
  intro v H1 s1 r1;refine⟨d,rfl,s1,r1,?_⟩;have h':RC X H O (g d) Q:=h;cases e:g d with
  |ok d'=>rw[e]at h';exactλw H2 s2 r2=>h' w H2 (s1.trans s2) r2
  |ex x=>rw[e]at h';exactλH2 s2=>h' H2 (s1.trans s2)
  |bad=>rw[e]at h';exact h'
 |ex x=>exact h
 |bad=>exact h
def RC.grow {O:Addr->Prop}(h:RC X H O r Q)(s1:Same H H1):RC X H1 O r Q:=by
 cases r with
 |ok d=>exactλw H2 s2 r2=>h w H2 (s1.trans s2) r2
 |ex x=>exactλH2 s2=>h H2 (s1.trans s2)
 |bad=>exact h
section
variable{X:Cx}
def C0.same (e:Same H H')(r:C0 X.K H O v d):C0 X.K H' O v d:=by
 rcases r with r|⟨a,vs,ds,h1,h2,h3,h4⟩
 ·exact .inl (r.same e)
 ·exact .inr ⟨a,vs,ds,h1,h2,e.seq h3,h4.same e⟩
def C0.aa4 {K:PySem.W.Frag}{ds:List D}(r:C0 K H O v (.lst ds)):∃a vs,v=.ref a/\O6 K H a vs/\Reps K H O vs ds:=by
 rcases r with r|⟨a,vs,es,h1,h2,h3,h4⟩
 ·cases r with|lst h n r=>exact⟨_,_,rfl,h,r⟩
 ·injection h2 with h2;subst h2;exact⟨a,vs,h1,h3,h4⟩
def C0.ag0 {K:PySem.W.Frag}(r:C0 K H O v .dct):∃a o,v=.ref a/\H a=some (.ext λh=>h.get? a=some o)/\o.ExactDict:=by
 rcases r with r|⟨a,vs,es,h1,h2,h3,h4⟩
 ·cases r with|dct h x n=>exact⟨_,_,rfl,h,x⟩
 ·cases h2
def C0.tupI {K:PySem.W.Frag}{ds:List D}(r:C0 K H O v (.tup ds)):∃a vs,v=.ref a/\X7 K H a vs/\Reps K H O vs ds:=by
 rcases r with r|⟨a,vs,es,h1,h2,h3,h4⟩
 ·cases r with|tup h r=>exact⟨_,_,rfl,h,r⟩
 ·cases h2
def C0.aa2 {K:PySem.W.Frag}{i:Int}(r:C0 K H O v (.int i)):v=.int i:=by
 rcases r with r|⟨a,vs,es,h1,h2,h3,h4⟩
 ·cases r;rfl
 ·cases h2
def C0.blI {K:PySem.W.Frag}{i:Bool}(r:C0 K H O v (.bl i)):v=.bl i:=by
 rcases r with r|⟨a,vs,es,h1,h2,h3,h4⟩
 ·cases r;rfl
 ·cases h2
def C0.ac1 {K:PySem.W.Frag}(r:C0 K H O v .non):v=.non:=by
 rcases r with r|⟨a,vs,es,h1,h2,h3,h4⟩
 ·cases r;rfl
 ·cases h2
def C0.ac3 {K:PySem.W.Frag}{i:Str}(r:C0 K H O v (.str i)):v=.str i:=by
 rcases r with r|⟨a,vs,es,h1,h2,h3,h4⟩
 ·cases r;rfl
 ·cases h2
end
def cI (i:Nat)(ρ:Ev):R D:=match ρ[i]? with
 |some (.v d)=>.ok d
 |_=>.bad
def wG (i:Nat)(ρ:Ev):R D:=match ρ[i]? with
 |some (.v d)=>.ok d
 |some (.o xs)=>.ok (.lst xs)
 |_=>.bad
section
def c9 (i:Nat)(hN:X.N[i]?=some x:=by rfl)(hv:sF X.env.scope x:=by first|exact aBY rfl|exact aBk (aBY rfl)|exact aBk (aBk rfl))(hd:(x==("__debug__":Str))=false:=by decide)(eu:(x==("__classdict__":Str))=false:=by decide):PD X (.Name x pos) (cI i):=PM (M6 hN hv hd eu) λσ H Q Ha O0 O ρ E q=>by
 unfold cI at q;cases e:ρ[i]? with
 |none=>rw[e]at q;exact q.elim
 |some sl=>
  rw[e]at q;cases sl with
  |no=>exact q.elim
  |x C=>exact q.elim
  |c m φ=>exact q.elim
  |d kvs=>exact q.elim
  |o xs=>exact q.elim
  |v d=>obtain⟨v,h1,h2⟩:=E.val i d e;exact⟨v,h1,q v H (Same.refl H) h2⟩
def b9 (i:Nat)(hN:X.N[i]?=some x:=by rfl)(hv:sF X.env.scope x:=by first|exact aBY rfl|exact aBk (aBY rfl)|exact aBk (aBk rfl))(hd:(x==("__debug__":Str))=false:=by decide)(eu:(x==("__classdict__":Str))=false:=by decide):PB X (.Name x pos) (wG i):=PM (M6 hN hv hd eu) λσ H Q Ha O0 O ρ E q=>by
 unfold wG at q;cases e:ρ[i]? with
 |none=>rw[e]at q;exact q.elim
 |some sl=>
  rw[e]at q;cases sl with
  |no=>exact q.elim
  |x C=>exact q.elim
  |c m φ=>exact q.elim
  |d kvs=>exact q.elim
  |o xs=>obtain⟨a,vs,h1,h2,h3,h4,h5⟩:=E.own i xs e;exact⟨_,h1,q _ H (Same.refl H) (.inr ⟨a,vs,xs,rfl,rfl,O6.of h4,h5⟩)⟩
  |v d=>obtain⟨v,h1,h2⟩:=E.val i d e;exact⟨v,h1,q v H (Same.refl H) (.inl h2)⟩
def BV (d:D)(_:Ev):R D:=.ok d
def nU (h:PE X e (tC v))(r:∀H O,Rep X.K H O v d):PD X e (BV d):=PM h λσ H Q Ha O0 O ρ E q=>q v H (Same.refl H) (r H O)
def d4 {j pos}:PD X (.Constant (.int i) j pos) (BV (.int i)):=nU JX λ_ _=>.int
def jB {j pos}:PD X (.Constant (.bool i) j pos) (BV (.bl i)):=nU kq λ_ _=>.bl
def NB {j pos}:PD X (.Constant (.str i) j pos) (BV (.str i)):=nU ZG λ_ _=>.str
def uL {j pos}:PD X (.Constant .none j pos) (BV .non):=nU az λ_ _=>.non
def mI (X:Cx)(f:Value->Value->Sem Value)(g:D->D->R D):Prop:=
 ∀(H:Hp) (O:Addr->Prop) (x y:V) (dx dy:D) (Q:VK),(∀p,H p=none->¬O p)->C0 X.K H O x dx->C0 X.K H O y dy->RC X H O (g dx dy) Q->∃r,mE X f r/\r x y H Q
def a1w (X:Cx)(O:Addr->Prop)(g:D->D->R D)(Q:VK):V->V->Hp->Prop:=λx y H=>∃dx dy,(∀p,H p=none->¬O p)/\C0 X.K H O x dx/\C0 X.K H O y dy/\RC X H O (g dx dy) Q
def nH {O0 O:Addr->Prop}(E:EnvOk X.K Ha O0 H O σ ρ)(q:RC X H O ((f1 ρ).bind λx=>(f2 ρ).bind λy=>g x y) Q):
  tDB X f1 σ H λx H1=>tDB X f2 σ H1 λy H2=>a1w X O g Q x y H2:=by
 refine⟨Ha,O0,O,ρ,E,?_⟩;have h1:=OY.seq q;revert h1;cases e1:f1 ρ with
 |ok d1=>
  intro h1 x H1 s1 r1;obtain⟨d,e,_,r,h2⟩:=h1 x H1 s1 r1;cases e;have E1:=E.grow s1;refine⟨Ha,O0,O,ρ,E1,?_⟩;have h3:=OY.seq h2;revert h3;cases e2:f2 ρ with
  |ok d2=>intro h3 y H2 s2 r2;obtain⟨d',e,_,r',h4⟩:=h3 y H2 s2 r2;cases e;exact⟨d1,d2,λp hp=>(E1.grow s2).fresh hp,r.same s2,r',h4⟩
  |ex x=>intro h3;exact h3
  |bad=>intro h3;exact h3
 |ex x=>intro h1;exact h1
 |bad=>intro h1;exact h1
def d8 (ho:mI X (binaryOp op) g)(ha:PB X a f1)(hb:PB X b f2):PD X (.BinOp a op b pos) (λρ=>(f1 ρ).bind λx=>(f2 ρ).bind λy=>g x y):=by refine qO λpins s σ H Q I Ha O0 O ρ E q=>?_;refine wpAny_BinOp (HW ha hb I (nH E q) λv u s2 x y H2 I2 rx ry h=>?_);obtain⟨dx,dy,fr,r1,r2,q⟩:=h;obtain⟨r,hr,hq⟩:=ho H2 O x y dx dy Q fr r1 r2 q;exact hr pins s2 σ H2 x y v u Q I2 rx ry hq
def BF (ho:mI X (compareOp op) g)(ha:PB X a f1)(hb:PB X b f2)(hm:behindInMarks op b=false:=by first|exact NS _|with_unfolding_all rfl):
  PD X (.Compare a [op] [b] pos) (λρ=>(f1 ρ).bind λx=>(f2 ρ).bind λy=>g x y):=by
 refine qO λpins s σ H Q I Ha O0 O ρ E q=>?_;refine wpAny_Compare1 (HW ha hb I (nH E q) λv u s2 x y H2 I2 rx ry h=>?_) hm;obtain⟨dx,dy,fr,r1,r2,q⟩:=h;obtain⟨r,hr,hq⟩:=ho H2 O x y dx dy Q fr r1 r2 q;exact hr pins s2 σ H2 x y v u Q I2 rx ry hq
def HM:D->R Bool
 |.bl b=>.ok b
 |_=>.bad
def nJ {O:Addr->Prop}{Q:Bool->Hp->Prop}(h:tH X H (r.bind HM) Q):RC X H O r λv H1=>∃c,v=.bl c/\Q c H1:=by
 cases r with
 |ok d=>
  cases d with
  |bl b=>intro v H1 s1 r1;cases r1;exact⟨b,rfl,h H1 s1⟩
  |_=>exact(show False from h).elim
 |ex x=>exact h
 |bad=>exact h
def j9 (ho:mI X (compareOp op) g)(ha:PB X a f1)(hb:PB X b f2)(hm:behindInMarks op b=false:=by first|exact NS _|with_unfolding_all rfl):
  BO X (.Compare a [op] [b] pos) (λρ=>((f1 ρ).bind λx=>(f2 ρ).bind λy=>g x y).bind HM):=by
 refine qO λpins s σ H Q I Ha O0 O ρ E q=>?_;have q':=nJ (O:=O) q;refine wpAny_isTrue_Compare1 (HW ha hb I (nH E q') λv u s2 x y H2 I2 rx ry h=>?_) hm;obtain⟨dx,dy,fr,r1,r2,q⟩:=h;obtain⟨r,hr,hq⟩:=ho H2 O x y dx dy _ fr r1 r2 q;refine D4 (hr pins s2 σ H2 x y v u _ I2 rx ry hq) λc s3 ⟨z,H3,I3,r3,k,e,q3⟩=>?_;subst e;cases r3;exact aBe ⟨H3,I3,q3⟩
def jH (h:PD X e f)(he:∀whole,isTrue e X.env whole=(do let v<-whole;standAt e.pos;holding [v] (truthy v)):=by intro _;rfl):BO X e (λρ=>(f ρ).bind HM):=by refine ptI (XO h he) λσ H Q Ha O0 O ρ E q=>⟨Ha,O0,O,ρ,E,nJ q⟩
def tH.seq {Q:Bool->Hp->Prop}(h:tH X H (r.bind g) Q):tH X H r λb H1=>r=.ok b/\Same H H1/\tH X H1 (g b) Q:=by
 cases r with
 |ok d=>
  intro H1 s1;refine⟨rfl,s1,?_⟩;have h':tH X H (g d) Q:=h;cases e:g d with
  |ok d'=>rw[e]at h';exactλH2 s2=>h' H2 (s1.trans s2)
  |ex x=>rw[e]at h';exactλH2 s2=>h' H2 (s1.trans s2)
  |bad=>rw[e]at h';exact h'
 |ex x=>exact h
 |bad=>exact h
def tH.af9 {O:Addr->Prop}(h:RC X H O (r.bind g) Q):tH X H r λb H1=>r=.ok b/\Same H H1/\RC X H1 O (g b) Q:=by
 cases r with
 |ok d=>intro H1 s1;refine⟨rfl,s1,?_⟩;have h':RC X H O (g d) Q:=h;exact h'.grow s1
 |ex x=>exact h
 |bad=>exact h
def tH.mono {Q Q':Bool->Hp->Prop}(h:tH X H r Q)(i:∀b H1,Q b H1->Q' b H1):tH X H r Q':=by
 cases r with
 |ok d=>exactλH1 s1=>i _ _ (h H1 s1)
 |ex x=>exact h
 |bad=>exact h
def RC.mono {O:Addr->Prop}(h:RC X H O r Q)(i:∀b H1,Q b H1->Q' b H1):RC X H O r Q':=by
 cases r with
 |ok d=>exactλv H1 s1 r1=>i _ _ (h v H1 s1 r1)
 |ex x=>exact h
 |bad=>exact h
def JN (X:Cx)(e:Expr)(f:Ev->R Bool):Prop:=PW X e (tDT X f)
def ZU (f g:Ev->R Bool):Ev->R Bool:=λρ=>(f ρ).bind λb=>if b=true then g ρ else .ok false
def orB (f g:Ev->R Bool):Ev->R Bool:=λρ=>(f ρ).bind λb=>if b=true then .ok true else g ρ
def yz (f:Ev->R Bool):Ev->R Bool:=λρ=>(f ρ).bind λb=>.ok (!b)
variable{rest:List Expr}
def PK (ha:BO X a f):JN X (.BoolOp .And [a] pos) f:=UC ha
def wE (ha:BO X a f):JN X (.BoolOp .Or [a] pos) f:=YO ha
def KT (h:PW X e t)(i:∀σ H Q,t' σ H Q->t σ H Q):PW X e t':=λwh pins s σ H Q I q=>h wh pins s σ H Q I (i σ H Q q)
def SB (ha:BO X a f)(hb:JN X (.BoolOp .And (b::rest) pos) g):JN X (.BoolOp .And (a::b::rest) pos) (ZU f g):=
 KT (bq ha hb) λσ H Q ⟨Ha,O0,O,ρ,E,q⟩=>⟨Ha,O0,O,ρ,E,tH.mono (tH.seq q) λb H1 ⟨_,s1,h1⟩=>by
  cases b with
  |true=>rw[if_pos rfl];exact⟨Ha,O0,O,ρ,E.grow s1,h1⟩
  |false=>rw[if_neg aAL];exact h1 H1 (Same.refl _)⟩
def BS (ha:BO X a f)(hb:JN X (.BoolOp .Or (b::rest) pos) g):JN X (.BoolOp .Or (a::b::rest) pos) (orB f g):=
 KT (zx ha hb) λσ H Q ⟨Ha,O0,O,ρ,E,q⟩=>⟨Ha,O0,O,ρ,E,tH.mono (tH.seq q) λb H1 ⟨_,s1,h1⟩=>by
  cases b with
  |false=>rw[if_neg aAL];exact⟨Ha,O0,O,ρ,E.grow s1,h1⟩
  |true=>rw[if_pos rfl];exact h1 H1 (Same.refl _)⟩
def JN.pt (h:JN X e f):BO X e f:=PW.pt h
def nK (ha:BO X a f):BO X (.UnaryOp .Not a pos) (yz f):=
 ptI (ZS ha) λσ H Q Ha O0 O ρ E q=>⟨Ha,O0,O,ρ,E,tH.mono (tH.seq q) λb H1 ⟨_,s1,h1⟩=>h1 H1 (Same.refl _)⟩
def xk (f:Ev->R D)(g:Ev->R D):Ev->R D:=λρ=>((f ρ).bind HM).bind λb=>if b=true then g ρ else .ok (.bl false)
def a2q (f:Ev->R D):Ev->R D:=λρ=>((f ρ).bind HM).bind λb=>.ok (.bl (!b))
def LY {op}{f:Ev->R D}(h:PD X a f):PD X (.BoolOp op [a] pos) f:=YR h
def QH {f g:Ev->R D}(ha:PD X a f)(hb:PD X (.BoolOp .And (b::rest) pos) g):PD X (.BoolOp .And (a::b::rest) pos) (xk f g):=
 PM (fq ha hb) λσ H Q Ha O0 O ρ E q=>⟨Ha,O0,O,ρ,E,RC.mono (nJ<|tH.af9 q) λv H1 ⟨c,e,_,s1,h1⟩=>⟨c,e,by
  cases c with
  |true=>rw[if_pos rfl];exact⟨Ha,O0,O,ρ,E.grow s1,h1⟩
  |false=>rw[if_neg aAL];exact h1 _ H1 (Same.refl _) .bl⟩⟩
def ZE {f:Ev->R D}(ha:PD X a f):PD X (.UnaryOp .Not a pos) (a2q f):=
 PM (ak ha) λσ H Q Ha O0 O ρ E q=>⟨Ha,O0,O,ρ,E,RC.mono (nJ<|tH.af9 q) λv H1 ⟨c,e,_,s1,h1⟩=>⟨c,e,h1 _ H1 (Same.refl _) .bl⟩⟩
def vk:D->R D
 |.int i=>.ok (.int (-i))
 |_=>.bad
def gO {f:Ev->R D}(ha:PD X a f):PD X (.UnaryOp .USub a pos) (λρ=>(f ρ).bind vk):=
 PM (pq ZW ha) λσ H Q Ha O0 O ρ E q=>⟨Ha,O0,O,ρ,E,by
  refine RC.mono (RC.seq q) λv H1 ⟨d,_,s1,r1,h1⟩=>?_;cases d with
  |int i=>cases r1;exact⟨i,rfl,h1 _ H1 (Same.refl _) .int⟩
  |_=>exact(show False from h1).elim⟩
def GJ.seq {H:Hp}{O:Addr->Prop}{r:R (List D)}{g:List D->R D}{Q:VK}(h:RC X H O (r.bind g) Q):
  GJ X H O r λv H1=>∃d,r=.ok d/\Same H H1/\Reps X.K H1 O v d/\RC X H1 O (g d) Q:=by
 cases r with
 |ok d=>exactλv H1 s1 r1=>⟨d,rfl,s1,r1,(show RC X H O (g d) Q from h).grow s1⟩
 |ex x=>exact h
 |bad=>exact h
def GJ.mono {O:Addr->Prop}{Q Q':List V->Hp->Prop}(h:GJ X H O r Q)(i:∀b H1,Q b H1->Q' b H1):GJ X H O r Q':=by
 cases r with
 |ok d=>exactλv H1 s1 r1=>i _ _ (h v H1 s1 r1)
 |ex x=>exact h
 |bad=>exact h
def NI.seq {H:Hp}{O:Addr->Prop}{r:R (List D)}{g:List D->R D}{Q:VK}(h:RC X H O (r.bind g) Q):
  NI X H O r λv H1=>∃d,r=.ok d/\Same H H1/\Paired (C0 X.K H1 O) v d/\RC X H1 O (g d) Q:=by
 cases r with
 |ok d=>exactλv H1 s1 r1=>⟨d,rfl,s1,r1,(show RC X H O (g d) Q from h).grow s1⟩
 |ex x=>exact h
 |bad=>exact h
def OY.mono {O:Addr->Prop}(h:OY X H O r Q)(i:∀b H1,Q b H1->Q' b H1):OY X H O r Q':=by
 cases r with
 |ok d=>exactλv H1 s1 r1=>i _ _ (h v H1 s1 r1)
 |ex x=>exact h
 |bad=>exact h
def k8 (f:Ev->R D)(g:Ev->R (List D)):Ev->R (List D):=λρ=>(f ρ).bind λd=>(g ρ).bind λds=>.ok (d::ds)
def M7:Ev->R (List D):=λ_=>.ok []
def j5:qH X [] M7:=paI cC λσ H Q Ha O0 O ρ E q=>q [] H (Same.refl _) .nil
def c8 {f:Ev->R D}{g:Ev->R (List D)}(ha:PD X e f)(hr:qH X es g)(hs:starEach (e::es) X.env=(false,eval e X.env)::starEach es X.env:=by rfl):qH X (e::es) (k8 f g):=
 paI (J8 ha hr hs) λσ H Q Ha O0 O ρ E q=>⟨Ha,O0,O,ρ,E,by
  unfold k8 at q;cases e1:f ρ with
  |ok d=>
   rw[e1]at q;intro v H1 s1 r1;refine⟨Ha,O0,O,ρ,E.grow s1,?_⟩;cases e2:g ρ with
   |ok ds=>rw[e2]at q;exactλvs H2 s2 r2=>q (v::vs) H2 (s1.trans s2) (.cons (r1.same s2) r2)
   |ex x=>rw[e2]at q;exactλH2 s2=>q H2 (s1.trans s2)
   |bad=>rw[e2]at q;exact q
  |ex x=>rw[e1]at q;exact q
  |bad=>rw[e1]at q;exact q⟩
def K0:cz X [] M7:=paI cC λσ H Q Ha O0 O ρ E q=>q [] H (Same.refl _) .nil
def u6 {f:Ev->R D}{g:Ev->R (List D)}(ha:PB X e f)(hr:cz X es g)(hs:starEach (e::es) X.env=(false,eval e X.env)::starEach es X.env:=by rfl):cz X (e::es) (k8 f g):=
 paI (J8 ha hr hs) λσ H Q Ha O0 O ρ E q=>⟨Ha,O0,O,ρ,E,by
  unfold k8 at q;cases e1:f ρ with
  |ok d=>
   rw[e1]at q;intro v H1 s1 r1;refine⟨Ha,O0,O,ρ,E.grow s1,?_⟩;cases e2:g ρ with
   |ok ds=>rw[e2]at q;exactλvs H2 s2 r2=>q (v::vs) H2 (s1.trans s2) (.cons (r1.same s2) r2)
   |ex x=>rw[e2]at q;exactλH2 s2=>q H2 (s1.trans s2)
   |bad=>rw[e2]at q;exact q
  |ex x=>rw[e1]at q;exact q
  |bad=>rw[e1]at q;exact q⟩
def oB (ds:List D):R D:=if ds.length<=sizeLine then .ok (.tup ds)else .bad
def qA (ds:List D):R D:=if ds.length<=sizeLine then .ok (.lst ds)else .bad
def oJ {f:Ev->R (List D)}{x1}(h:qH X es f):PD X (.Tuple es x1 pos) (λρ=>(f ρ).bind oB):=
 PM (YB h) λσ H Q Ha O0 O ρ E q=>⟨Ha,O0,O,ρ,E,GJ.mono (GJ.seq q) λvs H1 ⟨ds,_,s1,r1,h1⟩=>by
  unfold oB at h1;split at h1
  ·rename_i hz;exact⟨by rw[r1.length];exact hz,λp hp=>h1 (.ref p) _ (j4 hp _) (.tup (X7.of i9) (r1.same<|j4 hp _))⟩
  ·exact h1.elim⟩
def Z3 {f:Ev->R (List D)}(h:qH X es f):PD X (.List es pos) (λρ=>(f ρ).bind qA):=
 PM (JS h) λσ H Q Ha O0 O ρ E q=>⟨Ha,O0,O,ρ,E,GJ.mono (GJ.seq q) λvs H1 ⟨ds,_,s1,r1,h1⟩=>by
  unfold qA at h1;split at h1
  ·rename_i hz;exact⟨by rw[r1.length];exact hz,λp hp=>h1 (.ref p) _ (j4 hp _) (.lst (O6.of i9) ((E.grow s1).fresh hp) (r1.same<|j4 hp _))⟩
  ·exact h1.elim⟩
def cG (X:Cx)(f:Value)(g:List D->R D):Prop:=
 ∀(H:Hp) (O:Addr->Prop) (vs:List V) (ds:List D) (Q:VK),(∀p,H p=none->¬O p)->Paired (C0 X.K H O) vs ds->RC X H O (g ds) Q->∃r,pU X f r/\r vs H Q
def jA {x:Str}{id:String}{p:Pos}{f:Ev->R (List D)}{g:List D->R D}(hc:cG X (.builtin id) g)(ha:cz X (e::es) f)(hg:Gl X x:=by rfl)(hm:X.mg x=none:=by assumption)(hv:bootBuiltins x=some (.builtin id):=by decide+kernel)(hn:x≠ "__name__":=by decide)
  (de:(x==("__debug__":Str))=false:=by decide) (he:starEach (e::es) X.env=(false,eval e X.env)::starEach es X.env:=by rfl) (bh:(backTo pos (starEach es X.env)).any (·.1)=false:=by rfl):
  PD X (.Call (.Name x p) (e::es) [] pos) (λρ=>(f ρ).bind g):=by
 refine qO λpins s σ H Q I Ha O0 O ρ E q=>?_;refine aAP (P6 I hg hm hv ?_ hn de);refine aBF (D4 (ha pos pins s σ H _ I ⟨Ha,O0,O,ρ,E,NI.seq q⟩) λus s1 ⟨vs,H1,I1,r1,d,_,sm,r,h⟩=>?_) he bh;obtain⟨r',hr,hq⟩:=hc H1 O vs d Q (λp hp=>(E.grow sm).fresh hp) r h;exact hr pins s1 σ H1 vs us Q I1 r1 hq
def eN {x:Str}{T:String}{p:Pos}{f:Ev->R (List D)}{g:List D->R D}(hc:cG X (.type T) g)(ha:cz X (e::es) f)(hg:Gl X x:=by rfl)(hm:X.mg x=none:=by assumption)(hv:bootBuiltins x=some (.type T):=by decide+kernel)(hn:x≠ "__name__":=by decide)
  (de:(x==("__debug__":Str))=false:=by decide) (he:starEach (e::es) X.env=(false,eval e X.env)::starEach es X.env:=by rfl) (bh:(backTo pos (starEach es X.env)).any (·.1)=false:=by rfl):
  PD X (.Call (.Name x p) (e::es) [] pos) (λρ=>(f ρ).bind g):=by
 refine qO λpins s σ H Q I Ha O0 O ρ E q=>?_;refine aAP (P6 I hg hm hv ?_ hn de);refine aBf (D4 (ha pos pins s σ H _ I ⟨Ha,O0,O,ρ,E,NI.seq q⟩) λus s1 ⟨vs,H1,I1,r1,d,_,sm,r,h⟩=>?_) he bh;obtain⟨r',hr,hq⟩:=hc H1 O vs d Q (λp hp=>(E.grow sm).fresh hp) r h;exact hr pins s1 σ H1 vs us Q I1 r1 hq
end
mutual
def w5:D->D->Bool
 |.non,.non=>true
 |.bl a,.bl b=>a==b
 |.bl a,.int b=>(if a then 1 else 0)==b
 |.int a,.bl b=>a==(if b then 1 else 0)
 |.int a,.int b=>a==b
 |.str a,.str b=>a==b
 |.tup xs,.tup ys=>Z7 xs ys
 |.lst xs,.lst ys=>Z7 xs ys
 |.dct,.dct=>true
 |_,_=>false
def Z7:List D->List D->Bool
 |[],[]=>true
 |x::xs,y::ys=>w5 x y&&Z7 xs ys
 |_,_=>false
end
mutual
def G9:D->Nat
 |.tup xs=>K6 xs+1
 |.lst xs=>K6 xs+1
 |.dct=>cLine
 |_=>0
def K6:List D->Nat
 |[]=>0
 |x::xs=>max (G9 x) (K6 xs)
end
mutual
theorem V9:∀d:D,w5 d d=true
 |.non=>by simp[w5]
 |.bl b=>by simp[w5]
 |.int i=>by simp[w5]
 |.str x=>by simp[w5]
 |.tup xs=>by rw[w5];exact kP xs
 |.lst xs=>by rw[w5];exact kP xs
 |.dct=>by simp[w5]
theorem kP:∀ds:List D,Z7 ds ds=true
 |[]=>by simp[Z7]
 |x::xs=>by rw[Z7,V9 x,kP xs];rfl
end
def lX (xs ys:List D)(j:Nat):Bool:=match xs[j]?,ys[j]? with
 |some a,some b=>w5 a b
 |_,_=>false
theorem iC:∀(xs ys:List D),Z7 xs ys=((aBL (min xs.length ys.length)).all (lX xs ys)&&(xs.length==ys.length))
 |[],[]=>by simp[Z7]
 |[],_::_=>by simp[Z7]
 |_::_,[]=>by simp[Z7]
 |x::xs,y::ys=>by
  rw[Z7,iC xs ys,aAv,aAv,Nat.succ_min_succ,aFm,aEf,List.all_map];have e1:lX (x::xs) (y::ys) 0=w5 x y:=rfl;have e2:(lX (x::xs) (y::ys)∘Nat.succ)=lX xs ys:=by
   funext j
   simp[lX]
  have e3:(xs.length+1==ys.length+1)=(xs.length==ys.length):=by rw[aCR];simp
  rw[e1,e2,e3,Bool.and_assoc]
theorem uS:∀{xs:List D} {d:D} {j:Nat},xs[j]?=some d->G9 d<=K6 xs
 |[],_,_,h=>by simp at h
 |x::xs,d,0,h=>by simp at h;subst h;rw[K6];exact Nat.le_max_left _ _
 |x::xs,d,j+1,h=>by rw[K6];exact aAr (uS (j:=j) (by simpa using h)) (Nat.le_max_right _ _)
section
def AL {K:PySem.W.Frag}{H:Hp}{O:Addr->Prop}{a:Addr}{d:D}(h:Rep K H O (.ref a) d):(∃vs ds,d=.tup ds/\X7 K H a vs/\Reps K H O vs ds)\/(∃vs ds,d=.lst ds/\O6 K H a vs/\Reps K H O vs ds)\/(d=.dct/\∃o:Obj,H a=some (.ext λh=>h.get? a=some o)/\o.ExactDict):=by
 cases h with
 |tup h r=>exact .inl ⟨_,_,rfl,h,r⟩
 |lst h n r=>exact .inr (.inl ⟨_,_,rfl,h,r⟩)
 |dct h x n=>exact .inr (.inr ⟨rfl,_,h,x⟩)
def WM (I:Inv X pins σ H s)(h:X7 X.K H a vs)(h':O6 X.K H a ws):False:=by obtain⟨its,_,p,_⟩:=I.tuple h;obtain⟨its',_,p',_⟩:=I.list h';exact absurd rfl (SeqAt.ne_of_list_tuple (s:=s) p'.isList p)
def WE {o:Obj}(I:Inv X pins σ H s)(h':X7 X.K H a vs)(h:H a=some (.ext λh=>h.get? a=some o))(x:o.ExactDict):False:=by obtain⟨its,_,⟨o',g,c,_⟩,_⟩:=I.tuple h';have e:s.heap.get? _=some _:=(I.hok _ _ h).1;rw[g]at e;cases e;exact absurd (c.symm.trans x.1) (by decide)
def WN {o:Obj}(I:Inv X pins σ H s)(h':O6 X.K H a vs)(h:H a=some (.ext λh=>h.get? a=some o))(x:o.ExactDict):False:=by obtain⟨its,_,p,_⟩:=I.list h';obtain⟨o',g,c,_⟩:=p.isList;have e:s.heap.get? _=some _:=(I.hok _ _ h).1;rw[g]at e;cases e;exact absurd (c.symm.trans x.1) (by decide)
mutual
theorem Rep.inj (I:Inv X pins σ H s):∀{v:V} {d:D},Rep X.K H O v d->∀{d':D},Rep X.K H O' v d'->d=d'
 |_,_,.non=>λh=>by cases h;rfl
 |_,_,.bl=>λh=>by cases h;rfl
 |_,_,.int=>λh=>by cases h;rfl
 |_,_,.str=>λh=>by cases h;rfl
 |_,_,.tup h r=>λh'=>by
  rcases AL h' with⟨_,_,rfl,h2,r2⟩|⟨_,_,rfl,h2,_⟩|⟨rfl,_,h2,x⟩
  ·have e:=I.ab5 h h2;subst e;rw[Reps.inj I r r2]
  ·exact(WM I h h2).elim
  ·exact(WE I h h2 x).elim
 |_,_,.lst h _ r=>λh'=>by
  rcases AL h' with⟨_,_,rfl,h2,_⟩|⟨_,_,rfl,h2,r2⟩|⟨rfl,_,h2,x⟩
  ·exact(WM I h2 h).elim
  ·have e:=I.ab9 h h2;subst e;rw[Reps.inj I r r2]
  ·exact(WN I h h2 x).elim
 |_,_,.dct h x _=>λh'=>by
  rcases AL h' with⟨_,_,rfl,h2,_⟩|⟨_,_,rfl,h2,_⟩|⟨rfl,_⟩
  ·exact(WE I h2 h x).elim
  ·exact(WN I h2 h x).elim
  ·rfl
theorem Reps.inj (I:Inv X pins σ H s):∀{v:List V} {d:List D},Reps X.K H O v d->∀{d':List D},Reps X.K H O' v d'->d=d'
 |_,_,.nil=>λh=>by cases h;rfl
 |_,_,.cons h t=>λh2=>by
  cases h2 with
  |cons h' t'=>rw[Rep.inj I h h',Reps.inj I t t']
end
def mY (A:Around)(s:Shared)(us ws:List Value)(xs ys:List D):Prop:=∀(j:Nat) (u w:Value),us[j]?=some u->ws[j]?=some w->SeqAt.EqAt A.in1 s u w (lX xs ys j)
def yZ (hl:s.heap.IsList l us.toArray)(hb:s.heap.IsList b ws.toArray)(e1:us.length=xs.length)(e2:ws.length=ys.length)(hu:A.units<cLine)(hp:mY A s us ws xs ys):SeqAt.RcAt A s (.ref l) (.ref b) (Z7 xs ys)/\SeqAt.RcNeAt A s (.ref l) (.ref b) (!Z7 xs ys):=by
 rw[iC];by_cases iu:xs.length=ys.length
 ·have hz:us.toArray.size=ws.toArray.size:=by simp[e1,e2,iu]
  have hm:min xs.length ys.length=us.toArray.size:=by simp[e1,iu]
  have hq:(xs.length==ys.length)=true:=by simp[iu]
  have he:∀j (h1:j<us.toArray.size) (h2:j<ws.toArray.size),SeqAt.EqAt A.in1 s us.toArray[j] ws.toArray[j] (lX xs ys j):=λj h1 h2=>hp j _ _ (by simp[aAi (show j<us.length by simpa using h1)]) (by simp[aAi (show j<ws.length by simpa using h2)]);rw[hq,Bool.and_true,hm];exact⟨SeqAt.RcAt.lists hl hb hz hu he,SeqAt.RcNeAt.lists hl hb hz hu he⟩
 ·have hz:(us.toArray.size !=ws.toArray.size)=true:=by simp[e1,e2,iu]
  have hq:(xs.length==ys.length)=false:=by simp[iu]
  rw[hq,aFK];exact⟨SeqAt.RcAt.lists_lengths hl hb hz hu,SeqAt.RcNeAt.lists_lengths hl hb hz hu⟩
def kA (hl:IsTup s.heap l us.toArray)(hb:IsTup s.heap b ws.toArray)(e1:us.length=xs.length)(e2:ws.length=ys.length)(hu:A.units<cLine)(hp:mY A s us ws xs ys):SeqAt.RcAt A s (.ref l) (.ref b) (Z7 xs ys)/\SeqAt.RcNeAt A s (.ref l) (.ref b) (!Z7 xs ys):=by
 rw[iC];have hm:min xs.length ys.length=min us.toArray.size ws.toArray.size:=by simp[e1,e2]
 have hq:(xs.length==ys.length)=(us.toArray.size==ws.toArray.size):=by simp[e1,e2]
 have he:∀j (h1:j<us.toArray.size) (h2:j<ws.toArray.size),SeqAt.EqAt A.in1 s us.toArray[j] ws.toArray[j] (lX xs ys j):=λj h1 h2=>hp j _ _ (by simp[aAi (show j<us.length by simpa using h1)]) (by simp[aAi (show j<ws.length by simpa using h2)]);rw[hq,hm];exact⟨SeqAt.RcAt.tuples hl hb hu he,SeqAt.RcNeAt.tuples hl hb hu he⟩
def u8 (A:Around):A.in1.units=A.units+1:=rfl
mutual
theorem gw (I:Inv X pins σ H s):∀{x y:V} {dx dy:D} {v u:Value} {A:Around},Rep X.K H O x dx->Rep X.K H O' y dy->RelV x v->RelV y u->A.units+G9 dx<cLine->A.units+G9 dy<cLine->SeqAt.EqAt A s v u (w5 dx dy)
 |_,_,_,_,v,u,A,.non,ry,rv,ru,hu,hv=>by
  have bo:A.units<cLine:=by lia
  cases rv;cases ry with
  |dct=>exact absurd hv (by rw[G9];lia)
  |non=>cases ru;exact aDF _
  |bl=>cases ru;simp only[w5];exact SeqAt.EqAt.none_bool _
  |int=>obtain⟨t,rfl⟩:=ru;simp only[w5];exact SeqAt.EqAt.none_int _ _
  |str=>obtain⟨t,rfl⟩:=ru;simp only[w5];exact SeqAt.EqAt.none_str _ _
  |tup h r=>cases ru;obtain⟨_,_,p,_⟩:=I.tuple h;simp only[w5];exact SeqAt.EqAt.none_tuple p bo
  |lst h _ r=>cases ru;obtain⟨_,_,p,_⟩:=I.list h;simp only[w5];exact SeqAt.EqAt.none_list p.isList bo
 |_,_,_,_,v,u,A,.bl,ry,rv,ru,hu,hv=>by
  have bo:A.units<cLine:=by lia
  cases rv;cases ry with
  |dct=>exact absurd hv (by rw[G9];lia)
  |non=>cases ru;simp only[w5];exact SeqAt.EqAt.bool_none _
  |bl=>cases ru;simp only[w5];exact SeqAt.EqAt.bool_bool _ _
  |int=>obtain⟨t,rfl⟩:=ru;simp only[w5];exact SeqAt.EqAt.bool_int _ _ _
  |str=>obtain⟨t,rfl⟩:=ru;simp only[w5];exact SeqAt.EqAt.bool_str _ _ _
  |tup h r=>cases ru;obtain⟨_,_,p,_⟩:=I.tuple h;simp only[w5];exact SeqAt.EqAt.bool_tuple _ p bo
  |lst h _ r=>cases ru;obtain⟨_,_,p,_⟩:=I.list h;simp only[w5];exact SeqAt.EqAt.bool_list _ p.isList bo
 |_,_,_,_,v,u,A,.int,ry,rv,ru,hu,hv=>by
  have bo:A.units<cLine:=by lia
  obtain⟨t1,rfl⟩:=rv;cases ry with
  |dct=>exact absurd hv (by rw[G9];lia)
  |non=>cases ru;simp only[w5];exact SeqAt.EqAt.int_none _ _
  |bl=>cases ru;simp only[w5];exact SeqAt.EqAt.int_bool _ _ _
  |int=>obtain⟨t,rfl⟩:=ru;simp only[w5];exact aED _ _ _ _
  |str=>obtain⟨t,rfl⟩:=ru;simp only[w5];exact aFR _ _ _ _
  |tup h r=>cases ru;obtain⟨_,_,p,_⟩:=I.tuple h;simp only[w5];exact aFE _ _ p bo
  |lst h _ r=>cases ru;obtain⟨_,_,p,_⟩:=I.list h;simp only[w5];exact SeqAt.EqAt.int_list _ _ p.isList bo
 |_,_,_,_,v,u,A,.str,ry,rv,ru,hu,hv=>by
  have bo:A.units<cLine:=by lia
  obtain⟨t1,rfl⟩:=rv;cases ry with
  |dct=>exact absurd hv (by rw[G9];lia)
  |non=>cases ru;simp only[w5];exact SeqAt.EqAt.str_none _ _
  |bl=>cases ru;simp only[w5];exact SeqAt.EqAt.str_bool _ _ _
  |int=>obtain⟨t,rfl⟩:=ru;simp only[w5];exact aFS _ _ _ _
  |str=>obtain⟨t,rfl⟩:=ru;simp only[w5];exact SeqAt.EqAt.str_str _ _ _ _
  |tup h r=>cases ru;obtain⟨_,_,p,_⟩:=I.tuple h;simp only[w5];exact SeqAt.EqAt.str_tuple _ _ p bo
  |lst h _ r=>cases ru;obtain⟨_,_,p,_⟩:=I.list h;simp only[w5];exact SeqAt.EqAt.str_list _ _ p.isList bo
 |_,_,_,_,v,u,A,.tup (a:=a) (vs:=vs) (ds:=ds) h r,ry,rv,ru,hu,hv=>by
  have bo:A.units<cLine:=by lia
  cases rv;obtain⟨its,rr,p,_⟩:=I.tuple h;cases ry with
  |dct=>exact absurd hv (by rw[G9];lia)
  |non=>cases ru;simp only[w5];exact SeqAt.EqAt.tuple_none p bo
  |bl=>cases ru;simp only[w5];exact SeqAt.EqAt.tuple_bool _ p bo
  |int=>obtain⟨t,rfl⟩:=ru;simp only[w5];exact aFF _ _ p bo
  |str=>obtain⟨t,rfl⟩:=ru;simp only[w5];exact SeqAt.EqAt.tuple_str _ _ p bo
  |@tup a' ja cb h' r'=>
   cases ru;obtain⟨its',qf,p',_⟩:=I.tuple h';by_cases e:a=a'
   ·subst e;have e2:=I.ab5 h h';subst e2;have e3:=Reps.inj I r r';subst e3;rw[V9];exact aDF _
   ·simp only[w5];refine aEE e (kA p p' (by rw[<-rr.length,r.length]) (by rw[<-qf.length,r'.length]) bo<|jI I r r' rr qf ?_ ?_).1
    ·rw[G9]at hu;rw[u8];lia
    ·rw[G9]at hv;rw[u8];lia
  |lst h' _ r'=>cases ru;obtain⟨_,_,p',_⟩:=I.list h';simp only[w5];exact SeqAt.EqAt.tuple_list p p'.isList bo
 |_,_,_,_,v,u,A,.lst (a:=a) (vs:=vs) (ds:=ds) h nO r,ry,rv,ru,hu,hv=>by
  have bo:A.units<cLine:=by lia
  cases rv;obtain⟨its,rr,p,_⟩:=I.list h;cases ry with
  |dct=>exact absurd hv (by rw[G9];lia)
  |non=>cases ru;simp only[w5];exact SeqAt.EqAt.list_none p.isList bo
  |bl=>cases ru;simp only[w5];exact SeqAt.EqAt.list_bool _ p.isList bo
  |int=>obtain⟨t,rfl⟩:=ru;simp only[w5];exact SeqAt.EqAt.list_int _ _ p.isList bo
  |str=>obtain⟨t,rfl⟩:=ru;simp only[w5];exact SeqAt.EqAt.list_str _ _ p.isList bo
  |tup h' r'=>cases ru;obtain⟨_,_,p',_⟩:=I.tuple h';simp only[w5];exact SeqAt.EqAt.list_tuple p.isList p' bo
  |@lst a' ja cb h' nO' r'=>
   cases ru;obtain⟨its',qf,p',_⟩:=I.list h';by_cases e:a=a'
   ·subst e;have e2:=I.ab9 h h';subst e2;have e3:=Reps.inj I r r';subst e3;rw[V9];exact aDF _
   ·simp only[w5];refine aEE e (yZ p.isList p'.isList (by rw[<-rr.length,r.length]) (by rw[<-qf.length,r'.length]) bo<|jI I r r' rr qf ?_ ?_).1
    ·rw[G9]at hu;rw[u8];lia
    ·rw[G9]at hv;rw[u8];lia
 |_,_,_,_,v,u,A,.dct ..,ry,rv,ru,hu,hv=>absurd hu (by rw[G9];lia)
theorem jI (I:Inv X pins σ H s):∀{vs ws:List V} {xs ys:List D} {us ts:List Value} {A:Around},Reps X.K H O vs xs->Reps X.K H O' ws ys->l8 vs us->l8 ws ts->A.in1.units+K6 xs<cLine->A.in1.units+K6 ys<cLine->mY A s us ts xs ys
 |_,_,_,_,us,ts,A,.nil,ry,rv,ru,hu,hv=>λj u w h1 h2=>by cases rv;simp at h1
 |_,_,_,_,us,ts,A,.cons h t,.nil,rv,ru,hu,hv=>λj u w h1 h2=>by cases ru;simp at h2
 |_,_,_,_,us,ts,A,.cons (d:=d) (ds:=ds) h t,.cons (d:=d') (ds:=cb) h' t',rv,ru,hu,hv=>λj u w h1 h2=>by
  cases rv with
  |cons r1 r2=>
   cases ru with
   |cons r1' r2'=>
    rw[K6]at hu hv;cases j with
    |zero=>simp only[aCX,aGb]at h1 h2;subst h1 h2;exact gw I h h' r1 r1' (by lia) (by lia)
    |succ j=>simp only[aFc]at h1 h2;have q:=jI I (A:=A) t t' r2 r2' (by lia) (by lia) j u w h1 h2;exact q
end
def a0g (I:Inv X pins σ H s)(r1:C0 X.K H O x dx)(r2:C0 X.K H O' y dy)(rv:RelV x v)(ru:RelV y u)(hu:A.units+G9 dx<cLine)(hv:A.units+G9 dy<cLine):
  SeqAt.RcAt A s v u (w5 dx dy)/\SeqAt.RcNeAt A s v u (!w5 dx dy):=by
 have bo:A.units<cLine:=by lia
 cases dx with
 |dct=>exact absurd hu (by rw[G9];lia)
 |non=>
  cases r1.ac1;cases rv;cases dy with
  |dct=>exact absurd hv (by rw[G9];lia)
  |non=>cases r2.ac1;cases ru;simp only[w5];exact⟨SeqAt.RcAt.none_none,SeqAt.RcNeAt.none_none⟩
  |bl=>cases r2.blI;cases ru;simp only[w5];exact⟨SeqAt.RcAt.none_bool _,SeqAt.RcNeAt.none_bool _⟩
  |int=>cases r2.aa2;obtain⟨t,rfl⟩:=ru;simp only[w5];exact⟨SeqAt.RcAt.none_int _ _,SeqAt.RcNeAt.none_int _ _⟩
  |str=>cases r2.ac3;obtain⟨t,rfl⟩:=ru;simp only[w5];exact⟨SeqAt.RcAt.none_str _ _,SeqAt.RcNeAt.none_str _ _⟩
  |tup ys=>obtain⟨a,vs,rfl,h,r⟩:=r2.tupI;cases ru;obtain⟨_,_,p,_⟩:=I.tuple h;simp only[w5];exact⟨SeqAt.RcAt.none_tuple p bo,SeqAt.RcNeAt.none_tuple p bo⟩
  |lst ys=>obtain⟨a,vs,rfl,h,r⟩:=r2.aa4;cases ru;obtain⟨_,_,p,_⟩:=I.list h;simp only[w5];exact⟨SeqAt.RcAt.none_list p.isList bo,SeqAt.RcNeAt.none_list p.isList bo⟩
 |bl=>
  cases r1.blI;cases rv;cases dy with
  |dct=>exact absurd hv (by rw[G9];lia)
  |non=>cases r2.ac1;cases ru;simp only[w5];exact⟨SeqAt.RcAt.bool_none _,SeqAt.RcNeAt.bool_none _⟩
  |bl=>cases r2.blI;cases ru;simp only[w5];exact⟨SeqAt.RcAt.bool_bool _ _,SeqAt.RcNeAt.bool_bool _ _⟩
  |int=>cases r2.aa2;obtain⟨t,rfl⟩:=ru;simp only[w5];exact⟨SeqAt.RcAt.bool_int _ _ _,SeqAt.RcNeAt.bool_int _ _ _⟩
  |str=>cases r2.ac3;obtain⟨t,rfl⟩:=ru;simp only[w5];exact⟨SeqAt.RcAt.bool_str _ _ _,SeqAt.RcNeAt.bool_str _ _ _⟩
  |tup ys=>obtain⟨a,vs,rfl,h,r⟩:=r2.tupI;cases ru;obtain⟨_,_,p,_⟩:=I.tuple h;simp only[w5];exact⟨SeqAt.RcAt.bool_tuple _ p bo,SeqAt.RcNeAt.bool_tuple _ p bo⟩
  |lst ys=>obtain⟨a,vs,rfl,h,r⟩:=r2.aa4;cases ru;obtain⟨_,_,p,_⟩:=I.list h;simp only[w5];exact⟨SeqAt.RcAt.bool_list _ p.isList bo,SeqAt.RcNeAt.bool_list _ p.isList bo⟩
 |int=>
  cases r1.aa2;obtain⟨t1,rfl⟩:=rv;cases dy with
  |dct=>exact absurd hv (by rw[G9];lia)
  |non=>cases r2.ac1;cases ru;simp only[w5];exact⟨SeqAt.RcAt.int_none _ _,SeqAt.RcNeAt.int_none _ _⟩
  |bl=>cases r2.blI;cases ru;simp only[w5];exact⟨SeqAt.RcAt.int_bool _ _ _,SeqAt.RcNeAt.int_bool _ _ _⟩
  |int=>cases r2.aa2;obtain⟨t,rfl⟩:=ru;simp only[w5];exact⟨SeqAt.RcAt.int_int _ _ _ _,SeqAt.RcNeAt.int_int _ _ _ _⟩
  |str=>cases r2.ac3;obtain⟨t,rfl⟩:=ru;simp only[w5];exact⟨SeqAt.RcAt.int_str _ _ _ _,SeqAt.RcNeAt.int_str _ _ _ _⟩
  |tup ys=>obtain⟨a,vs,rfl,h,r⟩:=r2.tupI;cases ru;obtain⟨_,_,p,_⟩:=I.tuple h;simp only[w5];exact⟨SeqAt.RcAt.int_tuple _ _ p bo,SeqAt.RcNeAt.int_tuple _ _ p bo⟩
  |lst ys=>obtain⟨a,vs,rfl,h,r⟩:=r2.aa4;cases ru;obtain⟨_,_,p,_⟩:=I.list h;simp only[w5];exact⟨SeqAt.RcAt.int_list _ _ p.isList bo,SeqAt.RcNeAt.int_list _ _ p.isList bo⟩
 |str=>
  cases r1.ac3;obtain⟨t1,rfl⟩:=rv;cases dy with
  |dct=>exact absurd hv (by rw[G9];lia)
  |non=>cases r2.ac1;cases ru;simp only[w5];exact⟨SeqAt.RcAt.str_none _ _,SeqAt.RcNeAt.str_none _ _⟩
  |bl=>cases r2.blI;cases ru;simp only[w5];exact⟨SeqAt.RcAt.str_bool _ _ _,SeqAt.RcNeAt.str_bool _ _ _⟩
  |int=>cases r2.aa2;obtain⟨t,rfl⟩:=ru;simp only[w5];exact⟨SeqAt.RcAt.str_int _ _ _ _,SeqAt.RcNeAt.str_int _ _ _ _⟩
  |str=>cases r2.ac3;obtain⟨t,rfl⟩:=ru;simp only[w5];exact⟨SeqAt.RcAt.str_str _ _ _ _,SeqAt.RcNeAt.str_str _ _ _ _⟩
  |tup ys=>obtain⟨a,vs,rfl,h,r⟩:=r2.tupI;cases ru;obtain⟨_,_,p,_⟩:=I.tuple h;simp only[w5];exact⟨SeqAt.RcAt.str_tuple _ _ p bo,SeqAt.RcNeAt.str_tuple _ _ p bo⟩
  |lst ys=>obtain⟨a,vs,rfl,h,r⟩:=r2.aa4;cases ru;obtain⟨_,_,p,_⟩:=I.list h;simp only[w5];exact⟨SeqAt.RcAt.str_list _ _ p.isList bo,SeqAt.RcNeAt.str_list _ _ p.isList bo⟩
 |tup xs=>
  obtain⟨a,vs,rfl,h,r⟩:=r1.tupI;cases rv;obtain⟨its,rr,p,_⟩:=I.tuple h;cases dy with
  |dct=>exact absurd hv (by rw[G9];lia)
  |non=>cases r2.ac1;cases ru;simp only[w5];exact⟨SeqAt.RcAt.tuple_none p bo,SeqAt.RcNeAt.tuple_none p bo⟩
  |bl=>cases r2.blI;cases ru;simp only[w5];exact⟨SeqAt.RcAt.tuple_bool _ p bo,SeqAt.RcNeAt.tuple_bool _ p bo⟩
  |int=>cases r2.aa2;obtain⟨t,rfl⟩:=ru;simp only[w5];exact⟨SeqAt.RcAt.tuple_int _ _ p bo,SeqAt.RcNeAt.tuple_int _ _ p bo⟩
  |str=>cases r2.ac3;obtain⟨t,rfl⟩:=ru;simp only[w5];exact⟨SeqAt.RcAt.tuple_str _ _ p bo,SeqAt.RcNeAt.tuple_str _ _ p bo⟩
  |tup ys=>
   obtain⟨a',ja,rfl,h',r'⟩:=r2.tupI;cases ru;obtain⟨its',qf,p',_⟩:=I.tuple h';simp only[w5];refine kA p p' (by rw[<-rr.length,r.length]) (by rw[<-qf.length,r'.length]) bo (jI I r r' rr qf ?_ ?_)
   ·rw[G9]at hu;rw[u8];lia
   ·rw[G9]at hv;rw[u8];lia
  |lst ys=>obtain⟨a',ja,rfl,h',r'⟩:=r2.aa4;cases ru;obtain⟨_,_,p',_⟩:=I.list h';simp only[w5];exact⟨SeqAt.RcAt.tuple_list p p'.isList bo,SeqAt.RcNeAt.tuple_list p p'.isList bo⟩
 |lst xs=>
  obtain⟨a,vs,rfl,h,r⟩:=r1.aa4;cases rv;obtain⟨its,rr,p,_⟩:=I.list h;cases dy with
  |dct=>exact absurd hv (by rw[G9];lia)
  |non=>cases r2.ac1;cases ru;simp only[w5];exact⟨SeqAt.RcAt.list_none p.isList bo,SeqAt.RcNeAt.list_none p.isList bo⟩
  |bl=>cases r2.blI;cases ru;simp only[w5];exact⟨SeqAt.RcAt.list_bool _ p.isList bo,SeqAt.RcNeAt.list_bool _ p.isList bo⟩
  |int=>cases r2.aa2;obtain⟨t,rfl⟩:=ru;simp only[w5];exact⟨SeqAt.RcAt.list_int _ _ p.isList bo,SeqAt.RcNeAt.list_int _ _ p.isList bo⟩
  |str=>cases r2.ac3;obtain⟨t,rfl⟩:=ru;simp only[w5];exact⟨SeqAt.RcAt.list_str _ _ p.isList bo,SeqAt.RcNeAt.list_str _ _ p.isList bo⟩
  |tup ys=>obtain⟨a',ja,rfl,h',r'⟩:=r2.tupI;cases ru;obtain⟨_,_,p',_⟩:=I.tuple h';simp only[w5];exact⟨SeqAt.RcAt.list_tuple p.isList p' bo,SeqAt.RcNeAt.list_tuple p.isList p' bo⟩
  |lst ys=>
   obtain⟨a',ja,rfl,h',r'⟩:=r2.aa4;cases ru;obtain⟨its',qf,p',_⟩:=I.list h';simp only[w5];refine yZ p.isList p'.isList (by rw[<-rr.length,r.length]) (by rw[<-qf.length,r'.length]) bo (jI I r r' rr qf ?_ ?_)
   ·rw[G9]at hu;rw[u8];lia
   ·rw[G9]at hv;rw[u8];lia
end
def WT (x y:D):R D:=if G9 x<=40/\G9 y<=40 then .ok (.bl (w5 x y))else .bad
def RF (x y:D):R D:=if G9 x<=40/\G9 y<=40 then .ok (.bl (!w5 x y))else .bad
section
def M8 (hu:X.A.units+64<cLine):mI X (compareOp .Eq) WT:=by
 intro H O x y dx dy Q fr r1 r2 q;unfold WT at q;split at q
 ·rename_i hd;refine⟨λx' y' H' Q'=>x'=x/\y'=y/\H'=H/\Q' (.bl (w5 dx dy)) H,?_,rfl,rfl,rfl,q _ H (Same.refl _) .bl⟩;intro pins s σ H' x' y' v u Q' I rx ry ⟨e1,e2,e3,q'⟩;subst e1 e2 e3;exact(a0g I (A:=X.A) r1 r2 rx ry (by lia) (by lia)).1 _ _ _ _ ⟨.bl _,_,I,rfl,q'⟩
 ·exact q.elim
def rW (hu:X.A.units+64<cLine):mI X (compareOp .NotEq) RF:=by
 intro H O x y dx dy Q fr r1 r2 q;unfold RF at q;split at q
 ·rename_i hd;refine⟨λx' y' H' Q'=>x'=x/\y'=y/\H'=H/\Q' (.bl (!w5 dx dy)) H,?_,rfl,rfl,rfl,q _ H (Same.refl _) .bl⟩;intro pins s σ H' x' y' v u Q' I rx ry ⟨e1,e2,e3,q'⟩;subst e1 e2 e3;exact(a0g I (A:=X.A) r1 r2 rx ry (by lia) (by lia)).2 _ _ _ _ ⟨.bl _,_,I,rfl,q'⟩
 ·exact q.elim
end
def aQ:D->D->R D
 |.int a,.int b=>.ok (.int (a+b))
 |.lst a,.lst b=>if a.length+b.length<=sizeLine then .ok (.lst (a++b))else .bad
 |.tup [],.tup b=>.ok (.tup b)
 |.tup (x::a),.tup []=>if(x::a).length<=sizeLine then .ok (.tup (x::a))else .bad
 |.tup (x::a),.tup (y::b)=>if(x::a).length+(y::b).length<=sizeLine then .ok (.tup ((x::a)++(y::b)))else .bad
 |_,_=>.bad
def KI:D->D->R D
 |.int a,.int b=>.ok (.int (a-b))
 |_,_=>.bad
def A3 (a b:Int):Prop:=aAT a<=60000000/\aAT b<=60000000
instance(a b:Int):Decidable (A3 a b):=inferInstanceAs (Decidable<|_/\_)
def wD:D->D->R D
 |.int a,.int b=>if A3 a b then .ok (.int (a*b))else .bad
 |_,_=>.bad
def zR (b:Int):Prop:=b≠0/\aAT b<=9000
instance(b:Int):Decidable (zR b):=inferInstanceAs (Decidable<|_/\_)
def X3:D->D->R D
 |.int a,.int b=>if zR b then .ok (.int (a.fdiv b))else .bad
 |_,_=>.bad
def U8:D->D->R D
 |.int a,.int b=>if b≠0 then .ok (.int (a.fmod b))else .bad
 |_,_=>.bad
def BH:D->D->R D
 |.int a,.int b=>if 0<=b/\b<=1000000/\a.natAbs<2^64 then .ok (.int (a^b.toNat))else .bad
 |_,_=>.bad
def ltR:D->D->R D
 |.int a,.int b=>.ok (.bl (decide (a<b)))
 |_,_=>.bad
def tz:D->D->R D
 |.int a,.int b=>.ok (.bl (decide (a<=b)))
 |_,_=>.bad
def iq:D->D->R D
 |.int a,.int b=>.ok (.bl (decide (b<a)))
 |_,_=>.bad
def IP (h0:b≠0)(h:aAT b<=n):b.natAbs.log2<n:=by
 unfold aAT at h;split at h
 ·rename_i z;exact absurd (by simpa using z) h0
 ·omega
def MH (h:A3 a b):IntMulOk a b:=mulOk_of_bits (m:=60000000) (n:=60000000) h.1 h.2 (by decide)
section
def mI.aa8 {f:Value->Value->Sem Value}{g:D->D->R D}{C:Int->Int->Prop}{w:Int->Int->V}{dw:Int->Int->D}(hr:mE X f (rI C w))(hg:∀dx dy d,g dx dy=.ok d->∃i j,dx=.int i/\dy=.int j/\C i j/\d=dw i j)
  (hb:∀dx dy e,g dx dy≠.ex e) (hw:∀K H O i j,Rep K H O (w i j) (dw i j)):mI X f g:=by
 intro H O x y dx dy Q fr r1 r2 q;cases e:g dx dy with
 |ok d=>rw[e]at q;obtain⟨i,j,rfl,rfl,hc,rfl⟩:=hg dx dy d e;cases r1.aa2;cases r2.aa2;exact⟨_,hr,i,j,rfl,rfl,hc,q _ H (Same.refl _) (hw _ _ _ _ _)⟩
 |ex x=>exact absurd e (hb _ _ _)
 |bad=>rw[e]at q;exact q.elim
def mE.c0 (h:mE X f (XE w)):mE X f (rI (λ_ _=>True) w):=λpins s σ H x y v u Q I rx ry ⟨i,j,e1,e2,_,q⟩=>h pins s σ H x y v u Q I rx ry ⟨i,j,e1,e2,q⟩
def L9:mI X (binaryOp .Sub) KI:=mI.aa8 (dw:=λi j=>.int (i-j)) (mE.c0 ZM) (λdx dy d h=>by cases dx<;>cases dy<;>simp only[KI,R.ok.injEq,reduceCtorEq]at h;exact⟨_,_,rfl,rfl,trivial,h.symm⟩) (λdx dy e h=>by cases dx<;>cases dy<;>simp only[KI,reduceCtorEq]at h) λ_ _ _ _ _=>.int
def xT:mI X (compareOp .Lt) ltR:=mI.aa8 (dw:=λi j=>.bl (decide (i<j))) (mE.c0 zj) (λdx dy d h=>by cases dx<;>cases dy<;>simp only[ltR,R.ok.injEq,reduceCtorEq]at h;exact⟨_,_,rfl,rfl,trivial,h.symm⟩) (λdx dy e h=>by cases dx<;>cases dy<;>simp only[ltR,reduceCtorEq]at h) λ_ _ _ _ _=>.bl
def vq:mI X (compareOp .LtE) tz:=mI.aa8 (dw:=λi j=>.bl (decide (i<=j))) (mE.c0 uw) (λdx dy d h=>by cases dx<;>cases dy<;>simp only[tz,R.ok.injEq,reduceCtorEq]at h;exact⟨_,_,rfl,rfl,trivial,h.symm⟩) (λdx dy e h=>by cases dx<;>cases dy<;>simp only[tz,reduceCtorEq]at h) λ_ _ _ _ _=>.bl
def FM:mI X (compareOp .Gt) iq:=mI.aa8 (dw:=λi j=>.bl (decide (j<i))) (mE.c0 qx) (λdx dy d h=>by cases dx<;>cases dy<;>simp only[iq,R.ok.injEq,reduceCtorEq]at h;exact⟨_,_,rfl,rfl,trivial,h.symm⟩) (λdx dy e h=>by cases dx<;>cases dy<;>simp only[iq,reduceCtorEq]at h) λ_ _ _ _ _=>.bl
def KO:mE X (binaryOp .FloorDiv) (rI (λ_ j=>zR j) λi j=>.int (i.fdiv j)):=opI λ_ _ _ _ _ _ _ hc q=>floordiv_int hc.1 q (.inl (PyProof.noPylong_of_log2<|IP hc.1 hc.2))
def D7:mI X (binaryOp .FloorDiv) X3:=mI.aa8 (dw:=λi j=>.int (i.fdiv j)) KO (λdx dy d h=>by
 cases dx<;>cases dy<;>simp only[X3,reduceCtorEq]at h;split at h
 ·rename_i hc;cases h;exact⟨_,_,rfl,rfl,hc,rfl⟩
 ·cases h) (λdx dy e h=>by
  cases dx<;>cases dy<;>simp only[X3,reduceCtorEq]at h;split at h<;>cases h) λ_ _ _ _ _=>.int
def B0:mI X (binaryOp .Mod) U8:=mI.aa8 (dw:=λi j=>.int (i.fmod j)) VR (λdx dy d h=>by
 cases dx<;>cases dy<;>simp only[U8,reduceCtorEq]at h;split at h
 ·rename_i hc;cases h;exact⟨_,_,rfl,rfl,hc,rfl⟩
 ·cases h) (λdx dy e h=>by
  cases dx<;>cases dy<;>simp only[U8,reduceCtorEq]at h;split at h<;>cases h) λ_ _ _ _ _=>.int
def wI:mI X (binaryOp .Pow) BH:=mI.aa8 (dw:=λi j=>.int (i^j.toNat)) XV (λdx dy d h=>by
 cases dx<;>cases dy<;>simp only[BH,reduceCtorEq]at h;split at h
 ·rename_i hc;cases h;exact⟨_,_,rfl,rfl,hc,rfl⟩
 ·cases h) (λdx dy e h=>by
  cases dx<;>cases dy<;>simp only[BH,reduceCtorEq]at h;split at h<;>cases h) λ_ _ _ _ _=>.int
def VT:mE X (binaryOp .Mult) (rI A3 λi j=>.int (i*j)):=opI λ_ _ _ _ _ _ _ hc q=>mul_int q (MH hc)
def E6:mI X (binaryOp .Mult) wD:=mI.aa8 (dw:=λi j=>.int (i*j)) VT (λdx dy d h=>by
 cases dx<;>cases dy<;>simp only[wD,reduceCtorEq]at h;split at h
 ·rename_i hc;cases h;exact⟨_,_,rfl,rfl,hc,rfl⟩
 ·cases h) (λdx dy e h=>by
  cases dx<;>cases dy<;>simp only[wD,reduceCtorEq]at h;split at h<;>cases h) λ_ _ _ _ _=>.int
def VW:mE X (binaryOp .Add) (λx y H Q=>∃l b xs zs,x=.ref l/\y=.ref b/\O6 X.K H l xs/\O6 X.K H b zs/\xs.length+zs.length<=sizeLine/\∀p,H p=none->Q (.ref p) (upd H p (.lst (xs++zs)))):=by
 intro pins s σ H x y v u Q I rx ry h;obtain⟨l,b,xs,zs,rfl,rfl,hH,hB,hz,q⟩:=h;cases rx;cases ry;obtain⟨its,r,p,_⟩:=I.list hH;obtain⟨me,r2,p2,_⟩:=I.list hB;obtain⟨⟨cls,dd,data,sl⟩,ho,hc,n,hd⟩:=p.isList;obtain⟨⟨cls2,wu,data2,vm⟩,lu,ki,n2,hd2⟩:=p2.isList;simp only at hc hd ki hd2;subst hc hd ki hd2;have iu:its.toArray.size+me.toArray.size<=sizeLine:=by rw[aAl,aAl,<-r.length,<-r2.length];exact hz
 have ea:its.toArray++me.toArray=(its++me).toArray:=by simp
 refine aFq ⟨_,ho,rfl⟩ ⟨_,lu,rfl⟩ noFill_list_add seq_list_add PySem.F.slot_list_add PySem.F.entry_list_add (PySem.F.args_list_add_2 _ _) (list_addW l b its.toArray me.toArray n n2 dd wu sl vm iu) ⟨ho,lu,?_⟩;rw[ea];exact⟨.ref _,_,I.ag2 (t':=s.toks) (r.append r2) (by rw[aAD];omega),rfl,q _ I.fresh⟩
def LK:mE X (binaryOp .Add) (λx y H Q=>∃a b ys,x=.ref a/\y=.ref b/\X7 X.K H a []/\X7 X.K H b ys/\Q (.ref b) H):=by intro pins s σ H x y v u Q I rx ry h;obtain⟨t,b,ys,rfl,rfl,ha,hb,q⟩:=h;cases rx;cases ry;obtain⟨its,r1,p1,_⟩:=I.tuple ha;obtain⟨ws,r2,p2,_⟩:=I.tuple hb;cases r1;obtain⟨⟨cls,dd,data,sl⟩,ho,hc,n,hd⟩:=p1;obtain⟨⟨cls2,wu,data2,vm⟩,lu,ki,n2,hd2⟩:=p2;simp only at hc hd ki hd2;subst hc hd ki hd2;exact aFq ⟨_,ho,rfl⟩ ⟨_,lu,rfl⟩ aFf seq_tuple_add PySem.F.slot_tuple_add PySem.F.entry_tuple_add (PySem.F.args_tuple_add_2 _ _) (tuple_addW0 t b _ _ n n2 dd wu sl vm (by simp)) ⟨ho,lu,.ref b,H,I,rfl,q⟩
def t5:mI X (binaryOp .Add) aQ:=by
 intro H O x y dx dy Q fr r1 r2 q;cases dx with
 |int i=>
  cases dy with
  |int j=>cases r1.aa2;cases r2.aa2;exact⟨_,YC,i,j,rfl,rfl,q _ H (Same.refl _) .int⟩
  |_=>exact aAg q
 |lst a=>
  cases dy with
  |lst b=>
   simp only[aQ]at q;split at q
   ·rename_i hz;obtain⟨l,vs,rfl,h1,h2⟩:=r1.aa4;obtain⟨l',ja,rfl,ym,yn⟩:=r2.aa4;exact⟨_,VW,l,l',vs,ja,rfl,rfl,h1,ym,by rw[h2.length,yn.length];exact hz,λp hp=>q _ _ (j4 hp _) (.lst (O6.of i9) (fr p hp) ((h2.append yn).same (j4 hp _)))⟩
   ·exact q.elim
  |_=>exact aAg q
 |tup a=>
  cases dy with
  |tup b=>
   cases a with
   |nil=>obtain⟨l,vs,rfl,h1,h2⟩:=r1.tupI;obtain⟨l',ja,rfl,ym,yn⟩:=r2.tupI;cases h2;exact⟨_,LK,l,l',ja,rfl,rfl,h1,ym,q _ H (Same.refl _) (.tup ym yn)⟩
   |cons x a=>
    cases b with
    |nil=>
     obtain⟨l,vs,rfl,h1,h2⟩:=r1.tupI;obtain⟨l',ja,rfl,ym,yn⟩:=r2.tupI;cases yn;have n1:vs≠[]:=λz=>by subst z;have:=h2.length;simp at this
     simp only[aQ]at q;split at q
     ·rename_i hz;exact⟨_,EQ,l,l',vs,[],rfl,rfl,h1,ym,n1,by rw[h2.length];exact hz,λ_=>q _ H (Same.refl _) (.tup h1 h2),λz=>absurd rfl z⟩
     ·exact q.elim
    |cons y b=>
     simp only[aQ]at q;split at q
     ·rename_i hz;obtain⟨l,vs,rfl,h1,h2⟩:=r1.tupI;obtain⟨l',ja,rfl,ym,yn⟩:=r2.tupI;have n1:vs≠[]:=λz=>by subst z;have:=h2.length;simp at this
      have n2:ja≠[]:=λz=>by subst z;have:=yn.length;simp at this
      exact⟨_,EQ,l,l',vs,ja,rfl,rfl,h1,ym,n1,by rw[h2.length,yn.length];exact hz,λz=>absurd z n2,λ_ p hp=>q _ _ (j4 hp _) (.tup (X7.of i9) ((h2.append yn).same (j4 hp _)))⟩
     ·exact q.elim
  |_=>cases a<;>exact aAg q
 |_=>exact aAg q
def O5 (x y:D):R D:=match x,y with
 |.lst xs,.int i=>match qI xs i with|some d=>.ok d|none=>.bad
 |.tup xs,.int i=>match qI xs i with|some d=>.ok d|none=>.bad
 |_,_=>.bad
def xB {K:PySem.W.Frag}{H:Hp}{O:Addr->Prop}{vs:List V}{ds:List D}{i:Int}{d:D}(r:Reps K H O vs ds)(h:qI ds i=some d):∃v,qI vs i=some v/\Rep K H O v d:=by
 unfold qI at h⊢;rw[r.length];cases e:JI ds.length i with
 |none=>rw[e]at h;cases h
 |some j=>rw[e]at h;exact r.get h
def i5 (ha:PB X a f)(hb:PD X b g)(hs:TK b:=by exactλ_ _=>rfl):PD X (.Subscript a b pos) (λρ=>(f ρ).bind λx=>(g ρ).bind λy=>O5 x y):=by
 refine qO λpins s σ H Q I Ha O0 O ρ E q=>?_;refine Subscript_ (HW ha hb.pb I (nH E q) λv u s2 x y H2 I2 rx ry h=>?_);obtain⟨dx,dy,fr,r1,r2,q⟩:=h;cases dy with
 |int i=>
  cases r2.aa2;cases dx with
  |lst xs=>
   simp only[O5]at q;cases e:qI xs i with
   |none=>rw[e]at q;exact q.elim
   |some d=>rw[e]at q;obtain⟨p,vs,rfl,h1,h2⟩:=r1.aa4;obtain⟨w,h3,h4⟩:=xB h2 e;exact SD a b pins s2 σ H2 _ _ v u Q I2 rx ry ⟨p,vs,i,w,rfl,rfl,h1,h3,q w H2 (Same.refl _) h4⟩ (hs _ _)
  |tup xs=>
   simp only[O5]at q;cases e:qI xs i with
   |none=>rw[e]at q;exact q.elim
   |some d=>rw[e]at q;obtain⟨p,vs,rfl,h1,h2⟩:=r1.tupI;obtain⟨w,h3,h4⟩:=xB h2 e;exact aq a b pins s2 σ H2 _ _ v u Q I2 rx ry ⟨p,vs,i,w,rfl,rfl,h1,h3,q w H2 (Same.refl _) h4⟩ (hs _ _)
  |_=>exact aAg q
 |_=>cases dx<;>exact aAg q
def cutD (xs:List D)(lo hi:Option Int):List D:=(xs.drop<|HT.sIx xs.length 0 lo).take (HT.sIx xs.length xs.length hi-HT.sIx xs.length 0 lo)
def sG {K:PySem.W.Frag}{H:Hp}{O:Addr->Prop}{vs:List V}{ds:List D}{lo hi:Option Int}(r:Reps K H O vs ds):Reps K H O (yX vs lo hi) (cutD ds lo hi):=by unfold yX cutD;rw[r.length];exact(r.drop _).take _
def PTO (X:Cx)(e:Option Expr)(f:Ev->R (Option Int)):Prop:=PO X e λσ H Q=>∃Ha O0 O ρ,EnvOk X.K Ha O0 H O σ ρ/\match f ρ with
 |.ok o=>∀H',Same H H'->Q o H'
 |.ex e=>∀H',Same H H'->XW X e H'
 |.bad=>False
def toI:D->R (Option Int)
 |.int i=>.ok (some i)
 |_=>.bad
def J3:PTO X none (λ_=>.ok none):=λpins s σ H Q I ⟨Ha,O0,O,ρ,E,q⟩=>VJ pins s σ H Q I (q H<|Same.refl _)
def t9 (h:PD X e f):PTO X (some e) (λρ=>(f ρ).bind toI):=λpins s σ H Q I ⟨Ha,O0,O,ρ,E,q⟩=>TW h pins s σ H Q I ⟨Ha,O0,O,ρ,E,by
 dsimp only at q;cases e:f ρ with
 |ok d=>
  rw[e]at q;cases d with
  |int i=>exactλv H1 s1 r1=>by cases r1;exact⟨i,rfl,q H1 s1⟩
  |_=>exact aAg q
 |ex x=>rw[e]at q;exact q
 |bad=>rw[e]at q;exact q⟩
def qQ (x:D)(lo hi:Option Int):R D:=match x with
 |.lst xs=>.ok (.lst (cutD xs lo hi))
 |.tup xs=>if HT.sIx xs.length 0 lo=0/\HT.sIx xs.length xs.length hi=xs.length then .bad else .ok (.tup (cutD xs lo hi))
 |_=>.bad
def W8 {lo hi:Option Expr}{p2:Pos}{fl fh:Ev->R (Option Int)}(he:PB X a f)(hl:PTO X lo fl)(hu:PTO X hi fh):
  PD X (.Subscript a (.Slice lo hi none p2) pos) (λρ=>(f ρ).bind λx=>(fl ρ).bind λl=>(fh ρ).bind λh=>qQ x l h):=by
 refine qO λpins s σ H Q I Ha O0 O ρ E q=>?_;have fin:∀x d l h H',C0 X.K H' O x d->(∀p,H' p=none->¬O p)->RC X H' O (qQ d l h) Q->a0d X.K x l h H' Q\/yj X.K x l h H' Q:=λx d l h H' r fr q=>by
  cases d with
  |lst xs=>obtain⟨p,vs,rfl,h1,h2⟩:=r.aa4;exact .inl ⟨p,vs,rfl,h1,λp hp=>q _ _ (j4 hp _) (.lst (O6.of i9) (fr p hp) ((sG h2).same (j4 hp _)))⟩
  |tup xs=>
   obtain⟨p,vs,rfl,h1,h2⟩:=r.tupI;simp only[qQ]at q;split at q
   ·exact q.elim
   ·rename_i hn;exact .inr ⟨p,vs,rfl,h1,by rw[h2.length];exact hn,λp hp=>q _ _ (j4 hp _) (.tup (X7.of i9) ((sG h2).same (j4 hp _)))⟩
  |_=>exact aAg q
 refine QW (UO.or dj) he hl hu pins s σ H Q I ⟨Ha,O0,O,ρ,E,?_⟩;dsimp only at q;cases e1:f ρ with
 |ok d=>
  rw[e1]at q;intro x H1 s1 r1;refine⟨Ha,O0,O,ρ,E.grow s1,?_⟩;rw[R.aa0]at q;cases e2:fl ρ with
  |ok l=>
   rw[e2]at q;intro H2 s2;refine⟨Ha,O0,O,ρ,(E.grow s1).grow s2,?_⟩;cases e3:fh ρ with
   |ok h=>rw[e3]at q;intro H3 s3;have q':RC X H O (qQ d l h) Q:=q;exact fin x d l h H3 ((r1.same s2).same s3) (λp hp=>(((E.grow s1).grow s2).grow s3).fresh hp) (q'.grow<|s1.trans<|s2.trans s3)
   |ex x=>rw[e3]at q;exactλH3 s3=>q H3 (s1.trans<|s2.trans s3)
   |bad=>rw[e3]at q;exact q
  |ex x=>rw[e2]at q;exactλH3 s3=>q H3 (s1.trans s3)
  |bad=>rw[e2]at q;exact q
 |ex x=>rw[e1]at q;exact q
 |bad=>rw[e1]at q;exact q
def JK {K:PySem.W.Frag}{H:Hp}{O:Addr->Prop}{vs:List V}{d:D}(r:Paired (C0 K H O) vs [d]):∃v,vs=[v]/\C0 K H O v d:=by
 cases r with
 |cons r1 r2=>cases r2;exact⟨_,rfl,r1⟩
def pr2 {K:PySem.W.Frag}{H:Hp}{O:Addr->Prop}{vs:List V}{d d':D}(r:Paired (C0 K H O) vs [d,d']):∃v v',vs=[v,v']/\C0 K H O v d/\C0 K H O v' d':=by
 cases r with
 |cons r1 r2=>obtain⟨v',e,r'⟩:=JK r2;subst e;exact⟨_,_,rfl,r1,r'⟩
def LH:List D->R D
 |[.lst xs]=>.ok (.int xs.length)
 |[.tup xs]=>.ok (.int xs.length)
 |_=>.bad
def gZ:cG X (.builtin "len") LH:=by
 intro H O vs ds Q fr r q;match ds,q with
 |[.lst xs],q=>obtain⟨v,rfl,z⟩:=JK r;obtain⟨p,ys,rfl,h1,h2⟩:=z.aa4;exact⟨_,iH,p,ys,rfl,.inl h1,q _ H (Same.refl _) (by rw[h2.length];exact .int)⟩
 |[.tup xs],q=>obtain⟨v,rfl,z⟩:=JK r;obtain⟨p,ys,rfl,h1,h2⟩:=z.tupI;exact⟨_,iH,p,ys,rfl,.inr h1,q _ H (Same.refl _) (by rw[h2.length];exact .int)⟩
def rq:List D->R D
 |[.int i]=>.ok (.int (if i<0 then-i else i))
 |_=>.bad
def QS:cG X (.builtin "abs") rq:=by
 intro H O vs ds Q fr r q;match ds,q with
 |[.int i],q=>obtain⟨v,rfl,z⟩:=JK r;cases z.aa2;exact⟨_,KG,i,rfl,q _ H (Same.refl _) .int⟩
def WI:List D->R D
 |[.int i,.int j]=>.ok (.int (if j>i then j else i))
 |_=>.bad
def WW:List D->R D
 |[.int i,.int j]=>.ok (.int (if j<i then j else i))
 |_=>.bad
def TX (hc:X.calm=true):cG X (.builtin "max") WI:=by
 intro H O vs ds Q fr r q;match ds,q with
 |[.int i,.int j],q=>obtain⟨v,v',rfl,z,z'⟩:=pr2 r;cases z.aa2;cases z'.aa2;exact⟨_,GX hc,i,j,rfl,q _ H (Same.refl _) .int⟩
def RU (hc:X.calm=true):cG X (.builtin "min") WW:=by
 intro H O vs ds Q fr r q;match ds,q with
 |[.int i,.int j],q=>obtain⟨v,v',rfl,z,z'⟩:=pr2 r;cases z.aa2;cases z'.aa2;exact⟨_,HR hc,i,j,rfl,q _ H (Same.refl _) .int⟩
def BY:List D->R D
 |[.lst xs]=>.ok (.tup xs)
 |[.tup xs]=>.ok (.tup xs)
 |_=>.bad
def xE:cG X (.type "tuple") BY:=by
 intro H O vs ds Q fr r q;match ds,q with
 |[.lst xs],q=>obtain⟨v,rfl,z⟩:=JK r;obtain⟨p,ys,rfl,h1,h2⟩:=z.aa4;exact⟨_,fV,p,ys,rfl,.inl ⟨h1,λl hl=>q _ _ (j4 hl _) (.tup (X7.of i9) (h2.same<|j4 hl _))⟩⟩
 |[.tup xs],q=>obtain⟨v,rfl,z⟩:=JK r;obtain⟨p,ys,rfl,h1,h2⟩:=z.tupI;exact⟨_,fV,p,ys,rfl,.inr ⟨h1,q _ _ (Same.refl _) (.tup h1 h2)⟩⟩
def MT:List D->R D
 |[.lst xs]=>.ok (.lst xs)
 |[.tup xs]=>.ok (.lst xs)
 |_=>.bad
def DO:cG X (.type "list") MT:=by
 intro H O vs ds Q fr r q;match ds,q with
 |[.lst xs],q=>obtain⟨v,rfl,z⟩:=JK r;obtain⟨p,ys,rfl,h1,h2⟩:=z.aa4;exact⟨_,jG,p,ys,rfl,.inl h1,λl hl=>q _ _ (j4 hl _) (.lst (O6.of i9) (fr l hl) (h2.same<|j4 hl _))⟩
 |[.tup xs],q=>obtain⟨v,rfl,z⟩:=JK r;obtain⟨p,ys,rfl,h1,h2⟩:=z.tupI;exact⟨_,jG,p,ys,rfl,.inr h1,λl hl=>q _ _ (j4 hl _) (.lst (O6.of i9) (fr l hl) (h2.same<|j4 hl _))⟩
def tyD:D->String
 |.non=> "NoneType"|.bl _=> "bool"|.int _=> "int"|.str _=> "str"|.tup _=> "tuple"|.lst _=> "list"|.dct=> "dict"
def BA (T:String)(d:D):Bool:=tyD d==T||(T== "int"&&tyD d== "bool")
def yC (T:String):Prop:=∀(K:PySem.W.Frag) (d:D),PySem.W.kitOne K (.type (tyD d)) (.type T)=some (BA T d)
def SK:yC "int":=λK d=>by cases d<;>with_unfolding_all rfl
def KL:yC "bool":=λK d=>by cases d<;>with_unfolding_all rfl
def GH:yC "tuple":=λK d=>by cases d<;>with_unfolding_all rfl
def TV {O:Addr->Prop}(I:Inv X pins σ H s)(ht:yC T)(r:C0 X.K H O v d)(ru:RelV v u)(q:Q (.bl (BA T d)) H):
  wpAny (model X.prog X.w) X.A (call (.builtin "isinstance") [u,.type T]) (EP X pins σ Q) X.xe s:=by
 have e:=ht X.K d;have fin:∀tk,EP X pins σ Q (.bool (BA T d)) {s with toks:=tk}:=λtk=>⟨.bl _,H,I.tok _,rfl,q⟩;cases d with
 |non=>cases r.ac1;cases ru;exact PySem.W.kia_one PySem.W.kitx_none I.kIn aGc e (λz=>nomatch z) fin
 |bl=>cases r.blI;cases ru;exact PySem.W.kia_one PySem.W.kitx_bool I.kIn aGc e (λz=>nomatch z) fin
 |int=>cases r.aa2;obtain⟨t,rfl⟩:=ru;exact PySem.W.kia_one PySem.W.kitx_int I.kIn aGc e (λz=>nomatch z) fin
 |str=>cases r.ac3;obtain⟨t,rfl⟩:=ru;exact PySem.W.kia_one PySem.W.kitx_str I.kIn aGc e (λz=>nomatch z) fin
 |tup xs=>obtain⟨a,vs,rfl,h,_⟩:=r.tupI;cases ru;obtain⟨its,_,p,_⟩:=I.tuple h;obtain⟨o,h1,h2,_⟩:=p;exact PySem.W.kia_one PySem.W.kitx_tuple I.kIn ⟨o,h1,h2⟩ e (λz=>nomatch z) fin
 |lst xs=>obtain⟨a,vs,rfl,h,_⟩:=r.aa4;cases ru;obtain⟨its,_,p,_⟩:=I.list h;obtain⟨o,n,h1,h2,_⟩:=p;exact PySem.W.kia_one PySem.W.kitx_list I.kIn ⟨o,h1,h2⟩ e (λz=>nomatch z) fin
 |dct=>obtain⟨a,o,rfl,h,x⟩:=r.ag0;cases ru;exact PySem.W.kia_one PySem.W.kitx_dict I.kIn ⟨o,(I.hok _ _ h).1,x.1⟩ e (λz=>nomatch z) fin
def zZ (ht:yC T)(ha:PB X a f)(hT:bootBuiltins x=some (.type T):=by decide+kernel)(hm:X.mg "isinstance"=none:=by assumption)(hmT:X.mg x=none:=by assumption)(hg:Gl X "isinstance":=by rfl)(hgT:Gl X x:=by rfl)(de:(x==("__debug__":Str))=false:=by decide)(hn:x≠ "__name__":=by decide)(he:starEach [a,.Name x pt] X.env=(false,eval a X.env)::starEach [.Name x pt] X.env:=by rfl)(jr:starEach [Expr.Name x pt] X.env=[(false,eval (.Name x pt) X.env)]:=by rfl)(bh:(backTo pos (starEach [Expr.Name x pt] X.env)).any (·.1)=false:=by rfl):
  PD X (.Call (.Name "isinstance" p) [a,.Name x pt] [] pos) (λρ=>(f ρ).bind λd=>.ok (.bl (BA T d))):=by
 refine qO λpins s σ H Q I Ha O0 O ρ E q=>?_;refine aAP (P6 (u:=.builtin "isinstance") I hg hm (by decide+kernel) ?_);have hb:PE X (.Name x pt) (tC<|.ty T):=GA hgT hmT hT rfl hn de;have h:=J8 ha (J8 hb cC (by rw[jr];rfl)) he pos pins s σ H (λvs H1=>∃v d,vs=[v,.ty T]/\C0 X.K H1 O v d/\Q (.bl (BA T d)) H1) I ⟨Ha,O0,O,ρ,E,by refine OY.mono (OY.seq q) λv H1 ⟨d,_,s1,r1,h1⟩=>?_;exact⟨v,d,rfl,r1,h1 _ H1 (Same.refl _) .bl⟩⟩
 refine aBF (D4 h λus s1 ⟨vs,H1,I1,r1,v,d,e,r,h⟩=>?_) he bh;subst e;obtain⟨u,w,rfl,ru,rw'⟩:=vals2 r1;cases rw';exact TV I1 ht r ru h
end
section
variable{K:PySem.W.Frag}
def Kp.lst (k:Kp H O H' O'){a:Addr}{xs:List V}(n:¬O a)(h:O6 K H a xs)(hK:∀o,K.lookup a=some o->¬O' a):¬O' a/\O6 K H' a xs:=by
 rcases h with(h|⟨o,h⟩)|h
 ·exact⟨(k _ _ h n).2,.inl (.inl (k _ _ h n).1)⟩
 ·exact⟨(k _ _ h n).2,.inl (.inr ⟨o,(k _ _ h n).1⟩)⟩
 ·obtain⟨o,its,m,h1,h2⟩:=h;exact⟨hK o h1,.inr ⟨o,its,m,h1,h2⟩⟩
def Kp.tup (k:Kp H O H' O')(hO:∀a,O a->∃o,H a=some o/\Mt o){a:Addr}{xs:List V}(h:X7 K H a xs):X7 K H' a xs:=by
 rcases h with(h|⟨o,h⟩)|h
 ·exact .inl (.inl (k _ _ h λz=>by obtain⟨o,q,m⟩:=hO a z;rw[h]at q;cases q;exact m).1)
 ·exact .inl (.inr ⟨o,(k _ _ h λz=>by obtain⟨o,q,m⟩:=hO a z;rw[h]at q;cases q;exact m).1⟩)
 ·exact .inr h
end
def S6 (K:PySem.W.Frag)(O:Addr->Prop):Prop:=∀a o,K.lookup a=some o->¬O a
def Kp.rep {K:PySem.W.Frag}{H H':Hp}{O O':Addr->Prop}(k:Kp H O H' O')(hO:∀a,O a->∃o,H a=some o/\Mt o)(hK:S6 K O'){v:V}{d:D}(r:Rep K H O v d):Rep K H' O' v d:=
 r.mono (λ_ _ h=>k.tup hO h) (λa _ n h=>k.lst n h λo q=>hK a o q) λa _ n h=>⟨(k a _ h n).2,(k a _ h n).1⟩
def Kp.ac5 {K:PySem.W.Frag}{H H':Hp}{O O':Addr->Prop}(k:Kp H O H' O')(hO:∀a,O a->∃o,H a=some o/\Mt o)(hK:S6 K O'){v:List V}{d:List D}(r:Reps K H O v d):Reps K H' O' v d:=
 r.mono (λ_ _ h=>k.tup hO h) (λa _ n h=>k.lst n h λo q=>hK a o q) λa _ n h=>⟨(k a _ h n).2,(k a _ h n).1⟩
inductive Out where
 |nx (ρ:Ev)|rt (d:D)|bk (ρ:Ev)|ct (ρ:Ev)
def RS (X:Cx)(Ha:Hp)(O0:Addr->Prop)(H:Hp)(O:Addr->Prop)(r:R Out)(D:Ends):Prop:=match r with
 |.ok (.nx ρ)=>∀ao H' O',EnvOk X.K Ha O0 H' O' ao ρ->S6 X.K O'->Kp H O H' O'->D.nx ao H'
 |.ok (.bk ρ)=>∀ao H' O',EnvOk X.K Ha O0 H' O' ao ρ->S6 X.K O'->Kp H O H' O'->D.bk ao H'
 |.ok (.ct ρ)=>∀ao H' O',EnvOk X.K Ha O0 H' O' ao ρ->S6 X.K O'->Kp H O H' O'->D.ct ao H'
 |.ok (.rt d)=>∀v H',Same Ha H'->Rep X.K H' O0 v d->D.rt v H'
 |.ex e=>∀H',Same Ha H'->XW X e H'
 |.bad=>False
def tS (X:Cx)(Ha:Hp)(O0:Addr->Prop)(F:Ev->R Out):TS:=λD σ H=>∃O ρ,EnvOk X.K Ha O0 H O σ ρ/\S6 X.K O/\RS X Ha O0 H O (F ρ) D
def jD (X:Cx)(st:Stmt)(F:Ev->R Out):Prop:=∀Ha O0,PS X st (tS X Ha O0 F)
def X8 (X:Cx)(st:List Stmt)(F:Ev->R Out):Prop:=∀Ha O0,uF X st (tS X Ha O0 F)
def ZN {X:Cx}{st:Stmt}{t t':TS}(h:PS X st t)(i:∀D σ H,t' D σ H->t D σ H):PS X st t':=λpins s σ H D I q=>h pins s σ H D I (i D σ H q)
def VP {X:Cx}{st:List Stmt}{t t':TS}(h:uF X st t)(i:∀D σ H,t' D σ H->t D σ H):uF X st t':=λpins s σ H D I q=>h pins s σ H D I (i D σ H q)
def ED {X:Cx}{st:Stmt}{t:TS}{F:Ev->R Out}{Ha:Hp}{O0:Addr->Prop}(h:PS X st t)(i:∀D σ H O ρ,EnvOk X.K Ha O0 H O σ ρ->S6 X.K O->RS X Ha O0 H O (F ρ) D->t D σ H):PS X st (tS X Ha O0 F):=ZN h λD σ H ⟨O,ρ,E,f,q⟩=>i D σ H O ρ E f q
def xz {X:Cx}{st:List Stmt}{t:TS}{F:Ev->R Out}{Ha:Hp}{O0:Addr->Prop}(h:uF X st t)(i:∀D σ H O ρ,EnvOk X.K Ha O0 H O σ ρ->S6 X.K O->RS X Ha O0 H O (F ρ) D->t D σ H):uF X st (tS X Ha O0 F):=VP h λD σ H ⟨O,ρ,E,f,q⟩=>i D σ H O ρ E f q
def RS.grow {X:Cx}{Ha:Hp}{O0:Addr->Prop}{H H1:Hp}{O O1:Addr->Prop}{r:R Out}{D:Ends}(h:RS X Ha O0 H O r D)(k:Kp H O H1 O1):RS X Ha O0 H1 O1 r D:=by
 cases r with
 |ok o=>
  cases o with
  |nx ρ=>exactλao H' O' E f q=>h ao H' O' E f (k.trans q)
  |bk ρ=>exactλao H' O' E f q=>h ao H' O' E f (k.trans q)
  |ct ρ=>exactλao H' O' E f q=>h ao H' O' E f (k.trans q)
  |rt d=>exact h
 |ex e=>exact h
 |bad=>exact h
def G8 (r:R Out)(F:Ev->R Out):R Out:=match r with
 |.ok (.nx ρ)=>F ρ
 |r=>r
section
variable{st:Stmt} {rest:List Stmt}
def RS.seq {Ha:Hp}{O0:Addr->Prop}{H:Hp}{O:Addr->Prop}{r:R Out}{D:Ends}(h:RS X Ha O0 H O (G8 r G) D):RS X Ha O0 H O r {D with nx:=tS X Ha O0 G D}:=by
 cases r with
 |ok o=>
  cases o with
  |nx ρ=>exactλao H' O' E f k=>⟨O',ρ,E,f,(show RS X Ha O0 H O (G ρ) D from h).grow k⟩
  |bk ρ=>exact h
  |ct ρ=>exact h
  |rt d=>exact h
 |ex e=>exact h
 |bad=>exact h
def n6:X8 X [] (λρ=>.ok (.nx ρ)):=λHa O0=>xz SJ λD σ H O ρ E f q=>q σ H O E f (Kp.refl _ _)
def c7 (h1:jD X st F)(h2:X8 X rest G):X8 X (st::rest) (λρ=>G8 (F ρ) G):=λHa O0=>xz (OP (h1 Ha O0)<|h2 Ha O0) λD σ H O ρ E f q=>⟨O,ρ,E,f,RS.seq q⟩
def d5 (h1:jD X st F):X8 X [st] F:=λHa O0=>FN (h1 Ha O0)
def j2 {e:Expr}{f:Ev->R D}(he:PD X e f):jD X (.Return (some e) pos) (λρ=>(f ρ).bind λd=>.ok (.rt d)):=λHa O0=>ED (NG he) λD σ H O ρ E fk q=>⟨Ha,O0,O,ρ,E,by
 cases e1:f ρ with
 |ok d=>rw[e1]at q;exactλv H' s r=>q v H' (E.same.trans s) (r.sub E.sub)
 |ex x=>rw[e1]at q;exactλH' s=>q H' (E.same.trans s)
 |bad=>rw[e1]at q;exact q⟩
def j3 (i:Nat){x:Str}{e:Expr}{f:Ev->R D}{pos':Pos}(he:PD X e f)(hN:X.N.Nodup)(hi:X.N[i]?=some x:=by rfl)(hx:Loc X.env.scope x:=by first|exact aBY rfl|exact aBk rfl)
  (hs:swapsWith e (some (.Name x pos')) pos.line X.env=pure false:=by rfl) (hf:X.fn x=true\/X.env.scope.names.lookup x=some .local:=by first|exact .inl rfl|exact .inr rfl|assumption):
  jD X (.Assign [.Name x pos'] e pos) (λρ=>(f ρ).bind λd=>.ok (.nx (ρ.set i (.v d)))):=λHa O0=>ED (NC hN hi hx he hs hf) λD σ H O ρ E fk q=>⟨Ha,O0,O,ρ,E,by
 cases e1:f ρ with
 |ok d=>rw[e1]at q;exactλv H' s r=>q _ H' O ((E.grow s).set i r) fk (Kp.of s)
 |ex x=>rw[e1]at q;exactλH' s=>q H' (E.same.trans s)
 |bad=>rw[e1]at q;exact q⟩
def w6 {c:Expr}{a b:List Stmt}{fc:Ev->R Bool}(hc:BO X c fc)(ha:X8 X a F)(hb:X8 X b G):jD X (.If c a b pos) (λρ=>(fc ρ).bind λt=>if t=true then F ρ else G ρ):=λHa O0=>ED (yw hc (ha Ha O0)<|hb Ha O0) λD σ H O ρ E fk q=>⟨Ha,O0,O,ρ,E,by
 cases e1:fc ρ with
 |ok t=>
  rw[e1]at q;intro H' s;cases t with
  |true=>rw[if_pos rfl];exact⟨O,ρ,E.grow s,fk,RS.grow q (Kp.of s)⟩
  |false=>rw[if_neg aAL];exact⟨O,ρ,E.grow s,fk,RS.grow q (Kp.of s)⟩
 |ex x=>rw[e1]at q;exactλH' s=>q H' (E.same.trans s)
 |bad=>rw[e1]at q;exact q⟩
def XB (K:PySem.W.Frag)(J:It)(H:Hp)(O:Addr->Prop)(ds:List D):Prop:=∀H2 O2,Kp H O H2 O2->S6 K O2->(∀a,O a->∃o,H a=some o/\Mt o)->(∀a,O2 a->∃o,H2 a=some o/\Mt o)->∀i:Nat,
 (∀d,ds[i]?=some d->J.go i H2/\∀x H',J.yld i H2 x H'->Same H2 H'/\Rep K H' O2 x d)/\(ds[i]?=none->J.stop i H2)
def tI (X:Cx)(f:Ev->R (List D)):TI:=λσ H R=>∃Ha O0 O ρ,EnvOk X.K Ha O0 H O σ ρ/\S6 X.K O/\match f ρ with
 |.ok ds=>∀J H',Same H H'->XB X.K J H' O ds->R J H'
 |.ex e=>∀H',Same H H'->XW X e H'
 |.bad=>False
def XH (X:Cx)(tg C8:Expr)(f:Ev->R (List D)):Prop:=PI X tg C8 (tI X f)
def KH (h:PI X tg C8 t)(i:∀σ H R,t' σ H R->t σ H R):PI X tg C8 t':=λpins s σ H R I q=>h pins s σ H R I (i σ H R q)
def jE:D->R (List D)
 |.lst xs=>.ok xs
 |_=>.bad
def DU:D->R (List D)
 |.tup xs=>.ok xs
 |_=>.bad
def F3 (h:PD X C8 f):XH X tg C8 (λρ=>(f ρ).bind jE):=KH (UQ h) λσ H R ⟨Ha,O0,O,ρ,E,fk,q⟩=>⟨Ha,O0,O,ρ,E,by
 dsimp only at q;cases e:f ρ with
 |ok d=>
  rw[e]at q;cases d with
  |lst xs=>
   intro v H' s r;cases r with
   |lst h n r=>
    rename_i a vs;refine⟨a,rfl,⟨vs,h⟩,q (Itl X.K a) H' s ?_⟩;intro H2 O2 k hK hO hO2 i;obtain⟨n2,h2⟩:=k.lst n h λo q=>hK a o q;have r2:=k.ac5 hO hK r;refine⟨λd e=>?_,λe=>⟨vs,h2,by rw[r.length];exact aCd.mp e⟩⟩;obtain⟨v,h3,h4⟩:=r2.get e;exact⟨⟨vs,v,h2,h3⟩,λx H3 ⟨e1,e2⟩=>by subst e1;have:=e2 vs h2;rw[h3]at this;cases this;exact⟨Same.refl _,h4⟩⟩
  |_=>exact aAg q
 |ex x=>rw[e]at q;exact q
 |bad=>rw[e]at q;exact q⟩
def uU (h:PD X C8 f):XH X tg C8 (λρ=>(f ρ).bind DU):=KH (XQ h) λσ H R ⟨Ha,O0,O,ρ,E,fk,q⟩=>⟨Ha,O0,O,ρ,E,by
 dsimp only at q;cases e:f ρ with
 |ok d=>
  rw[e]at q;cases d with
  |tup xs=>
   intro v H' s r;cases r with
   |tup h r=>
    rename_i a vs;refine⟨a,rfl,⟨vs,h⟩,q (Itt X.K a) H' s ?_⟩;intro H2 O2 k hK hO hO2 i;have h2:=k.tup hO h;have r2:=k.ac5 hO hK r;refine⟨λd e=>?_,λe=>⟨vs,h2,by rw[r.length];exact aCd.mp e⟩⟩;obtain⟨v,h3,h4⟩:=r2.get e;exact⟨⟨vs,v,h2,h3⟩,λx H3 ⟨e1,e2⟩=>by subst e1;have:=e2 vs h2;rw[h3]at this;cases this;exact⟨Same.refl _,h4⟩⟩
  |_=>exact aAg q
 |ex x=>rw[e]at q;exact q
 |bad=>rw[e]at q;exact q⟩
def XF (lo c:Int)(n:Nat):It:=⟨λi _=>i<n,λi H x H'=>H'=H/\x=.int (lo+i*c),λi _=>n<=i⟩
def zS {P:Program}{w:World}{K:PySem.W.Frag}{tg:Expr}(it:Addr)(lo c:Int)(n:Nat):Turn P w K tg (XF lo c n) [it] it (λi h=>IsRangeIter h it (lo+(i:Nat)*c) ((n:Int)-(i:Nat)) c)where
 mem:=by simp
 obj:=λi h st b hb=>by
  have e:b=it:=by simpa using hb
  subst e;exact⟨_,st,λv z=>by have z':Data.fields _=Data.cell v:=z;cases z'⟩
 keep:=λi h h' st k=>k it (by simp) _ st
 item:=by intro X hP hw hK hc i pins s σ H E I hf st hg;subst hP hw hK;obtain⟨f0,f1,f2,f3,f4,f5⟩:=hf it (by simp);have W:=Walks.range (prog:=X.prog) (w:=X.w) (I.ok.hd hc) it lo c n;refine W.item i s _ _ hg st λv h' tk hv st' kk=>?_;obtain⟨t,rfl⟩:=hv;have I1:Inv X pins σ H {s with heap:=h',toks:=tk}:=I.turned (λb o hb e=>kk b o (by simpa using hb) e) f0 f1 f3 f4 f5;exact⟨_,rfl,LZ (s:={s with heap:=h',toks:=tk}) (n:= "range_iterator") st' rfl rfl (by decide) ⟨.int (lo+i*c),H,I1,⟨t,rfl⟩,⟨rfl,rfl⟩,st',λb hb=>(hf b hb).1⟩⟩
 done:=by intro X hP hw hK hc i pins s σ H E I hf st hg;subst hP hw hK;obtain⟨f0,f1,f2,f3,f4,f5⟩:=hf it (by simp);exact wpAny_pyNext_range_end (I.ok.hd hc) st (by have:n<=i:=hg;lia) λh' eb=>⟨rfl,I.turned (t':=s.toks) (λb o hb e=>eb b o hb e) f0 f1 f3 f4 f5⟩
 self:=λ_ _ _ _ _ st h=>wpAny_pyIter_rangeiter st h
def wS (lo c:Int)(n:Nat):List D:=(aBL n).map λ(k:Nat)=>D.int (lo+(k:Int)*c)
def kE (K:PySem.W.Frag)(H:Hp)(O:Addr->Prop)(lo c:Int)(n:Nat):XB K (XF lo c n) H O (wS lo c n):=by
 intro H2 O2 k hK hO hO2 i;unfold wS;rw[aAN];by_cases hi:i<n
 ·rw[List.getElem?_range hi];refine⟨λd e=>?_,λe=>(by cases e)⟩;cases e;exact⟨hi,λx H' ⟨e1,e2⟩=>by subst e1 e2;exact⟨Same.refl _,.int⟩⟩
 ·rw[aCd.mpr (by simpa using hi)];exact⟨λd e=>(by cases e),λ_=>aDX hi⟩
def mH (a b c:Int):Nat:=if a<b then((b-a-1)/c+1).toNat else 0
def JC (hc:0<c):aCu a b c=(mH a b c:Int):=by
 unfold aCu mH;rw[if_pos (by lia)];split
 ·have:0<=(b-a-1)/c:=aFr (by lia) (by lia)
  lia
 ·rfl
def IC (hc:0<c)(ki:c<2^30)(ha:-(2^60)<=a)(ha':a<2^60)(hb:-(2^60)<=b)(qe:b<2^60):aFN a b c=true:=by
 unfold aFN;have e:aCu a b c=if a<b then(b-a-1)/c+1 else 0:=by unfold aCu;rw[if_pos (by lia)]
 rw[e];have h1:a<b->(b-a-1)/c<=b-a-1:=λh=>Int.ediv_le_self _ (by lia);have h2:a<b->0<=(b-a-1)/c:=λh=>aFr (by lia) (by lia);have h3:a<b->(b-a-1)/c*c<=b-a-1:=λh=>Int.ediv_mul_le _ (by lia);simp only[Builtin.Range.rangeFitsLong,aAC,Bool.or_eq_true,decide_eq_true_eq,beq_iff_eq,show c>0 by lia,if_true];split
 ·rename_i h;have h1:=h1 h;have h2:=h2 h;have h3:=h3 h;generalize(b-a-1)/c=q at*
  lia
 ·lia
def oV (a b c:Int):Prop:=0<c/\c<2^30/\-(2^60)<=a/\a<2^60/\-(2^60)<=b/\b<2^60
instance(a b c:Int):Decidable (oV a b c):=inferInstanceAs (Decidable<|_/\_)
def gH:List D->R (List D)
 |[.int b]=>if oV 0 b 1 then .ok (wS 0 1 (mH 0 b 1))else .bad
 |[.int a,.int b]=>if oV a b 1 then .ok (wS a 1 (mH a b 1))else .bad
 |[.int a,.int b,.int c]=>if oV a b c then .ok (wS a c (mH a b c))else .bad
 |_=>.bad
def kZ {R:It->Hp->Prop}{E:F1}(I:Inv X pins σ H s)(h:oV a b c)(q:R (XF a c (mH a b c)) H):wpAny (model X.prog X.w) X.A (pyIter (.ref s.heap.objs.size)) (PIE X pins σ tg R) E {s with heap:=s.heap.push {cls:=.type "range",data:=.fields #[.int a t,.int b u,.int c v]},toks:=tk}:=by
 obtain⟨h1,h2,h3,h4,h5,h6⟩:=h;refine wpAny_pyIter_range (IsRange.new ..) (IC h1 h2 h3 h4 h5 h6) ?_;have I1:Inv X pins σ H {s with heap:=s.heap.push {cls:=.type "range",data:=.fields #[.int a t,.int b u,.int c v]},toks:=tk}:=I.kept λb o e=>aAc _ e;refine⟨(s.heap.push {cls:=.type "range",data:=.fields #[.int a t,.int b u,.int c v]}).objs.size,[(s.heap.push {cls:=.type "range",data:=.fields #[.int a t,.int b u,.int c v]}).objs.size],_,_,H,rfl,
  I1.kept (t':=tk) λb o e=>aAc _ e,zS _ a c (mH a b c),?_,λbb hb=>?_,q⟩
 ·have e1:a+((0:Nat):Int)*c=a:=by simp
  have e2:((mH a b c:Nat):Int)-((0:Nat):Int)=aCu a b c:=by rw[JC h1];simp
  show IsRangeIter _ _ (a+((0:Nat):Int)*c) (((mH a b c:Nat):Int)-((0:Nat):Int)) c;rw[e1,e2];exact aAn _ rfl
 ·have e:bb=(s.heap.push {cls:=.type "range",data:=.fields #[.int a t,.int b u,.int c v]}).objs.size:=by simpa using hb
  subst e;exact I1.af3 (aAh _) (I1.hok.fresh<|aAh _)
def NO {R:It->Hp->Prop}{O:Addr->Prop}(I:Inv X pins σ H s)(r:Paired (C0 X.K H O) vs ds)(ru:l8 vs us)(h:gH ds=.ok cb)(q:∀J,XB X.K J H O cb->R J H):wpAny (model X.prog X.w) X.A (call (.type "range") us) (λv s1=>wpAny (model X.prog X.w) X.A (pyIter v) (PIE X pins σ tg R) X.xe s1) X.xe s:=by
 match ds,h with
 |[.int b],h=>
  obtain⟨v,rfl,z⟩:=JK r;cases z.aa2;obtain⟨u,rfl,t,rfl⟩:=vals1 ru;simp only[gH]at h;split at h
  ·rename_i hk;cases h;exact call_range_1 (kZ I hk<|q _<|kE _ _ _ _ _ _)
  ·cases h
 |[.int a,.int b],h=>
  obtain⟨v,v',rfl,z,z'⟩:=pr2 r;cases z.aa2;cases z'.aa2;obtain⟨u,u',rfl,⟨t,rfl⟩,⟨t',rfl⟩⟩:=vals2 ru;simp only[gH]at h;split at h
  ·rename_i hk;cases h;exact call_range_2 (kZ I hk<|q _<|kE _ _ _ _ _ _)
  ·cases h
 |[.int a,.int b,.int c],h=>
  cases r with
  |cons z1 r=>
   obtain⟨v,v',rfl,z,z'⟩:=pr2 r;cases z1.aa2;cases z.aa2;cases z'.aa2;cases ru with
   |cons w1 ru=>
    obtain⟨u,u',rfl,⟨t,rfl⟩,⟨t',rfl⟩⟩:=vals2 ru;obtain⟨t1,rfl⟩:=w1;simp only[gH]at h;split at h
    ·rename_i hk;cases h;have mi:=hk;obtain⟨h1,h2,_⟩:=mi;exact call_range_3 (by lia) (kZ (tk:=s.toks) I hk<|q _<|kE _ _ _ _ _ _) (.inl (PyProof.noPylong_small (by lia)))
    ·cases h
def eY {tg e:Expr}{es:List Expr}{p:Pos}{f:Ev->R (List D)}(ha:cz X (e::es) f)(hg:Gl X "range":=by rfl)(hm:X.mg "range"=none:=by assumption)
  (he:starEach (e::es) X.env=(false,eval e X.env)::starEach es X.env:=by rfl) (bh:(backTo pos (starEach es X.env)).any (·.1)=false:=by rfl):
  XH X tg (.Call (.Name "range" p) (e::es) [] pos) (λρ=>(f ρ).bind gH):=by
 intro pins s σ H Q I ⟨Ha,O0,O,ρ,E,fk,q⟩;dsimp only at q;refine Call_ (P6 I hg hm boot_range<|aBf (D4 (ha pos pins s σ H (λvs H1=>∃ds cb,Same H H1/\Paired (C0 X.K H1 O) vs ds/\gH ds=.ok cb/\∀J,XB X.K J H1 O cb->Q J H1) I ⟨Ha,O0,O,ρ,E,?_⟩) λus s1 ⟨vs,H1,I1,r1,ds,cb,sm,r,h1,h2⟩=>?_) he bh)
 ·cases e1:f ρ with
  |ok ds=>
   rw[e1]at q;intro vs H1 s1 r1;rw[R.aa0]at q;cases e2:gH ds with
   |ok cb=>rw[e2]at q;exact⟨ds,cb,s1,r1,e2,λJ hJ=>q J H1 s1 hJ⟩
   |ex x=>
    rw[e2]at q;match ds,e2 with
    |[.int b],e2=>simp only[gH]at e2;split at e2<;>cases e2
    |[.int a,.int b],e2=>simp only[gH]at e2;split at e2<;>cases e2
    |[.int a,.int b,.int c],e2=>simp only[gH]at e2;split at e2<;>cases e2
   |bad=>rw[e2]at q;exact q.elim
  |ex x=>rw[e1]at q;exact q
  |bad=>rw[e1]at q;exact q
 ·exact NO I1 r r1 h1 h2
def tG (X:Cx)(G:D->Ev->R Ev):TG:=λv σ H Q=>∃Ha O0 O ρ d au,EnvOk X.K Ha O0 H O σ ρ/\Rep X.K H O v d/\G d ρ=.ok au/\∀ao H',Same H H'->EnvOk X.K Ha O0 H' O ao au->Q ao H'
def RG (X:Cx)(tg:Expr)(G:D->Ev->R Ev):Prop:=PG X tg (tG X G)
def fx (h:PG X tg t)(i:∀v σ H Q,t' v σ H Q->t v σ H Q):PG X tg t':=λpins s σ H v u Q I r q=>h pins s σ H v u Q I r (i v σ H Q q)
def F6 (i:Nat)(hN:X.N.Nodup)(hi:X.N[i]?=some x:=by rfl)(hx:Loc X.env.scope x:=by first|exact aBY rfl|exact aBk rfl)(hf:X.fn x=true\/X.env.scope.names.lookup x=some .local:=by first|exact .inl rfl|exact .inr rfl|assumption):
  RG X (.Name x pos) (λd ρ=>.ok (ρ.set i (.v d))):=fx (RI hN hi hx hf) λv σ H Q ⟨Ha,O0,O,ρ,d,au,E,r,e,q⟩=>by
 cases e;exact q _ H (Same.refl _) (E.set i r)
def tGs (X:Cx)(G:List D->Ev->R Ev):XT:=λvs σ H Q=>∃Ha O0 O ρ ds au,EnvOk X.K Ha O0 H O σ ρ/\Reps X.K H O vs ds/\G ds ρ=.ok au/\∀ao H',Same H H'->EnvOk X.K Ha O0 H' O ao au->Q ao H'
def RQ (X:Cx)(tgs:List Expr)(G:List D->Ev->R Ev):Prop:=gx X tgs (tGs X G)
def FU {tg:List Expr}{t t':XT}(h:gx X tg t)(i:∀v σ H Q,t' v σ H Q->t v σ H Q):gx X tg t':=λpins s σ H v u Q I r q=>h pins s σ H v u Q I r (i v σ H Q q)
def WP:List D->Ev->R Ev
 |[],ρ=>.ok ρ
 |_,_=>.bad
def uY (G:D->Ev->R Ev)(Gs:List D->Ev->R Ev):List D->Ev->R Ev
 |d::ds,ρ=>(G d ρ).bind λau=>Gs ds au
 |_,_=>.bad
def QP:RQ X [] WP:=FU SC λvs σ H Q ⟨Ha,O0,O,ρ,ds,au,E,r,e,q⟩=>by
 cases r with
 |nil=>cases e;exact⟨rfl,q σ H (Same.refl _) E⟩
 |cons _ _=>cases e
def tT {e:Expr}{es:List Expr}{G:D->Ev->R Ev}{Gs:List D->Ev->R Ev}(h1:RG X e G)(h2:RQ X es Gs)
  (hs:(assignEach (e::es) X.env).map (·.2)=assign e X.env::(assignEach es X.env).map (·.2):=by rfl):RQ X (e::es) (uY G Gs):=FU (OW h1 h2 hs) λvs σ H Q ⟨Ha,O0,O,ρ,ds,au,E,r,e,q⟩=>by
 cases r with
 |nil=>cases e
 |@cons v d vs ds r rr=>
  simp only[uY]at e;cases e1:G d ρ with
  |ok ρ1=>rw[e1]at e;exact⟨v,vs,rfl,Ha,O0,O,ρ,d,ρ1,E,r,e1,λσ1 H1 s1 E1=>⟨Ha,O0,O,ρ1,ds,au,E1,rr.same s1,e,λwm H2 s2 E2=>q wm H2 (s1.trans s2) E2⟩⟩
  |ex x=>rw[e1]at e;cases e
  |bad=>rw[e1]at e;cases e
def FR (n:Nat)(Gs:List D->Ev->R Ev):D->Ev->R Ev
 |.tup ds,ρ=>if ds.length=n then Gs ds ρ else .bad
 |.lst ds,ρ=>if ds.length=n then Gs ds ρ else .bad
 |_,_=>.bad
end
section
theorem tK (bc:t≠it):∀(n i:Nat) (s:Shared) (Q:List Value->Shared->Prop),s.heap.IsListIter it t i->s.heap.IsList t items->i+n<=items.size->
  (∀h',h'.IsListIter it t (i+n)->Heap.SameBut it s.heap h'->Q ((items.toList.drop i).take n) {s with heap:=h'})->wpAny (model prog w) A (draw (.ref it) n) Q E s
 |0,i,s,Q,hit,_,_,hQ=>by show wpAny _ _ (pure []) Q E s;exact aAb (by simpa using hQ s.heap hit (aGd ..))
 |n+1,i,s,Q,hit,ht,hle,hQ=>by
  have av:i<items.size:=by omega
  show wpAny _ _ (pyNext (.ref it)>>=_) Q E s;refine aAa (wpAny_pyNext_list_item hit ht (x:=items[i]) (by simp[av]) λh₁ hit0 jl=>?_);refine aAa (aAO (tK bc n (i+1) _ _ hit0 (ht.extBut jl.extBut bc) (by omega) λjm hit1 ml=>aAb ?_));have hd:items.toList.drop i=items[i]::items.toList.drop (i+1):=by simp[aDu,av]
  have:=hQ jm (by rw[show i+(n+1)=i+1+n by omega];exact hit1) (jl.trans ml);rw[hd,List.take_succ_cons]at this;exact this
def kM {Q:List Value->Shared->Prop}(hh:A.handled=none)(ht:s.heap.IsList t items)(hQ:∀h',Heap.ExtBut s.heap.objs.size s.heap h'->Q items.toList {s with heap:=h'}):wpAny (model prog w) A (unpackItems (.ref t) items.size none) Q E s:=by
 have av:t≠s.heap.objs.size:=by obtain⟨o,ho,_⟩:=ht;exact aAk (aAf ho)
 unfold unpackItems;refine aAa ?_
 ·unfold notIterableAtAll;refine aAa (aBn ht.typeIs slot_list_iter.lookup ?_);refine aAb ?_;simp only[aAt,if_false];refine aAa (aAO<|aCP ht ?_);have ht0:(s.heap.push {cls:=.type "list_iterator",data:=.fields #[.ref t,.int 0 0]}).IsList t items:=by obtain⟨o,ho,r⟩:=ht;exact⟨o,aAc _ ho,r⟩
  refine aAa (aAO (tK av items.size 0 _ _ ⟨_,aAn _ rfl,rfl,rfl⟩ ht0 (by omega) λh₁ hit0 jl=>?_));have qm:List.take items.size (List.drop 0 items.toList)=items.toList:=by rw[aFL];exact aFn (by simp)
  rw[qm];rw[if_neg (by simp)];have ht3:h₁.IsList t items:=ht0.extBut jl.extBut av;refine aAa (aAO (wpAny_pyNext_list_end hh hit0 ht3 (by simp) λjm he3=>?_));simp only[Option.isSome_none,aAt,if_false];refine aAb (hQ jm λb o hb e=>he3 b o hb (jl.extBut b o hb<|aAc _ e))
def iR {x1}{Q:Unit->Shared->Prop}(hh:A.handled=none)(ht:s.heap.IsList t items)(hn:(assignEach elts env).length=items.size)(hstar:(assignEach elts env).findIdx? (·.1)=none)(h:∀h',Heap.ExtBut s.heap.objs.size s.heap h'->wpAny (model prog w) A (assignInOrder ((assignEach elts env).map (·.2)) items.toList) Q E {s with heap:=h'}):
  wpAny (model prog w) A (assign (.Tuple elts x1 pos) env (.ref t)) Q E s:=by
 rw[assign_Tuple];refine aAa (aFa ?_);unfold unpack;rw[hn,hstar];exact aAa (aAO<|kM hh ht h)
end
section
def US (hc:X.calm=true)(h:RQ X es Gs)(hn:(assignEach es X.env).length=n:=by rfl)(jv:(assignEach es X.env).findIdx? (·.1)=none:=by rfl):RG X (.Tuple es k pos) (FR n Gs):=by
 intro pins s σ H v u Q I r ⟨Ha,O0,O,ρ,d,au,E,rd,e,q⟩;cases rd with
 |@tup a vs ds hq rs=>
  cases r;simp only[FR]at e;split at e
  ·rename_i hl;obtain⟨its,rv,ht,hz⟩:=I.tuple hq;refine assign_Tuple_tuple (I.ok.hd hc) ht (by simp[hn,<-hl,<-rs.length,rv.length]) jv λh' hx=>?_;have I1:Inv X pins σ H {s with heap:=h'}:=I.kept (t':=s.toks) λb o e=>hx b o (aAk<|aAf e) e;exact h pins _ σ H vs _ Q I1 (by simpa using rv) ⟨Ha,O0,O,ρ,ds,au,E,rs,e,q⟩
  ·cases e
 |@lst a vs ds hq _ rs=>
  cases r;simp only[FR]at e;split at e
  ·rename_i hl;obtain⟨its,rv,ht,hz⟩:=I.list hq;refine iR (I.ok.hd hc) ht.isList (by simp[hn,<-hl,<-rs.length,rv.length]) jv λh' hx=>?_;have I1:Inv X pins σ H {s with heap:=h'}:=I.kept (t':=s.toks) λb o e=>hx b o (aAk<|aAf e) e;exact h pins _ σ H vs _ Q I1 (by simpa using rv) ⟨Ha,O0,O,ρ,ds,au,E,rs,e,q⟩
  ·cases e
 |_=>cases e
def X5 (G:D->Ev->R Ev)(F:Ev->R Out):List D->Ev->R Out
 |[],ρ=>.ok (.nx ρ)
 |d::ds,ρ=>match G d ρ with
  |.ok ρ1=>match F ρ1 with
   |.ok (.nx ρ2)=>X5 G F ds ρ2
   |.ok (.ct ρ2)=>X5 G F ds ρ2
   |.ok (.bk ρ2)=>.ok (.nx ρ2)
   |r=>r
  |_=>.bad
def U6 (hp:PassesOwn (model X.prog X.w) X.A X.env X.xe)(hc:X.calm=true)(hi:XH X tg C8 f)(hg:RG X tg G)(hb:X8 X body F)(hs:∀x,foldedSetIterable C8 X.env x=pure x:=by intro _;rfl):jD X (.For tg C8 body [] pos) (λρ=>(f ρ).bind λds=>X5 G F ds ρ):=λHa O0=>ED (YT hp hc hi hg (hb Ha O0) hs) λD σ H O ρ E fk q=>⟨Ha,O0,O,ρ,E,fk,by
 cases e1:f ρ with
 |ex x=>rw[e1]at q;exactλH' s=>q H' (E.same.trans s)
 |bad=>rw[e1]at q;exact q
 |ok ds=>
  rw[e1,R.aa0]at q;intro J H1 s1 hJ;refine⟨λi m ao H'=>m=ds.length-i/\i<=ds.length/\∃O' au,EnvOk X.K Ha O0 H' O' ao au/\S6 X.K O'/\Kp H1 O H' O'/\RS X Ha O0 H' O' (X5 G F (ds.drop i) au) D,⟨ds.length,by simp,aAX _,O,ρ,E.grow s1,fk,Kp.refl _ _,?_⟩,?_⟩
  ·rw[aFL];exact q.grow (Kp.of s1)
  ·rintro i m ao H' ⟨rfl,hi,O',au,E',fk',k',q'⟩;have hit:=hJ H' O' k' fk' (E.grow s1).trk E'.trk i;by_cases av:i<ds.length
   ·obtain⟨go,yl⟩:=hit.1 ds[i] (aAi av);refine .inr ⟨go,λwm H2=>∃O2 ρ2,EnvOk X.K Ha O0 H2 O2 wm ρ2/\S6 X.K O2/\Kp H1 O H2 O2/\RS X Ha O0 H2 O2 (X5 G F (ds.drop<|i+1) ρ2) D,λwm H2 p=>⟨ds.length-(i+1),by omega,rfl,av,p⟩,λx H2 y=>?_⟩;obtain⟨s2,r2⟩:=yl x H2 y;rw[aDu av,X5]at q';cases e2:G ds[i] au with
    |ex x=>rw[e2]at q';exact(show False from q').elim
    |bad=>rw[e2]at q';exact(show False from q').elim
    |ok ρ1=>
     rw[e2]at q';dsimp only at q';refine⟨Ha,O0,O',au,ds[i],ρ1,E'.grow s2,r2,e2,λql H3 s3 E3=>⟨O',ρ1,E3,fk',?_⟩⟩;have kk:Kp H' O' H3 O':=Kp.of (s2.trans s3);cases e3:F ρ1 with
     |ex x=>rw[e3]at q';exact q'
     |bad=>rw[e3]at q';exact q'
     |ok o=>
      rw[e3]at q';cases o with
      |nx ρ2=>exactλσ4 H4 O4 E4 f4 k4=>⟨O4,ρ2,E4,f4,k'.trans (kk.trans k4),RS.grow q' (kk.trans k4)⟩
      |ct ρ2=>exactλσ4 H4 O4 E4 f4 k4=>⟨O4,ρ2,E4,f4,k'.trans (kk.trans k4),RS.grow q' (kk.trans k4)⟩
      |bk ρ2=>exactλσ4 H4 O4 E4 f4 k4=>q' σ4 H4 O4 E4 f4 (kk.trans k4)
      |rt d=>exact q'
   ·have e:i=ds.length:=by omega
    subst e;rw[List.drop_length,X5]at q';exact .inl ⟨hit.2 (by simp),q' ao H' O' E' fk' (Kp.refl _ _)⟩⟩
def S7 (c:Ev->R Bool)(F:Ev->R Out):Nat->Ev->R Out
 |0,_=>.bad
 |n+1,ρ=>(c ρ).bind λb=>if b=true then(match F ρ with
  |.ok (.nx ρ2)=>S7 c F n ρ2
  |.ok (.ct ρ2)=>S7 c F n ρ2
  |.ok (.bk ρ2)=>.ok (.nx ρ2)
  |r=>r)else .ok (.nx ρ)
def lE (n:Ev->Nat)(hp:PassesOwn (model X.prog X.w) X.A X.env X.xe)(hc:BO X c fc)(hb:X8 X body F):jD X (.While c body [] pos) (λρ=>S7 fc F (n ρ) ρ):=λHa O0=>ED (QT hp hc<|hb Ha O0) λD σ H O ρ E fk q=>by
 refine⟨λm ao H'=>∃O' au,EnvOk X.K Ha O0 H' O' ao au/\S6 X.K O'/\RS X Ha O0 H' O' (S7 fc F m au) D,⟨n ρ,O,ρ,E,fk,q⟩,?_⟩;rintro m ao H' ⟨O',au,E',fk',q'⟩;cases m with
 |zero=>exact(show False from q').elim
 |succ m=>
  rw[S7]at q';refine⟨Ha,O0,O',au,E',?_⟩;cases e1:fc au with
  |ex x=>rw[e1]at q';exactλH2 s2=>q' H2 (E'.same.trans s2)
  |bad=>rw[e1]at q';exact q'
  |ok b=>
   rw[e1,R.aa0]at q';intro H2 s2;cases b with
   |false=>rw[if_neg aAL]at q'⊢;exact q' ao H2 O' (E'.grow s2) fk' (Kp.of s2)
   |true=>
    rw[if_pos rfl]at q'⊢;refine⟨λql H3=>∃O3 ρ3,EnvOk X.K Ha O0 H3 O3 ql ρ3/\S6 X.K O3/\RS X Ha O0 H3 O3 (S7 fc F m ρ3) D,λql H3 p=>⟨m,aDy m,p⟩,O',au,E'.grow s2,fk',?_⟩;have kk:Kp H' O' H2 O':=Kp.of s2;cases e3:F au with
    |ex x=>rw[e3]at q';exact q'
    |bad=>rw[e3]at q';exact q'
    |ok o=>
     rw[e3]at q';cases o with
     |nx ρ2=>exactλσ4 H4 O4 E4 f4 k4=>⟨O4,ρ2,E4,f4,RS.grow q' (kk.trans k4)⟩
     |ct ρ2=>exactλσ4 H4 O4 E4 f4 k4=>⟨O4,ρ2,E4,f4,RS.grow q' (kk.trans k4)⟩
     |bk ρ2=>exactλσ4 H4 O4 E4 f4 k4=>q' σ4 H4 O4 E4 f4 (kk.trans k4)
     |rt d=>exact q'
end
def gy (K:PySem.W.Frag)(n:Nat)(m:List D->R D):Sp:=λvs H Q _=>∃O ds d,Reps K H O vs ds/\ds.length=n/\(∀a,O a->∃o,H a=some o/\Mt o)/\Tb H/\S6 K O/\m ds=.ok d/\∀v H',Same H H'->Rep K H' O v d->Q v H'
def i3 (N:List Str)(ds:List D):Ev:=ds.map Sl.v++aAF (N.length-ds.length) Sl.no
def T6:R Out->R D
 |.ok (.rt d)=>.ok d
 |.ok (.nx _)=>.ok .non
 |.ex e=>.ex e
 |_=>.bad
def lI {K:PySem.W.Frag}{H:Hp}{O:Addr->Prop}{N:List Str}{vs:List V}{ds:List D}(r:Reps K H O vs ds)(t:∀a,O a->∃o,H a=some o/\Mt o)(tb:Tb H):EnvOk K H O H O (start N vs) (i3 N ds)where
 len:=by simp[L2.start,i3,r.length]
 same:=Same.refl H
 sub:=λ_ h=>h
 trk:=t
 trk0:=λa h=>let⟨o,q,_⟩:=t a h;⟨o,q⟩
 tab:=tb
 slot:=λi sl h=>by
  unfold i3 at h;unfold L2.start;by_cases hi:i<ds.length
  ·rw[aAR (by simpa using hi),aAN]at h;cases e:ds[i]? with
   |none=>rw[e]at h;cases h
   |some d'=>rw[e]at h;have h':Sl.v d'=sl:=aAj h;subst h';obtain⟨v,h1,h2⟩:=r.get e;exact⟨v,by rw[aAR (by rw[aAm,r.length];exact hi),aAN,h1];rfl,h2⟩
  ·rw[aAx (by simpa using hi),aBg]at h;split at h
   ·cases h;trivial
   ·cases h
 inj:=λi j x y a h _ o=>by
  unfold i3 at h;by_cases hi:i<ds.length
  ·rw[aAR (by simpa using hi),aAN]at h;cases e:ds[i]? with
   |none=>rw[e]at h;cases h
   |some d'=>rw[e]at h;have h':Sl.v d'=x:=aAj h;subst h';exact o.elim
  ·rw[aAx (by simpa using hi),aBg]at h;split at h
   ·cases h;exact o.elim
   ·cases h
section
variable{K:PySem.W.Frag}
abbrev UG (P:Program)(w:World)(K:PySem.W.Frag)(mg:Y0)(base:Heap)(N:List Str)(qual:Str)(sc:Scope)(f:Addr)(cdv:Value)(A:Around)(outer:List Env)(s:Shared)(H:Hp)(E:XK):Cx:=(uO vE P w K mg base N qual sc f cdv A outer s H E).nox
def fnD {x qual:Str}{st:Stmt}{f:Addr}{fd:FuncData}{N ps:List Str}{k:Nat}{m:List D->R D}{F:Ev->R Out}(F0:Fun K x qual st f fd)(S:FnScope N ps (c6 st))
  (hb:∀(cdv:Value) (A:Around) (outer:List Env) (s:Shared) (H:Hp) (E:XK),Room k (A.deeper (envOfC qual (c6 st) s.heap.objs.size f cdv))->X8 (UG P w K mg base N qual (c6 st) f cdv A outer s H E) (q8 st) F)
  (hm:∀ds d,ds.length=ps.length->m ds=.ok d->T6 (F (i3 N ds))=.ok d):FnOk P w K mg base vE (k+1) f fd ps (gy K ps.length m):=by
 refine F0.ok S (λvs H Q E ⟨O,ds,d,r,hl,_⟩=>by rw[r.length];exact hl) (λcdv A outer s H vs Q E hr ⟨O,ds,d,r,hl,ht,tb,fk,e,q⟩=>?_);refine⟨_,hb cdv A outer s H E hr H O,O,_,lI r ht tb,fk,?_⟩;have h:=hm ds d hl e;cases e1:F (i3 N ds)with
 |ok o=>
  rw[e1]at h;cases o with
  |rt d'=>have h':R.ok d'=R.ok d:=h;injection h' with h';subst h';exact q
  |nx ρ=>have h':R.ok D.non=R.ok d:=h;injection h' with h';subst h';exactλao H' O' E' _ _=>q .non H' E'.same .non
  |bk ρ=>cases h
  |ct ρ=>cases h
 |ex x=>rw[e1]at h;cases h
 |bad=>rw[e1]at h;cases h
end
section
def qX (I:Inv X pins σ H s)(O:Addr->Prop)(t:∀a,O a->∃o,H a=some o/\Mt o):S6 X.K O:=λa o hk z=>by obtain⟨u,h,_⟩:=t a z;have:=(I.bs a o<|I.ok.mod.kin a o hk).2;rw[h]at this;cases this
def RX (F:FnOk X.prog X.w X.K X.mg X.base vE k g gd ps (gy X.K n m))(hr:Room k X.A)(hm:X.mg x=some (.ref g))(hk:PySem.W.keepIn X.K (.ref g)=true)(hb:Binds X.K gd ps [])(ha:qH X (e::es) f)(hl:∀ρ ds,f ρ=.ok ds->ds.length=n)(hg:Gl X x:=by rfl)(de:(x==("__debug__":Str))=false:=by decide)(he:starEach (e::es) X.env=(false,eval e X.env)::starEach es X.env:=by rfl)(bh:(backTo pos (starEach es X.env)).any (·.1)=false:=by rfl):
  PD X (.Call (.Name x p) (e::es) [] pos) (λρ=>(f ρ).bind m):=by
 refine qO λpins s σ H Q I Ha O0 O ρ E q=>?_;refine FT F hr hg hm hk hb .nil xj ha de he bh pins s σ H Q I ⟨Ha,O0,O,ρ,E,?_⟩;dsimp only at q;cases e1:f ρ with
 |ex z=>rw[e1]at q;exact q
 |bad=>rw[e1]at q;exact q
 |ok ds=>
  rw[e1,R.aa0]at q;intro vs H1 s1 r1;rw[aBu];have E1:=E.grow s1;cases e2:m ds with
  |ex z=>rw[e2]at q;exact(q H<|Same.refl _).elim
  |bad=>rw[e2]at q;exact q.elim
  |ok d=>rw[e2]at q;refine⟨O,ds,d,r1,hl ρ ds e1,E1.trk,E1.tab,?_,e2,λv H' s2 r2=>q v H' (s1.trans s2) r2⟩;exact qX I O E.trk
end
def JL (env:Env):List (Str×NameKind)->List (Str×Addr)->List (Str×Addr)
 |[],acc=>acc
 |(n,k)::r,acc=>JL env r (if k=.free then(n,(env.cells.lookup n).getD 0)::acc else acc)
def Z4 (h:∀y∈scope.names,y.2=.free->∃c,env.cells.lookup y.1=some c):closureFor scope env=pure (JL env scope.names []):=by
 have go:∀(names:List (Str×NameKind)) (acc:List (Str×Addr)),(∀y∈names,y.2=.free->∃c,env.cells.lookup y.1=some c)->
   (forIn names acc λ(x:Str×NameKind) (r:List (Str×Addr))=>(match x with
    |(name,kind)=>if(kind==NameKind.free)=true then(do let a<-cellOf env name;pure (aCj ((name,a)::r)))else pure (aCj r):Sem (ForInStep<|List<|Str×Addr)))=pure (JL env names acc):=by
  intro names;induction names with
  |nil=>intro acc _;rfl
  |cons y r ih=>
   intro acc hy;obtain⟨n,k⟩:=y;rw[aCS];by_cases hk:k=.free
   ·subst hk;obtain⟨c,hc⟩:=hy (n,.free) aAK rfl;have e:cellOf env n=pure c:=by unfold cellOf;rw[hc]
    simp only[beq_self_eq_true,if_true,e,pure_bind];rw[ih _ λz hz=>hy z (aAd _ hz)];simp[JL,hc]
   ·have hb:(k==NameKind.free)=false:=by simpa using hk
    simp only[hb,aAt,if_false,pure_bind];rw[ih _ λz hz=>hy z (aAd _ hz)];simp[JL,hk]
 have e:=go scope.names [] h;show((forIn scope.names ([]:List (Str×Addr)) λ(x:Str×NameKind) (r:List (Str×Addr))=>(match x with
    |(name,kind)=>if(kind==NameKind.free)=true then(do let a<-cellOf env name;pure (aCj ((name,a)::r)))else pure (aCj r):Sem (ForInStep<|List<|Str×Addr)))>>=λs=>pure s)=_
 rw[e];rfl
theorem zB:∀(names:List (Str×NameKind)) (acc:List (Str×Addr)) {x:Str} {c:Addr},(∀y∈names,y.2=.free->∃c,env.cells.lookup y.1=some c)->(∀x c,acc.lookup x=some c->env.cells.lookup x=some c)->
  (JL env names acc).lookup x=some c->env.cells.lookup x=some c
 |[],acc,x,c,_,ha,h=>ha x c h
 |(n,k)::r,acc,x,c,hy,ha,h=>by
  refine zB r _ (λy hm=>hy y (aAd _ hm)) (λx' c' h'=>?_) h;by_cases hk:k=.free
  ·rw[if_pos hk]at h';obtain⟨c0,hc⟩:=hy (n,k) aAK hk;by_cases hx:x'=n
   ·subst hx;rw[aBv]at h';rw[hc]at h';rw[hc];exact h'
   ·rw[aAV,beq_eq_false_iff_ne.mpr hx]at h';exact ha x' c' h'
  ·rw[if_neg hk]at h';exact ha x' c' h'
theorem uH:∀(names:List (Str×NameKind)) (acc:List (Str×Addr)) {x:Str},((x,NameKind.free)∈names\/∃c,acc.lookup x=some c)->∃c,(JL env names acc).lookup x=some c
 |[],acc,x,h=>by
  rcases h with h|h
  ·cases h
  ·exact h
 |(n,k)::r,acc,x,h=>by
  refine uH r _ ?_;rcases h with h|⟨c,h⟩
  ·rcases aAe.mp h with e|h
   ·cases e;right;rw[if_pos rfl,aBv];exact⟨_,rfl⟩
   ·exact .inl h
  ·right;by_cases hk:k=.free
   ·rw[if_pos hk,aAV];cases(x==n)with
    |true=>exact⟨_,rfl⟩
    |false=>exact⟨c,h⟩
   ·rw[if_neg hk];exact⟨c,h⟩
theorem jO {env:Env}:∀{names:List (Str×NameKind)} {x:Str},
  ((names.map λ(n,k)=>if(k==NameKind.free&&env.scope.kind==.function&&env.kindOf n==some .cell)then(n,aBP)else(n,k)).lookup x=some .cell\/
   (names.map λ(n,k)=>if(k==NameKind.free&&env.scope.kind==.function&&env.kindOf n==some .cell)then(n,aBP)else(n,k)).lookup x=some .free)->(x,NameKind.free)∈names\/names.lookup x=some .cell
 |[],_,h=>by rcases h with h|h<;>cases h
 |(n,k)::r,x,h=>by
  have ih:=@jO env r x;rw[aAu]at h;dsimp only at h;by_cases hx:x=n
  ·subst hx;by_cases hk:(k==NameKind.free&&env.scope.kind==.function&&env.kindOf x==some .cell)=true
   ·have kf:k=.free:=by rw[aAC,aAC]at hk;simpa using hk.1.1
    subst kf;exact .inl aAK
   ·rw[if_neg hk,aBv]at h;rcases h with h|h
    ·right;rw[aBv];exact h
    ·have:k=.free:=aAj h;subst this;exact .inl aAK
  ·have h':(r.map λ(n,k)=>if(k==NameKind.free&&env.scope.kind==.function&&env.kindOf n==some .cell)then(n,aBP)else(n,k)).lookup x=some .cell\/
     (r.map λ(n,k)=>if(k==NameKind.free&&env.scope.kind==.function&&env.kindOf n==some .cell)then(n,aBP)else(n,k)).lookup x=some .free:=by
    by_cases hk:(k==NameKind.free&&env.scope.kind==.function&&env.kindOf n==some .cell)=true
    ·rw[if_pos hk,aAV,beq_eq_false_iff_ne.mpr hx]at h;exact h
    ·rw[if_neg hk,aAV,beq_eq_false_iff_ne.mpr hx]at h;exact h
   rcases ih h' with h|h
   ·exact .inl (aAd _ h)
   ·right;rw[aAV,beq_eq_false_iff_ne.mpr hx];exact h
theorem nQ:∀(names:List (Str×NameKind)) (h:Heap) (acc:List (Str×Addr)) {x:Str} {c:Addr},(cellsFrom h.objs.size names acc).lookup x=some c->acc.lookup x=some c\/((pushCells h names).IsCell c none/\h.objs.size<=c)
 |[],h,acc,x,c,e=>.inl e
 |(n,k)::r,h,acc,x,c,e=>by
  unfold cellsFrom at e;unfold pushCells;split at e
  ·rename_i hk;rw[if_pos hk];rcases nQ r (h.push {cls:=.type "cell",data:=.cell none}) ((n,h.objs.size)::acc) (x:=x) (c:=c) (by rw[aBq];exact e)with h1|⟨h1,h2⟩
   ·rw[aAV]at h1;cases hx:(x==n)with
    |true=>rw[hx]at h1;have e':h.objs.size=c:=aAj h1;subst e';exact .inr ⟨⟨_,aEo _ _ _ _ (aAn _ rfl),rfl⟩,aAh _⟩
    |false=>rw[hx]at h1;exact .inl h1
   ·exact .inr ⟨h1,by rw[aBq]at h2;exact aCy h2⟩
  ·rename_i hk;rw[if_neg hk];exact nQ r h acc e
theorem lL:∀(names:List (Str×NameKind)) (n:Nat) (acc:List (Str×Addr)) {x:Str} {c:Addr},(cellsFrom n names acc).lookup x=some c->acc.lookup x=some c\/n<=c
 |[],n,acc,x,c,e=>.inl e
 |(m,k)::r,n,acc,x,c,e=>by
  unfold cellsFrom at e;split at e
  ·rcases lL r (n+1) _ e with h1|h1
   ·rw[aAV]at h1;cases hx:(x==m)with
    |true=>rw[hx]at h1;exact .inr (aDT (aAj h1))
    |false=>rw[hx]at h1;exact .inl h1
   ·exact .inr (aCy h1)
  ·exact lL r n acc e
theorem qE:∀(names:List (Str×NameKind)) (n:Nat) (acc:List (Str×Addr)) {x:Str} {c:Addr},(x,aBP)∈names->(cellsFrom n names acc).lookup x=some c->n<=c
 |[],n,acc,x,c,hm,e=>nomatch hm
 |(m,k)::r,n,acc,x,c,hm,e=>by
  unfold cellsFrom at e;rcases aAe.mp hm with hm|hm
  ·cases hm;rw[if_pos (show(aBP==aBP)=true from rfl)]at e;rcases lL r (n+1) _ e with h1|h1
   ·rw[aBv]at h1;exact aDT (aAj h1)
   ·exact aCy h1
  ·split at e
   ·exact aCy (qE r (n+1) _ hm e)
   ·exact qE r n acc hm e
theorem nZ:∀(names:List (Str×NameKind)) (n:Nat) (acc:List (Str×Addr)) {x:Str},(x,aBP)∉names->(cellsFrom n names acc).lookup x=acc.lookup x
 |[],n,acc,x,_=>rfl
 |(m,k)::r,n,acc,x,hm=>by
  unfold cellsFrom;split
  ·rename_i hk;rw[nZ r (n+1) _ λz=>hm (aAd _ z),aAV];cases hx:(x==m)with
   |true=>
    have e1:x=m:=by simpa using hx
    have e2:k=.cell:=by simpa using hk
    exact absurd (by rw[e1,e2];exact aAK) hm
   |false=>rfl
  ·exact nZ r n acc λz=>hm (aAd _ z)
theorem lD:∀(names:List (Str×NameKind)) (n:Nat) (acc:List (Str×Addr)),(∀x c,acc.lookup x=some c->c<n)->(∀x y c,acc.lookup x=some c->acc.lookup y=some c->x=y)->
  ∀x y c,(cellsFrom n names acc).lookup x=some c->(cellsFrom n names acc).lookup y=some c->x=y
 |[],n,acc,_,h=>h
 |(m,k)::r,n,acc,hl,h=>by
  unfold cellsFrom;split
  ·refine lD r (n+1) _ (λx c e=>?_) λx y c e1 e2=>?_
   ·rw[aAV]at e;cases hx:(x==m)with
    |true=>rw[hx]at e;rw[<-aAj e];exact aDy _
    |false=>rw[hx]at e;exact aBr (hl x c e)
   ·rw[aAV]at e1 e2;cases hx:(x==m)with
    |true=>
     rw[hx]at e1;cases hy:(y==m)with
     |true=>rw[show x=m by simpa using hx,show y=m by simpa using hy]
     |false=>rw[hy]at e2;rw[<-aAj e1]at e2;exact absurd (hl y _ e2) (aBc _)
    |false=>
     rw[hx]at e1;cases hy:(y==m)with
     |true=>rw[hy]at e2;rw[<-aAj e2]at e1;exact absurd (hl x _ e1) (aBc _)
     |false=>rw[hy]at e2;exact h x y c e1 e2
  ·exact lD r n acc hl h
abbrev eG (X:Cx)(scope:Scope)(C:Addr):List (Str×Addr):=cellsFrom (C+1) scope.names (JL X.env scope.names [])
def IZ {E:F1}{Q:Env->Shared->Prop}(hQ:Q (newEnv scope s.heap.objs.size g (cellsFrom (s.heap.objs.size+1) scope.names cl) q none .none (some env) builtinsNs) {s with heap:=pushCells (s.heap.push {cls:=.type "dict",data:=.dict #[]}) scope.names}):
  wpAny M A (newFunctionEnv scope g cl [] q none .none (some env)) Q E s:=by
 simp only[newFunctionEnv,Option.isSome_some,if_true];refine aAa (wpAny_alloc ?_);refine aAa (wpAny_layCells _ (λname kind cells=>by cases hkc:kind==aBP<;>simp[hkc]) _ _ _ _ ?_);rw[show({s with heap:=s.heap.push {cls:=.type "dict",data:=.dict #[]}}:Shared).heap.objs.size=s.heap.objs.size+1 from aBq ..];exact aAa (aAb<|aAb hQ)
def GL {R:Result->Shared->Prop}(I:Nat->Shared->Prop)(turn:∀n s,I n s->wpAny (model prog w) A (pyNext it) (λr ah=>match r with
   |none=>R (.ok .next) ah
   |some v=>wpAny (model prog w) A (letOwnedTupleGo target it v) (λ_ s'0=>wpAny (model prog w) A (assign target env v) (λ_ ic=>
    wpAny (model prog w) A (forIn ifs true λc r=>if r=true then do let ok<-isTrue c env (eval c env);pure (aCj ok)else pure (aCj r)) (λok sh=>
     if ok=true then wpAny (model prog w) A (eval elt env) (λx sk=>wpAny (model prog w) A (call (.builtin "list.append") [acc,x]) (λ_ sv=>∃m,m<n/\I m sv) (λ_ _=>False) sk) (λ_ _=>False) sh
     else∃m,m<n/\I m sh) (λ_ _=>False) ic) (λ_ _=>False) s'0) (λ_ _=>False) ah) (λ_ _=>False) s) (n:Nat) (h:I n s):codeAny (model prog w) A (.compLoop (.ListComp elt [⟨target,C8,ifs,0⟩] scope pos) 0 it acc env) R s:=by
 refine codeAny_loop rfl I (λn s hI=>?_) n h;show wpAny _ A ((compTurn (.ListComp elt [⟨target,C8,ifs,0⟩] scope pos) 0 it acc env).onRaise (λx=>do noteFrame x env;theTreesLotGoes x)) _ _ s;refine wpAny_noted ?_;rw[compTurn_list];refine aAa (aFa<|aAa<|aBG (turn n s hI) (λr ah h₁=>?_) λ_ _ h'=>h'.elim);cases r with
 |none=>exact aAb h₁
 |some v=>
  refine aAa (aBG h₁ (λ_ s'0 h'0=>?_) λ_ _ h'=>h'.elim);refine aAa (aBG h'0 (λ_ ic jm=>aAa (aBG jm (λok sh aB=>?_) λ_ _ h'=>h'.elim)) λ_ _ h'=>h'.elim);cases ok with
  |false=>exact aAb ⟨rfl,aB⟩
  |true=>exact aAa (aAa<|aBG aB (λx sk aA=>aAa (aBG aA (λ_ sv hV=>aAb (aAb ⟨rfl,hV⟩)) λ_ _ h'=>h'.elim)) λ_ _ h'=>h'.elim)
def HS (X:Cx)(pins:M5)(se:Shared)(Ha:Hp)(N':List Str)(scope:Scope)(cl:List (Str×Addr))(C:Addr)(fp:List Addr):Cx where
 prog:=X.prog
 w:=X.w
 K:=X.K
 mg:=X.mg
 base:=X.base
 A:=X.A
 N:=N'
 se:=se
 Ha:=Ha
 env:=compEnvC scope cl C X.env
 outer:=X.stack
 stack:=X.stack
 ex:=fp
 fn:=λx=>scope.names.lookup x==some .cell
 calm:=X.calm
 pn:=X.pn++pins
 xe:=λ_ _=>False
structure CompSc (X:Cx)(scope:Scope)(own fr:List Str)(js:List Nat):Prop where
 kind:scope.kind=.function
 apart:∀y∈scope.names,y.2=.free->(y.1,aBP)∉scope.names
 names:∀y∈scope.names,y.2=.local->scope.names.lookup y.1=some .local
 free:∀y∈scope.names,y.2=.free->X.env.kindOf y.1=some .cell\/X.env.kindOf y.1=some .free
 len:js.length=fr.length
 at_:∀(i j:Nat) (x:Str),js[i]?=some j->fr[i]?=some x->X.N[j]?=some x/\(x,NameKind.free)∈scope.names
 nd:js.Nodup
 dis:∀y∈scope.names,y.2=.free->scope.names.lookup y.1=some .free
def seen:Sl->Sl
 |.v d=>.v d
 |_=>.no
def j1 (own:List Str)(js:List Nat)(ρ:Ev):Ev:=aAF own.length Sl.no++js.map λj=>seen (ρ.getD j Sl.no)
def Y7 (own:List Str)(js:List Nat)(σ:St):St:=aAF own.length none++js.map λj=>σ.getD j none
def Inv.aa9 (I:L2.Inv X pins σ H s)(S:CompSc X scope own fr js):∀y∈scope.names,y.2=.free->∃c,X.env.cells.lookup y.1=some c:=
 λy hy hf=>I.ok.has y.1 (S.free y hy hf)
def gJ (h:(j1 own js ρ)[i]?=some sl):sl=.no\/∃d j,sl=.v d/\own.length<=i/\js[i-own.length]?=some j/\ρ[j]?=some (.v d):=by
 unfold j1 at h;by_cases hi:i<own.length
 ·rw[aAR (by simpa using hi),aBg,if_pos hi]at h;cases h;exact .inl rfl
 ·have gg:own.length<=i:=aDX hi;rw[aAx (by simpa using gg),aCi,aAN]at h;cases e:js[i-own.length]? with
  |none=>rw[e]at h;cases h
  |some j=>
   rw[e]at h;have h':seen (ρ.getD j Sl.no)=sl:=aAj h;rw[aAo]at h';cases e2:ρ[j]? with
   |none=>rw[e2]at h';subst h';exact .inl rfl
   |some z=>
    rw[e2]at h';cases z with
    |v d=>subst h';exact .inr ⟨d,j,rfl,gg,rfl,e2⟩
    |_=>subst h';exact .inl rfl
def IG {K:PySem.W.Frag}{Ha H:Hp}{O0 O:Addr->Prop}{σ:St}{ρ:Ev}{own:List Str}{js:List Nat}(E:EnvOk K Ha O0 H O σ ρ):EnvOk K Ha O0 H O (Y7 own js σ) (j1 own js ρ):=by
 refine⟨by simp[Y7,j1],E.same,E.sub,E.trk,E.trk0,E.tab,λi sl h=>?_,λi j x y a h1 h2 o=>?_⟩
 ·rcases gJ h with rfl|⟨d,j,rfl,gg,e,h1⟩
  ·trivial
  ·obtain⟨v,h3,h4⟩:=E.val j d h1;refine⟨v,?_,h4⟩;unfold Y7;rw[aAx (by simpa using gg),aCi,aAN,e];show some (σ.getD j none)=some (some v);rw[aAo,h3];rfl
 ·rcases gJ h1 with rfl|⟨d,j,rfl,_⟩
  ·exact o.elim
  ·exact o.elim
def IA (I:L2.Inv X pins σ H s)(S:CompSc X scope own fr js)(xg:∀b∈fp,qV X pins H b)(av:∀b∈fp,b<s.heap.objs.size)(e8:h₁=pushCells (s.heap.push {cls:=.type "dict",data:=.dict #[]}) scope.names):
  L2.Inv (HS X pins s H (own++fr) scope (eG X scope s.heap.objs.size) s.heap.objs.size fp) [] (Y7 own js σ) H {s with heap:=h₁,toks:=tk}:=by
 have hcells:=Inv.aa9 I S;have keep:∀b o,s.heap.get? b=some o->h₁.get? b=some o:=λb o e=>by rw[e8];exact aEo _ _ _ _ (aAc _ e)
 have zg:h₁.Ns s.heap.objs.size (λ_=>none):=by rw[e8];exact(Heap.Ns.new s.heap<|.type "dict").keeps (aEo _ _)
 have cc:∀x c,(eG X scope s.heap.objs.size).lookup x=some c->(JL X.env scope.names []).lookup x=some c\/(h₁.IsCell c none/\s.heap.objs.size+1<=c):=λx c h=>by have:=nQ scope.names (s.heap.push {cls:=.type "dict",data:=.dict #[]}) (JL X.env scope.names []) (x:=x) (c:=c) (by rw[aBq];exact h);rw[aBq,<-e8]at this;exact this
 have gh:∀x c,(JL X.env scope.names []).lookup x=some c->X.env.cells.lookup x=some c:=λx c h=>zB scope.names [] hcells (λ_ _ z=>(by cases z)) h;have base_lt:∀b o,X.base.get? b=some o->b∉fp:=λb o e hb=>by
  rcases(xg b hb).2.2.2.1 with z|z
  ·exact I.ok.noex b o e z
  ·exact absurd (aAq (aAf e)<|aAr I.ok.bsz z) (aBc _)
 have nfs:∀b∈fp,b∉W4 X.stack:=λb hb z=>by
  rcases aAe.mp (I.ab0 b z)with e|z
  ·exact(xg b hb).2.1 e
  ·exact(xg b hb).2.2.1 z
 have old_lt:∀x c,X.env.cells.lookup x=some c->c<s.heap.objs.size+1:=λx c h=>by obtain⟨v,o,ho,_⟩:=I.cell x c h;exact aBr (aAf ho)
 have has:∀x,((relabel scope X.env).names.lookup x=some .cell\/(relabel scope X.env).names.lookup x=some .free)->∃c,(eG X scope s.heap.objs.size).lookup x=some c:=λx hx=>by
  have:((eG X scope s.heap.objs.size).lookup x).isSome=true:=PySem.W.cellsFrom_some _ _ _ (by
   rcases jO hx with h|h
   ·obtain⟨c,hc⟩:=uH (env:=X.env) scope.names [] (x:=x) (.inl h);exact .inr (by rw[hc];rfl)
   ·exact .inl h)
  exact aER.mp this
 refine⟨⟨I.ok.mod,S.kind,I.ok.glob,I.ok.blt,aAh _,lD scope.names _ _ (λx c h=>old_lt x c (gh x c h)) (λx y c h1 h2=>I.ok.inj x y c (gh x c h1) (gh y c h2)),has,λx c hf h=>aCy (qE scope.names _ _ (PySem.mem_of_lookup<|eq_of_beq hf) h),I.ok.hd,I.ok.frames,.inl rfl,
  λb hb=>⟨aAk (av b hb),λx c h=>(cc x c h).elim (λh=>(xg b hb).2.2.2.2.1 x c (gh x c h)) λ⟨_,h2⟩ z=>absurd (aAq (av b hb)<|aCy h2) (by rw[z];exact aBc _)⟩,I.bs,aAr I.ok.bsz I.sz,λb o e=>base_lt b o e,nfs,I.stack,I.ab7⟩,rfl,I.bare,Un.kept keep,⟨_,zg,λi x v e1 e2 e3=>?_⟩,λx c h=>?_,I.hok.fresh (aAh _),λx c h=>(cc x c h).elim (λh=>I.freeC x c (gh x c h)) λ⟨_,h2⟩=>I.hok.fresh (aCy h2),λp hp=>?_,I.hok.kept keep,?_⟩
 ·
  have hlen:(own++fr).length=(Y7 own js σ).length:=by simp[Y7,S.len]
  unfold Y7 at e2;by_cases hi:i<own.length
  ·rw[aAR (by simpa using hi),aBg,if_pos hi]at e2;cases e2
  ·have gg:own.length<=i:=aDX hi;rw[aAx (by simpa using gg),aCi,aAN]at e2;have e1':(own++fr)[i]?=some x:=e1;rw[aAx gg]at e1';cases e:js[i-own.length]? with
   |none=>rw[e]at e2;cases e2
   |some j=>
    rw[e]at e2;have e2':σ.getD j none=some v:=aAj e2;obtain⟨hN,kh⟩:=S.at_ (i-own.length) j x e e1';have hσ:σ[j]?=some (some v):=by
     rw[aAo]at e2';cases e4:σ[j]? with
     |none=>rw[e4]at e2';cases e2'
     |some z=>rw[e4]at e2';exact congrArg some e2'
    have hk:=S.free (x,.free) kh rfl;have hvis:sF X.env.scope x:=.inr hk;obtain⟨m,hn,hl⟩:=I.loc;obtain⟨u,r,lk⟩:=hl j x v hN hσ hvis;refine⟨u,r,?_⟩;rcases lk with⟨mi,_⟩|⟨_,c,hc,ji⟩
    ·rcases hk with hk|hk<;>(rw[mi]at hk;cases hk)
    ·right;obtain⟨c',hc'⟩:=uH (env:=X.env) scope.names [] (x:=x) (.inl kh);have:=gh x c' hc';rw[hc]at this;cases this;refine⟨?_,c,(nZ scope.names _ _<|S.apart (x,.free) kh rfl).trans hc',?_⟩
     ·rcases e3 with e3|e3|e3
      ·
       have hq:(relabel scope X.env).names.lookup x=some .local:=e3;exfalso;have:∀names:List (Str×NameKind),(names.map λ(n,k)=>if(k==NameKind.free&&X.env.scope.kind==.function&&X.env.kindOf n==some .cell)then(n,aBP)else(n,k)).lookup x=some .local->names.lookup x=some .local:=by
        intro names;induction names with
        |nil=>intro h;cases h
        |cons y r ih=>
         obtain⟨n,k⟩:=y;intro h;rw[aAu]at h;dsimp only at h;by_cases hx:x=n
         ·subst hx;by_cases hkk:(k==NameKind.free&&X.env.scope.kind==.function&&X.env.kindOf x==some .cell)=true
          ·rw[if_pos hkk,aBv]at h;cases h
          ·rw[if_neg hkk,aBv]at h;rw[aBv];exact h
         ·rw[aAV,beq_eq_false_iff_ne.mpr hx];by_cases hkk:(k==NameKind.free&&X.env.scope.kind==.function&&X.env.kindOf n==some .cell)=true
          ·rw[if_pos hkk,aAV,beq_eq_false_iff_ne.mpr hx]at h;exact ih h
          ·rw[if_neg hkk,aAV,beq_eq_false_iff_ne.mpr hx]at h;exact ih h
       have h2:=this scope.names hq;rw[S.dis (x,.free) kh rfl]at h2;cases h2
      ·exact .inl e3
      ·exact .inr e3
     ·obtain⟨o,ho,hd⟩:=ji;exact⟨o,keep c o ho,hd⟩
 ·rcases cc x c h with h|⟨h,_⟩
  ·obtain⟨v,o,ho,hd⟩:=I.cell x c (gh x c h);exact⟨v,o,keep c o ho,hd⟩
  ·exact⟨_,h⟩
 ·have xh:p∈X.pn++pins:=by simpa[HS]using hp
  obtain⟨e,n,ne,nf,d⟩:=I.pin p xh;refine⟨keep _ _ e,n,aAk (aAf e),λz=>?_,d⟩;rcases aAe.mp (I.ab0 p.1 z)with e'|z'
  ·exact ne e'
  ·exact nf z'
 ·simp[Y7,HS,S.len]
def v8 (G:D->Ev->R Ev)(ft:Ev->R Bool)(fe:Ev->R D)(ρ:Ev):List D->R (List D)
 |[]=>.ok []
 |d::ds=>match G d ρ with
  |.ok ρ1=>(ft ρ1).bind λb=>if b=true then(fe ρ1).bind λr=>(v8 G ft fe ρ ds).bind λrs=>.ok (r::rs)else v8 G ft fe ρ ds
  |_=>.bad
def AF (ρ1 ρ:Ev):Prop:=ρ1.length=ρ.length/\∀(i:Nat) (sl:Sl),ρ[i]?=some sl->sl≠.no->ρ1[i]?=some sl
def EnvOk.weak {K:PySem.W.Frag}{Ha H:Hp}{O0 O:Addr->Prop}{σ:St}{ρ1 ρ:Ev}(E:EnvOk K Ha O0 H O σ ρ1)(h:AF ρ1 ρ):EnvOk K Ha O0 H O σ ρ where
 len:=E.len.trans h.1
 same:=E.same
 sub:=E.sub
 trk:=E.trk
 trk0:=E.trk0
 tab:=E.tab
 slot:=λi sl e=>by
  by_cases n:sl=.no
  ·subst n;trivial
  ·exact E.slot i sl (h.2 i _ e n)
 inj:=λi j x y a h1 h2 o1 o2=>E.inj i j x y a (h.2 i _ h1 (by rintro rfl;exact o1)) (h.2 j _ h2 (by rintro rfl;exact o2)) o1 o2
def T7 (H:Hp)(a:Addr):Hp:=λb=>if b=a then none else H b
def CS (H:Hp)(a:Addr):T7 H a a=none:=if_pos rfl
def W2 (h:b≠a):T7 H a b=H b:=if_neg h
def IJ (h:H a=some o):upd (T7 H a) a o=H:=by
 funext b
 unfold upd T7;by_cases hb:b=a
 ·subst hb;rw[if_pos rfl,h]
 ·rw[if_neg hb,if_neg hb]
def EnvOk.ad7 {K:PySem.W.Frag}{Ha H:Hp}{O0 O:Addr->Prop}{σ:St}{ρ:Ev}{a:Addr}{vs:List V}(E:EnvOk K Ha O0 H O σ ρ)(h:H a=none)(hk:K.lookup a=none):EnvOk K Ha O0 (upd H a (.lst vs)) (λb=>O b\/b=a) σ ρ:=E.ab8 h hk trivial
def Rep.hidden {K:PySem.W.Frag}{H:Hp}{O:Addr->Prop}{a:Addr}{vs:List V}{v:V}{d:D}(h:H a=some (.lst vs))(r:Rep K H (λb=>O b\/b=a) v d):Rep K (T7 H a) O v d:=by
 refine r.mono (λb xs q=>?_) (λb xs n q=>⟨λz=>n (.inl z),?_⟩) λb φ n q=>⟨λz=>n (.inl z),by rw[W2 λz=>n (.inr z)];exact q⟩
 ·rcases q with(q|⟨o,q⟩)|q
  ·exact .inl (.inl (by rw[W2 (by rintro rfl;rw[h]at q;cases q)];exact q))
  ·exact .inl (.inr ⟨o,by rw[W2 (by rintro rfl;rw[h]at q;cases q)];exact q⟩)
  ·exact .inr q
 ·have hb:b≠a:=λz=>n (.inr z);rcases q with(q|⟨o,q⟩)|q
  ·exact .inl (.inl (by rw[W2 hb];exact q))
  ·exact .inl (.inr ⟨o,by rw[W2 hb];exact q⟩)
  ·exact .inr q
def V8 (h:H a=none)(s:Same (upd H a (.lst vs)) H'):Same H (T7 H' a):=λb o q=>by
 have hb:b≠a:=by rintro rfl;rw[h]at q;cases q
 rw[W2 hb];exact s b o (by rw[j7 hb];exact q)
section
def WH (X:Cx)(ifs:List Expr)(ft:Ev->R Bool):Prop:=
 ∀(pins:M5) (s:Shared) (σ:St) (H:Hp) (Q:Bool->Hp->Prop),Inv X pins σ H s->tDT X ft σ H Q->
  wpAny (model X.prog X.w) X.A (forIn ifs true λc r=>if r=true then do let ok<-isTrue c X.env (eval c X.env);pure (aCj ok)else pure (aCj r)) (TP X pins σ Q) X.xe s
def RK:WH X [] (λ_=>.ok true):=λpins s σ H Q I ⟨Ha,O0,O,ρ,E,q⟩=>wpAny_tests_nil ⟨H,I,q H (Same.refl _)⟩
def VF (h:BO X c ft):WH X [c] ft:=λpins s σ H Q I q=>wpAny_tests_one (h pins s σ H Q I q)
def oT {tg elt C8:Expr}{ifs:List Expr}{scope:Scope}{own fr:List Str}{js:List Nat}{G:D->Ev->R Ev}{ft:Ev->R Bool}{fe:Ev->R D}{pins:M5}{σ:St}{H:Hp}{s:Shared}{Ha:Hp}{O0 O:Addr->Prop}{ρ:Ev}
  {it:Addr} {fp:List Addr} {tn:Nat->Heap->Prop} {J:It} {ds rs:List D} {RR:Value->Addr->Result->Shared->Prop} {EE:F1} (hc:X.calm=true) (S:CompSc X scope own fr js)
  (hX:∀X':Cx,(∃se Hb C,X'=HS X pins se Hb (own++fr) scope (eG X scope C) C fp)->RG X' tg G/\WH X' ifs ft/\PD X' elt fe)
  (hG:∀d ρ1,G d (j1 own js ρ)=.ok ρ1->AF ρ1 (j1 own js ρ))
  (I:Inv X pins σ H s) (T:Turn X.prog X.w X.K tg J fp it tn) (st:tn 0 s.heap) (xg:∀b∈fp,qV X pins H b) (E:EnvOk X.K Ha O0 H O σ ρ) (hJ:XB X.K J H O ds) (hrs:v8 G ft fe (j1 own js ρ) ds=.ok rs) (hlen:ds.length<=sizeLine)
  (fin:∀acc C s' H' m,s'.heap.Ns C m->C≠acc->s.heap.objs.size<=C->s.heap.objs.size<=acc->Same H H'->Rep X.K H' O (.ref acc) (.lst rs)->(∃H1 vs,Same H H1/\H1 acc=none/\H'=upd H1 acc (.lst vs)/\Reps X.K H1 O vs rs)->H' C=none->(∀h',Heap.SameBut C s'.heap h'->Inv X pins σ H' {s' with heap:=h'})->RR (.ref acc) C (.ok .next) s'):
  wpAny (model X.prog X.w) X.A (newList []) (λacc sh=>wpAny (model X.prog X.w) X.A (newFunctionEnv scope X.env.globals (JL X.env scope.names []) [] X.env.qual none .none (some X.env)) (λcenv sk=>codeAny (model X.prog X.w) X.A (.compStart (.ListComp elt [⟨tg,C8,ifs,0⟩] scope pos) 0 (.ref it) acc {cenv with scope:=relabel scope X.env}) (RR acc cenv.locals) sk) EE sh) EE s:=by
 have hO:=qX I O E.trk;refine aBA ?_;have hfr:H s.heap.objs.size=none:=I.hok.fresh (aAh _);have zh:X.K.lookup s.heap.objs.size=none:=by
  cases e:X.K.lookup s.heap.objs.size with
  |none=>rfl
  |some o=>exact absurd (aAf<|I.kIn _ o e) (aBc _)
 have I1:Inv X pins σ (upd H s.heap.objs.size<|.lst []) {s with heap:=s.heap.push {cls:=.type "list",dict:=none,data:=.seq ([]:List Value).toArray}}:=
  I.laid (t':=s.toks) (λb u e=>aAc _ e) (aAh _) ⟨aAX _,[],0,.nil,aAn _ rfl⟩
 generalize gr:s.heap.objs.size=acc at*
 generalize zi:({s with heap:=s.heap.push {cls:=.type "list",dict:=none,data:=.seq ([]:List Value).toArray}}:Shared)=s1 at I1⊢;have sz1:s1.heap.objs.size=acc+1:=by rw[<-zi,<-gr];exact aBq _ _
 have keep1:∀b o,s.heap.get? b=some o->s1.heap.get? b=some o:=λb o e=>by rw[<-zi];exact aAc _ e
 have xi:∀b∈fp,b<acc:=λb hb=>by obtain⟨o,e,_⟩:=T.obj 0 _ st b hb;rw[<-gr];exact aAf e
 have hfp1:∀b∈fp,qV X pins (upd H acc<|.lst []) b:=λb hb=>by obtain⟨f0,f⟩:=xg b hb;exact⟨by rw[j7 (aAk<|xi b hb)];exact f0,f⟩
 refine IZ ?_;obtain⟨h₁,e8⟩:∃h₁,pushCells (s1.heap.push {cls:=.type "dict",data:=.dict #[]}) scope.names=h₁:=⟨_,rfl⟩;rw[e8];have keep2:∀b o,s1.heap.get? b=some o->h₁.get? b=some o:=λb o e=>by rw[<-e8];exact aEo _ _ _ _ (aAc _ e)
 have IB:=IA (tk:=s1.toks) I1 S hfp1 (λb hb=>by rw[sz1];exact aBr (xi b hb)) e8.symm;generalize hC:s1.heap.objs.size=C at*
 obtain⟨hG',hT',hE'⟩:=hX _ ⟨s1,upd H acc (.lst []),C,rfl⟩;generalize vt:HS X pins s1 (upd H acc<|.lst []) (own++fr) scope (eG X scope C) C fp=X' at IB hG' hT' hE';have eP:X'.prog=X.prog:=by rw[<-vt];rfl
 have eW:X'.w=X.w:=by rw[<-vt];rfl
 have eK:X'.K=X.K:=by rw[<-vt];rfl
 have eA:X'.A=X.A:=by rw[<-vt];rfl
 have eC:X'.calm=true:=by rw[<-vt];exact hc
 have eX:X'.xe=λ_ _=>False:=by rw[<-vt];rfl
 have eE:X'.env=compEnvC scope (eG X scope C) C X.env:=by rw[<-vt];rfl
 have eX0:X'.ex=fp:=by rw[<-vt];rfl
 have ePn:X'.pn=X.pn++pins:=by rw[<-vt];rfl
 have eFs:X'.fs=W4 X.stack:=by rw[<-vt];rfl
 have eS0:X'.se=s1:=by rw[<-vt];rfl
 have eH0:X'.Ha=upd H acc (.lst []):=by rw[<-vt];rfl
 have eL:X'.env.locals=C:=by rw[eE];rfl
 have eCe:X'.env.cells=eG X scope C:=by rw[eE];rfl
 have I2of:=IB;have cell_ne:∀b∈fp,∀x c,X'.env.cells.lookup x=some c->c≠b:=λb hb x c h=>(I2of.ok.exf b (by rw[eX0];exact hb)).2 x c h;have accC:acc≠C:=by rw[sz1];exact aAk (aDy _)
 have fpC:∀b∈fp,b≠C:=λb hb=>by have h1:=xi b hb;rw[sz1];exact aAk (aBr h1)
 have fpB:∀{H':Hp},(∀b∈fp,H' b=none)->∀b∈fp,qV X' [] H' b:=λ{H'} hn b hb=>by
  obtain⟨f0,f1,f2,f3,f4,f5⟩:=xg b hb;refine⟨hn b hb,by rw[eL];exact fpC b hb,?_,.inl (by rw[eX0];exact hb),λx c h=>cell_ne b hb x c h,λp hp=>f5 p (by rw[ePn,aBu]at hp;exact hp)⟩;rw[eFs];intro z;rcases aAe.mp (I.ab0 b z)with e|z
  ·exact f1 e
  ·exact f2 z
 have st1:tn 0 h₁:=T.keep 0 s.heap h₁ st λb hb o e=>keep2 b o (keep1 b o e)
 let Iv:Nat->Shared->Prop:=λn s'=>∃i ao Hx vs rd,n=ds.length-i/\i<=ds.length/\Inv X' [] ao (upd Hx acc<|.lst vs) s'/\Hx acc=none/\tn i s'.heap/\(∀b∈fp,Hx b=none)/\EnvOk X.K Ha O0 Hx O ao (j1 own js ρ)/\Same H Hx/\
  Reps X.K Hx O vs rd/\(∃rest,v8 G ft fe (j1 own js ρ) (ds.drop i)=.ok rest/\rs=rd++rest)/\vs.length<=i
 have loop:codeAny (model X.prog X.w) X.A (.compLoop (.ListComp elt [⟨tg,C8,ifs,0⟩] scope pos) 0 (.ref it) (.ref acc) (compEnvC scope (eG X scope C) C X.env)) (RR (.ref acc) C) {s1 with heap:=h₁}:=by
  refine GL Iv ?_ ds.length ⟨0,_,H,[],[],by simp,aAX _,IB,hfr,st1,λb hb=>(xg b hb).1,IG E,Same.refl H,.nil,⟨rs,by rw[aFL];exact hrs,rfl⟩,aAX _⟩;rintro n s2 ⟨i,wm,Hx,vs,rd,rfl,hi,I2,yo,lh,fx2,E2,zl,r2,⟨rest,ar,xl⟩,hvl⟩;have fr2:∀b∈fp,(upd Hx acc<|.lst vs) b=none:=λb hb=>by rw[j7 (aAk<|xi b hb)];exact fx2 b hb
  have sU:=j4 yo (.lst vs);have hit:=hJ (upd Hx acc<|.lst vs) (λb=>O b\/b=acc) (λb o q n=>⟨sU b o (zl b o q),λz=>z.elim n λz=>by subst z;rw[hfr]at q;cases q⟩) (λa o q z=>z.elim (hO a o q) λz=>by subst z;rw[zh]at q;cases q) E.trk
   (λa z=>(E2.ad7 (vs:=vs) yo zh).trk a z) i
  by_cases av:i<ds.length
  ·obtain⟨go,yl⟩:=hit.1 ds[i] (aAi av);rw[aDu av,v8]at ar;have oo:=T.item X' eP eW eK eC i [] s2 wm _ (λ_ _=>False) I2 (fpB fr2) lh go;rw[eA]at oo;refine D4 oo λr s3 ⟨u,hr,h3⟩=>?_;subst hr;refine D4 h3 λ_ s4 ⟨x,H4,I4,ru,y4,st4,fr4⟩=>?_;obtain⟨sm4,rep4⟩:=yl x H4 y4;cases e1:G ds[i] (j1 own js ρ)with
   |ex z=>rw[e1]at ar;cases ar
   |bad=>rw[e1]at ar;cases ar
   |ok ρ1=>
    rw[e1]at ar;dsimp only at ar;have EB:EnvOk X.K Ha O0 H4 (λb=>O b\/b=acc) wm (j1 own js ρ):=(E2.ad7 yo zh).grow sm4;have I4':=I4.pinned (fpB fr4) (T.obj _ _ st4);have again:∀{s7:Shared} {qd:St} {H7:Hp} {vs7:List V} {rd7:List D} {rest7:List D},Inv X' ([]++oQ fp s4.heap) qd H7 s7->H7 acc=some (.lst vs7)->EnvOk X.K Ha O0 (T7 H7 acc) O qd (j1 own js ρ)->Same H (T7 H7 acc)->Reps X.K (T7 H7 acc) O vs7 rd7->
      v8 G ft fe (j1 own js ρ) (ds.drop<|i+1)=.ok rest7->rs=rd7++rest7->vs7.length<=i+1->∃m,m<ds.length-i/\Iv m s7:=λ{s7 qd H7 vs7 rd7 rest7} I7 h7 E7 sm7 r7 hr7 hrs7 hv7=>by
     refine⟨ds.length-(i+1),by omega,i+1,qd,T7 H7 acc,vs7,rd7,rfl,av,?_,CS _ _,T.keep _ _ _ st4 λb hb o e=>(I7.pin (b,o)<|aAE _<|aAE _<|bH hb e).1,λb hb=>?_,E7,sm7,r7,⟨rest7,hr7,hrs7⟩,hv7⟩
     ·rw[IJ h7];exact I7.ab2
     ·rw[W2 (aAk<|xi b hb)];obtain⟨o,e,d⟩:=T.obj _ _ st4 b hb;exact(I7.pin (b,o)<|aAE _<|aAE _<|bH hb e).2.1
    have hasg:=hG' _ s4 wm H4 x u (λσ5 H5=>Same H4 H5/\EnvOk X.K Ha O0 H5 (λb=>O b\/b=acc) σ5 ρ1) I4' ru ⟨Ha,O0,_,_,ds[i],ρ1,by rw[eK];exact EB,by rw[eK];exact rep4,e1,λσ5 H5 s5 E5=>⟨s5,by rw[eK]at E5;exact E5⟩⟩;rw[eP,eW,eA,eE,eX]at hasg;refine D4 hasg λ_ s5 ⟨σ5,H5,I5,sm5,E5⟩=>?_;have hacc5:H5 acc=some (.lst vs):=sm5 acc _ (sm4 acc _ i9);cases e2:ft ρ1 with
    |ex z=>rw[e2]at ar;cases ar
    |bad=>rw[e2]at ar;cases ar
    |ok b=>
     rw[e2,R.aa0]at ar;have htst:=hT' _ s5 σ5 H5 (λc H6=>c=b/\Same H5 H6) I5 ⟨Ha,O0,_,ρ1,by rw[eK];exact E5,by rw[e2];exactλH6 s6=>⟨rfl,s6⟩⟩;rw[eP,eW,eA,eE,eX]at htst;refine D4 htst λok s6 ⟨H6,I6,hb,sm6⟩=>?_;subst hb;have sm46:Same (upd Hx acc<|.lst vs) H6:=sm4.trans (sm5.trans sm6);have hacc6:H6 acc=some (.lst vs):=sm6 acc _ hacc5;have smx6:Same Hx (T7 H6 acc):=V8 yo sm46;have W1:AF ρ1 (j1 own js ρ):=hG _ _ e1;have Eb:∀{H7:Hp},Same H5 H7->EnvOk X.K Ha O0 (T7 H7 acc) O σ5 (j1 own js ρ):=λ{H7} s7=>by
      have E7:=(E5.grow s7).weak W1;have h7:H7 acc=some (.lst vs):=s7 acc _ hacc5;refine⟨E7.len,E2.same.trans (V8 yo<|sm4.trans<|sm5.trans s7),E2.sub,λa z=>?_,E2.trk0,E2.tab.same (V8 yo<|sm4.trans<|sm5.trans s7),λj sl e=>?_,E7.inj⟩
      ·obtain⟨o,q,mt⟩:=E2.trk a z;exact⟨o,V8 yo (sm4.trans<|sm5.trans s7) a o q,mt⟩
      ·rcases gJ e with rfl|⟨d,_,rfl,_⟩
       ·trivial
       ·obtain⟨v,h1,h2⟩:=E7.val j d e;exact⟨v,h1,Rep.hidden h7 h2⟩
     cases ok with
     |false=>rw[if_neg aAL]at ar⊢;exact again I6 hacc6 (Eb sm6) (zl.trans smx6) (r2.same smx6) ar xl (Nat.le_succ_of_le hvl)
     |true=>
      rw[if_pos rfl]at ar⊢;cases e3:fe ρ1 with
      |ex z=>rw[e3]at ar;cases ar
      |bad=>rw[e3]at ar;cases ar
      |ok dv=>
       rw[e3,R.aa0]at ar;cases e4:v8 G ft fe (j1 own js ρ) (ds.drop<|i+1)with
       |ex z=>rw[e4]at ar;cases ar
       |bad=>rw[e4]at ar;cases ar
       |ok rest'=>
        rw[e4,R.aa0]at ar;have qo:dv::rest'=rest:=R.ok.inj ar;have helt:=hE' _ s6 σ5 H6 (λv H7=>Same H6 H7/\Rep X.K H7 (λb=>O b\/b=acc) v dv) I6 ⟨Ha,O0,_,ρ1,by rw[eK];exact E5.grow sm6,by rw[e3,RC];exactλv H7 s7 r7=>⟨s7,by rw[eK]at r7;exact r7⟩⟩;rw[eP,eW,eA,eE,eX]at helt;refine D4 helt λuv s7 ⟨v,H7,I7,ruv,sm7,r7⟩=>?_;have hacc7:H7 acc=some (.lst vs):=sm7 acc _ hacc6;have happ:=rZ (X:=X') _ s7 σ5 H7 (.ref acc) [v] (.ref acc) [uv] (λ_ H8=>H8=upd H7 acc (.lst (vs++[v]))) I7 rfl (.cons ruv .nil) ⟨acc,vs,v,rfl,rfl,hacc7,by omega,rfl⟩;rw[eP,eW,eA,eX]at happ;refine D4 happ λ_ s8 ⟨_,H8,I8,_,h8⟩=>?_;subst h8;have hh:T7 (upd H7 acc<|.lst (vs++[v])) acc=T7 H7 acc:=by
         funext b
         unfold T7 upd;by_cases hb:b=acc
         ·rw[if_pos hb,if_pos hb]
         ·rw[if_neg hb,if_neg hb,if_neg hb]
        have smx7:Same Hx (T7 H7 acc):=V8 yo (sm46.trans sm7);refine again (vs7:=vs++[v]) (rd7:=rd++[dv]) (rest7:=rest') I8 i9 (by rw[hh];exact Eb (sm6.trans sm7)) (by rw[hh];exact zl.trans smx7) ?_ e4 (by rw[xl,<-qo,aDN];rfl) (by rw[aAD];exact Nat.succ_le_succ hvl);rw[hh];exact(r2.same smx7).snoc (Rep.hidden hacc7 r7)
  ·have gg:i=ds.length:=by omega
   subst gg;have hstop:=hit.2 (by simp);have oo:=T.done X' eP eW eK eC ds.length [] s2 wm _ (λ_ _=>False) I2 (fpB fr2) lh hstop;rw[eA]at oo;refine D4 oo λr s3 ⟨hr,I3⟩=>?_;subst hr;rw[List.drop_length,v8]at ar;have qo:([]:List D)=rest:=R.ok.inj ar;rw[<-qo,aBu]at xl;obtain⟨m,hm,_⟩:=id I3.loc;rw[eL]at hm;have hfin:Same H (upd Hx acc<|.lst vs):=zl.trans sU;refine fin acc C s3 (upd Hx acc<|.lst vs) m hm (aCh accC) (by omega) (aAh _) hfin ?_ ⟨Hx,vs,zl,yo,rfl,by rw[xl];exact r2⟩ (by rw[<-eL];exact I3.free) (λh' oi=>?_)
   ·rw[xl];exact .lst (O6.of i9) (E2.fresh yo) (r2.same sU)
   ·have hU:Un (W4 X.stack) fp (upd H acc<|.lst []) (upd Hx acc<|.lst vs) s1.heap s3.heap:=by have:=I3.base;rw[eFs,eX0,eH0,eS0]at this;exact this
    have hCn:∀b o,s1.heap.get? b=some o->b≠C:=λb o e=>by have:=aAf e;rw[hC]at this;exact aAk this
    have hU':Un (W4 X.stack) fp (upd H acc<|.lst []) (upd Hx acc<|.lst vs) s1.heap h':=⟨λb o e n hb hx=>(oi.2 b (hCn b o e)).trans (hU.keep b o e n hb hx),λb o e n hb hx=>by
      obtain⟨sl,q⟩:=hU.slot b o e n hb hx;exact⟨sl,(oi.2 b (hCn b o e)).trans q⟩,hU.free,λb o e hx=>by
      obtain⟨o',q⟩:=hU.there b o e hx;exact⟨o',(oi.2 b (hCn b o e)).trans q⟩,hU.tups,hU.frzs,hU.tbls⟩
    have hCf:upd Hx acc (.lst vs) C=none:=by rw[<-eL];exact I3.free
    have zo:aM X.prog X.w (upd Hx acc<|.lst vs) h':=λb u e=>by
     have hb:b≠C:=by rintro rfl;rw[hCf]at e;cases e
     have:=I3.hok b u e;rw[eP,eW]at this;refine this.ab4 (λc v hc q=>(oi.2 c ?_).trans q) (λ_ q=>q) λ_ _ _ q=>q;rcases hc with z|z
     ·rw[z];exact hb
     ·rintro rfl;rw[hCf]at z;cases z
    have hos:s3.os=s1.os:=by have:=I3.os;rw[eS0]at this;exact this
    exact I1.af1 (s':={s3 with heap:=h'}) (ch:=fp) hos hU' zo I3.bare λb hb=>by obtain⟨f0,f1,f2,f3,f4,f5⟩:=xg b hb;exact⟨f3,f1,f4,f5⟩
 exact codeAny_compStart_list loop (T.self _ 0 _ _ _ st1 loop)
def bU (own fr:List Str)(js:List Nat)(hc:X.calm=true)(S:CompSc X scope own fr js)(hi:XH X tg C8 fi)(hX:∀(pins:M5) (fp:List Addr) (X':Cx),(∃se Hb C,X'=HS X pins se Hb (own++fr) scope (eG X scope C) C fp)->RG X' tg G/\WH X' ifs ft/\PD X' elt fe)(hG:∀ρ d ρ1,G d (j1 own js ρ)=.ok ρ1->AF ρ1 (j1 own js ρ))(hs:∀x,foldedSetIterable C8 X.env x=pure x:=by intro _;rfl):
  PD X (.ListComp elt [⟨tg,C8,ifs,0⟩] scope pos) (λρ=>(fi ρ).bind λds=>if ds.length<=sizeLine then(v8 G ft fe (j1 own js ρ) ds).bind λrs=>.ok (.lst rs)else .bad):=by
 refine qO λpins s σ H Q I Ha O0 O ρ E q=>?_;dsimp only at q;rw[eval_ListComp];refine aDC (use:=none) rfl hs (Z4<|Inv.aa9 I S) S.kind S.names ?_;refine D4 (hi pins s σ H (λJ H1=>∃ds rs,Same H H1/\XB X.K J H1 O ds/\ds.length<=sizeLine/\v8 G ft fe (j1 own js ρ) ds=.ok rs/\∀v H',Same H H'->Rep X.K H' O v (.lst rs)->Q v H') I ⟨Ha,O0,O,ρ,E,qX I O E.trk,?_⟩) λv s1 h1=>D4 h1 λitv s2 h2=>?_
 ·cases e1:fi ρ with
  |ex x=>rw[e1]at q;exact q
  |bad=>rw[e1]at q;exact q
  |ok ds=>
   rw[e1,R.aa0]at q;intro J H1 s1 hJ;split at q
   ·rename_i hl;cases e2:v8 G ft fe (j1 own js ρ) ds with
    |ex x=>rw[e2]at q;exact(q H<|Same.refl _).elim
    |bad=>rw[e2]at q;exact q.elim
    |ok rs=>rw[e2]at q;exact⟨ds,rs,s1,hJ,hl,e2,q⟩
   ·exact q.elim
 ·obtain⟨it,fp,tn,J,H2,e,I2,T,lh,f2,ds,rs,sm,hJ,hl,hrs,q⟩:=h2;subst e;refine oT (RR:=λacc C=>compPost (model X.prog X.w) X.A X.xe none (EP X pins σ Q) acc C) hc S (hX pins fp) (hG ρ) I2 T lh f2 (E.grow sm) hJ hrs hl ?_;intro acc C s' H' m hn _ _ _ sm' r _ _ hI;exact⟨m,hn,λh' oi=>⟨.ref acc,H',hI h' oi,rfl,q _ H' (sm.trans sm') r⟩⟩
def xU (i:Nat)(own fr:List Str)(js:List Nat)(hN:X.N.Nodup)(hc:X.calm=true)(S:CompSc X scope own fr js)(hi:XH X tg C8 fi)(hX:∀(pins:M5) (fp:List Addr) (X':Cx),(∃se Hb C,X'=HS X pins se Hb (own++fr) scope (eG X scope C) C fp)->RG X' tg G/\WH X' ifs ft/\PD X' elt fe)(hG:∀ρ d ρ1,G d (j1 own js ρ)=.ok ρ1->AF ρ1 (j1 own js ρ))(hy:X.N[i]?=some y:=by rfl)(hyl:X.env.scope.names.lookup y=some .local:=by rfl)(zr:swapsWith (.ListComp elt [⟨tg,C8,ifs,0⟩] scope pos) (some (.Name y py)) spos.line X.env=pure true:=by rfl)(hs:∀x,foldedSetIterable C8 X.env x=pure x:=by intro _;rfl):
  jD X (.Assign [.Name y py] (.ListComp elt [⟨tg,C8,ifs,0⟩] scope pos) spos) (λρ=>((fi ρ).bind λds=>if ds.length<=sizeLine then(v8 G ft fe (j1 own js ρ) ds).bind λrs=>.ok (D.lst rs)else .bad).bind λd=>.ok (.nx (ρ.set i (.v d)))):=by
 intro Ha O0 pins s σ H D I ⟨O,ρ,E,fk,q⟩;dsimp only at q;rw[exec_Assign_Name_used _ _ _ _ zr];refine aAa (aFa<|aAa ?_);show wpAny _ X.A (do let _<-comprehension (.ListComp elt [⟨tg,C8,ifs,0⟩] scope pos) scope X.env _ (newList []) false (eval C8 X.env) (some<|assign (.Name y py) X.env)) _ _ s;refine aAa (aBG (aDC (use:=some (assign (.Name y py) X.env)) (Q:=λ_ s'=>SP X pins D .next s') rfl hs (Z4<|Inv.aa9 I S) S.kind S.names ?_) (λ_ s' hq=>aAb (aAb hq)) λ_ _ e=>e);refine D4 (hi pins s σ H (λJ H1=>∃ds rs,Same H H1/\XB X.K J H1 O ds/\ds.length<=sizeLine/\v8 G ft fe (j1 own js ρ) ds=.ok rs/\RS X Ha O0 H O (.ok (.nx (ρ.set i<|.v (.lst rs)))) D) I ⟨Ha,O0,O,ρ,E,qX I O E.trk,?_⟩) λv s1 h1=>D4 h1 λitv s2 h2=>?_
 ·cases e1:fi ρ with
  |ex x=>rw[e1]at q;exactλH' s=>q H' (E.same.trans s)
  |bad=>rw[e1]at q;exact q
  |ok ds=>
   rw[e1,R.aa0]at q;intro J H1 s1 hJ;split at q
   ·rename_i hl;cases e2:v8 G ft fe (j1 own js ρ) ds with
    |ex x=>rw[e2]at q;exact(q H E.same).elim
    |bad=>rw[e2]at q;exact q.elim
    |ok rs=>rw[e2]at q;exact⟨ds,rs,s1,hJ,hl,e2,q⟩
   ·exact q.elim
 ·obtain⟨it,fp,tn,J,H2,e,I2,T,lh,f2,ds,rs,sm,hJ,hl,hrs,q⟩:=h2;subst e;refine oT (RR:=λacc C=>compPost (model X.prog X.w) X.A X.xe (some<|assign (.Name y py) X.env) (λ_ s'=>SP X pins D .next s') acc C) hc S (hX pins fp) (hG ρ) I2 T lh f2 (E.grow sm) hJ hrs hl ?_;intro acc C s' H' m hn hCa hCs has sm' r _ hC hI;have I3:=hI s'.heap (aGd ..);show wpAny _ X.A (assign (.Name y py) X.env<|.ref acc) _ _ s';refine wpAny_assign_Name (tQ (i:=i) (v:=.ref acc) I3 hN hy (.inl hyl) rfl (λs4 I4 ⟨a,hsb,ha⟩=>?_)<|.inr hyl);have ji:∀x c,X.env.cells.lookup x=some c->c≠C:=λx c hc=>by obtain⟨v,hv⟩:=I2.cell x c hc;exact aAk (aAq hv.lt hCs)
  have hCL:C≠X.env.locals:=aDk (aAq I2.lt hCs);have hCa2:C≠a:=by
   rcases ha with ha|ha
   ·rw[ha];exact hCL
   ·exact aCh (ji y a ha)
  refine⟨m,hn.sameBut hsb hCa2,λh' oi=>?_⟩;refine⟨_,H',?_,q _ H' O (((E.grow sm).grow sm').set i r) (qX I O E.trk) (Kp.of<|sm.trans sm')⟩;exact I4.turned (t':=s4.toks) (it:=C) (λb o hb e=>(oi.2 b hb).trans e) hC hCL (.inr (aAr I2.sz hCs)) ji λp hp=>aAk (aAq (aAf (I2.pin p hp).1) hCs)
end
omit [Tabs]in
def zQ {ns:List Int}(h:PySem.W.WData.layableAll [PySem.W.WData.list (ns.map PySem.W.WData.int)]=true):∀x∈ns,aAT x<=1048576:=λx hx=>by
 have h1:=(PySem.W.layW_cons h).1;have h2:=PySem.W.layableW_item h1 (.int x) (aAp.mpr ⟨x,hx,rfl⟩);have h3:=PySem.W.lay0_int h2;have h4:PyData.layable0 (.int x)=true:=by simpa[PyData.layableAll0]using h3
 exact PyData.bits_of_layable h4
def u4 (P:Program)(w:World)(K:PySem.W.Frag)(mg:Y0)(base:Heap)(k:Nat)(x:Str)(n:Nat)(m:List D->R D):Prop:=
 ∃g gd ps,FnOk P w K mg base vE k g gd ps (gy K n m)/\Binds K gd ps []/\PySem.W.keepIn K (.ref g)=true/\mg x=some (.ref g)
def yD (f:Ev->R (List D))(n:Nat):Prop:=∀ρ ds,f ρ=.ok ds->ds.length=n
def u5:yD M7 0:=λρ ds h=>by cases h;rfl
def i7 (h:yD g n):yD (k8 f g) (n+1):=λρ ds e=>by
 unfold k8 at e;cases e1:f ρ with
 |ok d=>
  rw[e1,R.aa0]at e;cases e2:g ρ with
  |ok cb=>rw[e2]at e;cases e;rw[aAv,h ρ cb e2]
  |ex x=>rw[e2]at e;cases e
  |bad=>rw[e2]at e;cases e
 |ex x=>rw[e1]at e;cases e
 |bad=>rw[e1]at e;cases e
section
def pJ (c:u4 X.prog X.w X.K X.mg X.base k x n m)(hr:Room k X.A)(ha:qH X (e::es) f)(hl:yD f n)(hg:Gl X x:=by rfl)(de:(x==("__debug__":Str))=false:=by decide)(he:starEach (e::es) X.env=(false,eval e X.env)::starEach es X.env:=by rfl)(bh:(backTo pos (starEach es X.env)).any (·.1)=false:=by rfl):
  PD X (.Call (.Name x p) (e::es) [] pos) (λρ=>(f ρ).bind m):=by
 obtain⟨g,gd,ps,F,b,kp,em⟩:=c;exact RX F hr em kp b ha hl hg de he bh
end
def ZJ {P:Program}{w:World}{K:PySem.W.Frag}{mg:Y0}{base:Heap}{x qual:Str}{st:Stmt}{f:Addr}{fd:FuncData}{N ps:List Str}{k:Nat}{m:List D->R D}{F:Ev->R Out}(F0:Fun K x qual st f fd)(S:FnScope N ps (c6 st))(xm:Binds K fd ps [])(je:mg x=some (.ref f))
  (hb:∀(cdv:Value) (A:Around) (outer:List Env) (s:Shared) (H:Hp) (E:XK),Room k (A.deeper (envOfC qual (c6 st) s.heap.objs.size f cdv))->X8 (UG P w K mg base N qual (c6 st) f cdv A outer s H E) (q8 st) F)
  (hm:∀ds d,ds.length=ps.length->m ds=.ok d->T6 (F (i3 N ds))=.ok d):u4 P w K mg base (k+1) x ps.length m:=
 ⟨f,fd,ps,fnD F0 S hb hm,xm,F0.kp,je⟩
def C1:∀d ρ1,(R.ok ((j1 [x] js ρ).set 0 (Sl.v d)):R Ev)=.ok ρ1->AF ρ1 (j1 [x] js ρ):=λd ρ1 h=>by
 cases h;refine⟨by simp,λi sl h hn=>?_⟩;cases i with
 |zero=>exact absurd (by simpa[j1]using h.symm) hn
 |succ i=>rw[aCr (by lia)];exact h
def JW (sc:Scope)(N:List Str)(scope:Scope)(fr:List Str)(js:List Nat):Bool:=
 decide (scope.kind=.function)&&scope.names.all (λy=>decide (y.2=.free->(y.1,aBP)∉scope.names))&&scope.names.all (λy=>decide (y.2=.local->scope.names.lookup y.1=some .local))&&
 scope.names.all (λy=>decide (y.2=.free->sc.names.lookup y.1=some .cell\/sc.names.lookup y.1=some .free))&&decide (js.length=fr.length)&&(js.zip fr).all (λp=>decide (N[p.1]?=some p.2/\(p.2,NameKind.free)∈scope.names))&&decide js.Nodup&&
 scope.names.all (λy=>decide (y.2=.free->scope.names.lookup y.1=some .free))
def aJ (hs:X.env.scope=sc:=by rfl)(hN:X.N=N:=by rfl)(h:JW sc N scope fr js=true:=by decide+kernel):CompSc X scope own fr js:=by simp only[JW,aAC,aBz,decide_eq_true_eq]at h;obtain⟨⟨⟨⟨⟨⟨⟨h1,h2⟩,h3⟩,h4⟩,h5⟩,h6⟩,h7⟩,h8⟩:=h;subst hs hN;refine⟨h1,h2,h3,h4,h5,λi j x e1 e2=>?_,h7,h8⟩;refine h6 (j,x) (aAs (i:=i) ?_);rw[aBs];exact⟨e1,e2⟩
end DL
namespace DL.Att2
open PySem PySem.W PySem.Calls PyProof.Rows
def attach_bits {l:OpenLaw}{n:Nat}{q:Program}{loose:List Str}{XP:(Str->Option Value)->Heap->Prop}{YP:World->Heap->Prop}{d:DefRec}
  (hn:l.most=some n) (hdf:d.params.defaults=[])
  (call:∀(w:World) (se ah:Shared) (mg mb:Y0) (fa:Addr) (o:Obj) (pm cd doc:Value) (a:Addr) (vs:List Value) (ns:List Int),
   Ground q loose [] XP w se mg mb ah.heap->YP w ah.heap->
   ah.heap.get? fa=some o->o.data=.func (docDef d.name d.params d.body d.scope pm cd doc)->ah.heap.CodeRec cd d.name->mg d.name=some (.ref fa)->
   ah.heap.get? a=some {cls:=.type "list",data:=.seq vs.toArray}->IntsAre vs ns->ns.length<=n->(∀x∈ns,aAT x<=1048576)->ah.gens=#[]->
   codeAny (model l.prog w) callerA (.call (.ref fa) ⟨[.ref a],[]⟩) (λr s'=>r=.ok (.ret (.bool true))/\OldK ah.heap s'.heap/\s'.os=ah.os/\AllBare s'.gens) ah):
  WalkO q loose XP YP l.row.toRowW d [] (λf vs=>PySem.call f vs):=by
 intro w se ah mg mb G Y fa o pm cd doc dV kV ho hd eu hD je hg args vals as zf hlay hrd um hlo;obtain rfl:dV=.none:=Dflts.none hD hdf;obtain rfl:kV=.none:=Dflts.noKw hD;obtain⟨a,vs,ns,rfl,rfl,hobj,hints,hlen⟩:=Att.script_of hn zf um;have hb:=DL.zQ (ns:=ns) (by first|exact hlay|exact hlay.1|(simpa using hlay));refine enter_call (aDl (call w se ah mg mb fa o pm cd doc a vs ns G Y ho (fd_plain hd) eu je hobj hints hlen hb hg) λr s' hq=>?_);obtain⟨rfl,h2,h3,h4⟩:=hq;exact⟨.inl ⟨.bool true,.bool true,[],rfl,λ_=>rfl,.bool true,Att.post_true l _,λ_=>⟨aGe,λ_ hm=>(nomatch hm)⟩⟩,h2,h3,h4⟩
end DL.Att2
namespace DL
open PySem PySem.Spec L2
open PyProof.Rows hiding St
variable [Tabs]
end DL
namespace DL
open PySem L2
abbrev bits (a:Int):Nat:=aAT a
def o6 (h:A3 a b):wD (.int a) (.int b)=.ok (.int (a*b)):=if_pos h
def tL (h:zR b):X3 (.int a) (.int b)=.ok (.int (a.fdiv b)):=if_pos h
def xA (h:b≠0):U8 (.int a) (.int b)=.ok (.int (a.fmod b)):=if_pos h
def A3.of (h1:bits a<=m)(h2:bits b<=n)(hm:m<=60000000:=by decide)(hn:n<=60000000:=by decide):A3 a b:=⟨aAr h1 hm,aAr h2 hn⟩
def bits_add (h1:bits a<=n)(h2:bits b<=n):bits (a+b)<=n+1:=by have:=PyProof.Rows.bits_add h1 h2;rw[Nat.max_self]at this;exact this
def bits_sub (h1:bits a<=n)(h2:bits b<=n):bits (a-b)<=n+1:=by have:=PyProof.Rows.bits_sub h1 h2;rw[Nat.max_self]at this;exact this
def bits_mul (h1:bits a<=m)(h2:bits b<=n):bits (a*b)<=m+n:=PyProof.Rows.bits_mul h1 h2
def bits_neg (h1:bits a<=m):bits (-a)<=m:=PyProof.Rows.bits_neg h1
def DP (h:a.natAbs<2^n):bits a<=n:=PyProof.Rows.intBits_le h
def DN (h:bits a<=n):a.natAbs<2^n:=PyProof.Rows.lt_pow_of_bits h (aAh n)
@[simp]def fQ (d:D)(ρ:Ev):cI 0 (Sl.v d::ρ)=.ok d:=rfl
@[simp]def lW (i:Nat)(x:Sl)(ρ:Ev):cI (i+1) (x::ρ)=cI i ρ:=rfl
@[simp]def NY (d:D)(ρ:Ev):wG 0 (Sl.v d::ρ)=.ok d:=rfl
@[simp]def CH (d:List D)(ρ:Ev):wG 0 (Sl.o d::ρ)=.ok (.lst d):=rfl
@[simp]def xH (i:Nat)(x:Sl)(ρ:Ev):wG (i+1) (x::ρ)=wG i ρ:=rfl
@[simp]def AA (d:D)(ρ:Ev):BV d ρ=.ok d:=rfl
@[simp]def C5 (ρ:Ev)(F:Ev->R Out):G8 (.ok (.nx ρ)) F=F ρ:=rfl
@[simp]def lw (d:D)(F:Ev->R Out):G8 (.ok (.rt d)) F=.ok (.rt d):=rfl
@[simp]def a0q (d:D):T6 (.ok (.rt d))=.ok d:=rfl
@[simp]def a0w (ρ:Ev):T6 (.ok (.nx ρ))=.ok .non:=rfl
@[simp]def jN (f:Ev->R D)(g:Ev->R (List D))(ρ:Ev):k8 f g ρ=(f ρ).bind λd=>(g ρ).bind λds=>.ok (d::ds):=rfl
@[simp]def nG (ρ:Ev):M7 ρ=.ok []:=rfl
@[simp]def a3w (a:D):oB [a]=.ok (.tup [a]):=rfl
@[simp]def a3j (a b:D):oB [a,b]=.ok (.tup [a,b]):=rfl
@[simp]def a3k (a b c:D):oB [a,b,c]=.ok (.tup [a,b,c]):=rfl
@[simp]def a4h (a b c d:D):oB [a,b,c,d]=.ok (.tup [a,b,c,d]):=rfl
@[simp]def a4e:qA []=.ok (.lst []):=rfl
@[simp]def a4k (a b:D):qA [a,b]=.ok (.lst [a,b]):=rfl
@[simp]def a3r (a b c:D):qA [a,b,c]=.ok (.lst [a,b,c]):=rfl
@[simp]def a4n (a b c d:D):qA [a,b,c,d]=.ok (.lst [a,b,c,d]):=rfl
@[simp]def a4s (x y z:D):O5 (.tup [x,y,z]) (.int 0)=.ok x:=rfl
@[simp]def a4i (x y z:D):O5 (.tup [x,y,z]) (.int 1)=.ok y:=rfl
@[simp]def a4c (x y z:D):O5 (.tup [x,y,z]) (.int 2)=.ok z:=rfl
@[simp]def a3s (x y z t:D):O5 (.tup [x,y,z,t]) (.int 0)=.ok x:=rfl
@[simp]def a4v (x y z t:D):O5 (.tup [x,y,z,t]) (.int 1)=.ok y:=rfl
@[simp]def a4w (x y z t:D):O5 (.tup [x,y,z,t]) (.int 2)=.ok z:=rfl
@[simp]def a3i (x y z t:D):O5 (.tup [x,y,z,t]) (.int 3)=.ok t:=rfl
@[simp]def a4d (x y:D):O5 (.tup [x,y]) (.int 0)=.ok x:=rfl
@[simp]def a4o (x y:D):O5 (.tup [x,y]) (.int 1)=.ok y:=rfl
def jP (h:qI xs i=some d):O5 (.lst xs) (.int i)=.ok d:=by simp only[O5,h]
def MQ {xs:List D}{i:Int}{d:D}(h:qI xs i=some d):O5 (.tup xs) (.int i)=.ok d:=by simp only[O5,h]
@[simp]def a0k (a b:Int):aQ (.int a) (.int b)=.ok (.int (a+b)):=rfl
@[simp]def uA (a b:Int):KI (.int a) (.int b)=.ok (.int (a-b)):=rfl
@[simp]def a2g (a b:Int):ltR (.int a) (.int b)=.ok (.bl (decide (a<b))):=rfl
@[simp]def CO (a b:Int):tz (.int a) (.int b)=.ok (.bl (decide (a<=b))):=rfl
@[simp]def wB (a b:Int):iq (.int a) (.int b)=.ok (.bl (decide (b<a))):=rfl
@[simp]def a1k (a:Int):vk (.int a)=.ok (.int (-a)):=rfl
@[simp]def EX (b:Bool):HM (.bl b)=.ok b:=rfl
@[simp]def a4u (b:Int):toI (.int b)=.ok (some b):=rfl
@[simp]def wA (xs:List D):LH [.lst xs]=.ok (.int xs.length):=rfl
@[simp]def a2y (xs:List D):LH [.tup xs]=.ok (.int xs.length):=rfl
@[simp]def ZT (a:Int):rq [.int a]=.ok (.int (if a<0 then-a else a)):=rfl
@[simp]def UI (a b:Int):WI [.int a,.int b]=.ok (.int (if b>a then b else a)):=rfl
@[simp]def RV (a b:Int):WW [.int a,.int b]=.ok (.int (if b<a then b else a)):=rfl
@[simp]def qy (xs:List D):BY [.lst xs]=.ok (.tup xs):=rfl
@[simp]def uX (f g:Ev->R Bool)(ρ:Ev):ZU f g ρ=(f ρ).bind λb=>if b=true then g ρ else .ok false:=rfl
@[simp]def a2z (f g:Ev->R Bool)(ρ:Ev):orB f g ρ=(f ρ).bind λb=>if b=true then .ok true else g ρ:=rfl
@[simp]def a0m (f:Ev->R Bool)(ρ:Ev):yz f ρ=(f ρ).bind λb=>.ok (!b):=rfl
@[simp]def a0s (f g:Ev->R D)(ρ:Ev):xk f g ρ=((f ρ).bind HM).bind λb=>if b=true then g ρ else .ok (.bl false):=rfl
@[simp]def a1v (a b:Int):WT (.int a) (.int b)=.ok (.bl (a==b)):=by simp only[WT,G9,w5];rfl
@[simp]def YQ (a b:Int):RF (.int a) (.int b)=.ok (.bl (!(a==b))):=by simp only[RF,G9,w5];rfl
@[simp]def ZD (a b c d e f:Int):WT (.tup [.int a,.int b,.int c]) (.tup [.int d,.int e,.int f])=.ok (.bl (a==d&&(b==e&&c==f))):=by simp[WT,G9,K6,w5,Z7]
@[simp]def CG (a b c d e f:Int):RF (.tup [.int a,.int b,.int c]) (.tup [.int d,.int e,.int f])=.ok (.bl (!(a==d&&(b==e&&c==f)))):=by simp[RF,G9,K6,w5,Z7]
@[simp]def WL (a:List D):BA "tuple" (.tup a)=true:=rfl
theorem V3 (r:D->D):∀{ds:List D},(∀d∈ds,∃ρ1,G d ρ=.ok ρ1/\fe ρ1=.ok (r d))->v8 G (λ_=>.ok true) fe ρ ds=.ok (ds.map r)
 |[],_=>rfl
 |d::ds,h=>by obtain⟨ρ1,e1,e2⟩:=h d aAK;rw[v8,e1];simp only[R.aa0,if_true,e2,V3 r λd hd=>h d (aAd _ hd),aAu]
def dS {α:Type}{xs:List α}{k:Int}(h0:0<=k):qI xs k=xs[k.toNat]?:=by
 unfold qI JI;rw[if_pos h0];by_cases h:k<xs.length
 ·rw[if_pos h];rfl
 ·rw[if_neg h,aCd.mpr (by omega)];rfl
def Z9 (n:Nat)(xs:List D):Prop:=∀x∈xs,∃i,x=.int i/\bits i<=n
def EJ {n:Nat}{ns:List Int}(h:∀x∈ns,bits x<=n):Z9 n (ns.map D.int):=λx hx=>by obtain⟨i,hi,rfl⟩:=aAp.mp hx;exact⟨i,rfl,h i hi⟩
def yS (g:Int->Int)(xs:List D)(k:Int):D:=match xs[k.toNat]? with
 |some d=>d
 |none=>.int (g k)
def HG (h:Z9 n xs)(g:Int->Int)(k:Int):∃i,yS g xs k=.int i/\(bits i<=n\/i=g k):=by
 unfold yS;cases e:xs[k.toNat]? with
 |none=>exact⟨_,rfl,.inr rfl⟩
 |some d=>obtain⟨i,rfl,hb⟩:=h d (aAs e);exact⟨i,rfl,.inl hb⟩
def N3:D->Bool
 |.int _=>true
 |_=>false
def k9 (h1:-((2:Int)^n)<a)(h2:a<(2:Int)^n):bits a<=n:=DP (by
 have e:((2^n:Nat):Int)=(2:Int)^n:=by simp
 omega)
def bits_fdiv (ha:bits a<=n):bits (a.fdiv b)<=n:=PyProof.Rows.bits_fdiv ha
def B5 (h:bits a<=m)(hm:m<=n:=by decide):bits a<=n:=aAr h hm
@[simp]def a5i:gH [.int 3]=.ok [.int 0,.int 1,.int 2]:=rfl
@[simp]def GD (xs:List D):jE (.lst xs)=.ok xs:=rfl
@[simp]def GS (xs:List D):DU (.tup xs)=.ok xs:=rfl
def KZ (h:d∈wS a c n):∃i:Nat,i<n/\d=.int (a+(i:Int)*c):=by unfold wS at h;obtain⟨i,hi,e⟩:=aAp.mp h;exact⟨i,aCc.mp hi,e.symm⟩
def UU (h:oV a b c):gH [.int a,.int b,.int c]=.ok (wS a c (mH a b c)):=if_pos h
def UJ (hM:0<M)(hc:0<c)(i:Nat)(h:i<mH 0 M c):(i:Int)*c<M:=by
 unfold mH at h;rw[if_pos hM]at h;have h0:0<=(M-0-1)/c:=aFr (by omega) (by omega);have h1:(i:Int)<=(M-0-1)/c:=by omega
 have h2:=aAS h1 (show 0<=c by omega);have h3:=Int.ediv_mul_le (M-0-1) (show c≠0 by omega);omega
@[simp]def bz (G:D->Ev->R Ev)(ft:Ev->R Bool)(fe:Ev->R D)(ρ:Ev):v8 G ft fe ρ []=.ok []:=rfl
@[simp]def DG (i:Nat)(fe:Ev->R D)(ρ:Ev)(d:D)(ds:List D):v8 (λd ρ=>.ok (ρ.set i (Sl.v d))) (λ_=>.ok true) fe ρ (d::ds)=(fe (ρ.set i (Sl.v d))).bind λr=>(v8 (λd ρ=>.ok (ρ.set i (Sl.v d))) (λ_=>.ok true) fe ρ ds).bind λrs=>.ok (r::rs):=rfl
@[simp]def YV (i:Nat)(ft:Ev->R Bool)(fe:Ev->R D)(ρ:Ev)(d:D)(ds:List D):v8 (λd ρ=>.ok (ρ.set i (Sl.v d))) ft fe ρ (d::ds)=(ft (ρ.set i (Sl.v d))).bind λb=>if b=true then(fe (ρ.set i (Sl.v d))).bind λr=>(v8 (λd ρ=>.ok (ρ.set i (Sl.v d))) ft fe ρ ds).bind λrs=>.ok (r::rs)else v8 (λd ρ=>.ok (ρ.set i (Sl.v d))) ft fe ρ ds:=rfl
@[simp]def a0h (d:D):seen (.v d)=.v d:=rfl
end DL
namespace DL
open PySem L2
def jz (x:D)(r:List D):O5 (.tup (x::r)) (.int 0)=.ok x:=MQ (by rw[dS (by decide)];rfl)
def yy (x y:D)(r:List D):O5 (.tup (x::y::r)) (.int 1)=.ok y:=MQ (by rw[dS (by decide)];rfl)
def jk (x y z:D)(r:List D):O5 (.tup (x::y::z::r)) (.int 2)=.ok z:=MQ (by rw[dS (by decide)];rfl)
theorem iG (Iv:Nat->Ev->Prop)(ht:∀n ρ,Iv (n+1) ρ->c ρ=.ok false\/(c ρ=.ok true/\∃ρ2,F ρ=.ok (.nx ρ2)/\Iv n ρ2))(h00:∀ρ,¬Iv 0 ρ):∀n ρ,Iv n ρ->∃m au,S7 c F n ρ=.ok (.nx au)/\Iv m au/\c au=.ok false
 |0,ρ,h=>absurd h (h00 ρ)
 |n+1,ρ,h=>by
  rcases ht n ρ h with e|⟨e,ρ2,e2,h2⟩
  ·exact⟨n+1,ρ,by rw[S7,e];rfl,h,e⟩
  ·obtain⟨m,au,e3,h3,h4⟩:=iG Iv ht h00 n ρ2 h2;exact⟨m,au,by rw[S7,e];simp only[R.aa0,if_true,e2];exact e3,h3,h4⟩
def GB {Iv:Nat->Ev->Prop}(ht:∀n ρ,Iv (n+1) ρ->c ρ=.ok false\/(c ρ=.ok true/\∃ρ2,F ρ=.ok (.nx ρ2)/\Iv n ρ2))(h0:Iv n ρ)(h2:∀n au,Iv n au->c au=.ok false->T6 (F2 au)=.ok d)(h00:∀ρ,¬Iv 0 ρ:=by(intro ρ;rintro⟨x,y,_,z,_⟩;omega)):
  T6 (G8 (S7 c F n ρ) F2)=.ok d:=by
 obtain⟨m,au,e,h,hc⟩:=iG Iv ht h00 n ρ h0;rw[e];exact h2 m au h hc
end DL
namespace DL
open PySem PySem.Spec L2
open PyProof.Rows hiding St
variable [Tabs]
section
variable{K:PySem.W.Frag}
def EnvOk.af5 (E:EnvOk K Ha O0 H O σ ρ)(i:Nat)(h:H a=none)(hk:K.lookup a=none)(r:Reps K H O vs xs):
  EnvOk K Ha O0 (upd H a (.lst vs)) (λb=>O b\/b=a) (σ.set i (some (.ref a))) (ρ.set i (.o xs)):=
 E.ae0 i h hk trivial λh0=>⟨a,vs,rfl,.inr rfl,h0,i9,r.ab8 h hk⟩
def EnvOk.disown (E:EnvOk K Ha O0 H O σ ρ)(e:ρ[i]?=some (.o xs)):∃O',EnvOk K Ha O0 H O' σ (ρ.set i (.v (.lst xs)))/\(∀b,O' b->O b):=by obtain⟨a,vs,h1,h2,h3,h4,h5⟩:=E.own i xs e;exact⟨λb=>O b/\b≠a,E.ae5 e trivial h1 (λz=>z) ⟨.ref a,rfl,.lst (O6.of h4) (λz=>z.2 rfl) (h5.sub λ_ z=>z.1)⟩,λb z=>z.1⟩
def EnvOk.write (E:EnvOk K Ha O0 H O σ ρ)(e:ρ[i]?=some (.o xs))(h1:σ[i]?=some (some (V.ref a)))(r:Reps K H O ja uo):
  EnvOk K Ha O0 (upd H a (.lst ja)) O σ (ρ.set i (.o uo))/\Kp H O (upd H a (.lst ja)) O:=by
 obtain⟨a',vs,p1,h2,h3,h4,h5⟩:=E.own i xs e;have ea:a'=a:=by rw[p1]at h1;cases h1;rfl
 subst ea;exact E.ad9 e trivial h1 h4 trivial trivial λ_ _ _=>⟨a',ja,rfl,h2,h3,i9,r.upd h4 trivial h2⟩
end
section
def tF (X:Cx)(f:Ev->R (List D)):TE:=λσ H Q=>∃Ha O0 O ρ,EnvOk X.K Ha O0 H O σ ρ/\match f ρ with
 |.ok ds=>∀vs H1 a,Same H H1->H1 a=none->Reps X.K H1 O vs ds->Q (.ref a) (upd H1 a<|.lst vs)
 |.ex e=>∀H',Same H H'->XW X e H'
 |.bad=>False
def PF (X:Cx)(e:Expr)(f:Ev->R (List D)):Prop:=PE X e (tF X f)
def WQ (I:Inv X pins σ H s)(h:H a=some o):X.K.lookup a=none:=by
 cases e:X.K.lookup a with
 |none=>rfl
 |some ob=>have:=(I.bs a ob<|I.ok.mod.kin a ob e).2;rw[h]at this;cases this
def PF.pd (h:PF X e f):PD X e (λρ=>(f ρ).bind λds=>.ok (.lst ds)):=PM h λσ H Q Ha O0 O ρ E q=>⟨Ha,O0,O,ρ,E,by
 dsimp only at q;cases e1:f ρ with
 |ok ds=>rw[e1]at q;intro vs H1 a s1 ha r;exact q _ _ (s1.trans<|j4 ha _) (.lst (O6.of i9) ((E.grow s1).fresh ha) (r.same<|j4 ha _))
 |ex x=>rw[e1]at q;exact q
 |bad=>rw[e1]at q;exact q⟩
def lG (h:qH X es f):PF X (.List es pos) (λρ=>(f ρ).bind λds=>if ds.length<=sizeLine then .ok ds else .bad):=
 PM (JS h) λσ H Q Ha O0 O ρ E q=>⟨Ha,O0,O,ρ,E,by
  dsimp only at q;cases e1:f ρ with
  |ok ds=>
   rw[e1,R.aa0]at q;intro vs H1 s1 r1;by_cases hz:ds.length<=sizeLine
   ·rw[if_pos hz]at q;exact⟨by rw[r1.length];exact hz,λp hp=>q vs H1 p s1 hp r1⟩
   ·rw[if_neg hz]at q;exact aAg q
  |ex x=>rw[e1]at q;exact q
  |bad=>rw[e1]at q;exact q⟩
def jK (i:Nat)(he:PF X e f)(hN:X.N.Nodup)(hi:X.N[i]?=some x:=by rfl)(hx:Loc X.env.scope x:=by first|exact aBY rfl|exact aBk rfl)(hs:swapsWith e (some (.Name x pos')) pos.line X.env=pure false:=by rfl)(hf:X.fn x=true\/X.env.scope.names.lookup x=some .local:=by first|exact .inl rfl|exact .inr rfl|assumption):
  jD X (.Assign [.Name x pos'] e pos) (λρ=>(f ρ).bind λds=>.ok (.nx (ρ.set i (.o ds)))):=by
 intro Ha O0 pins s σ H D I ⟨O,ρ,E,fk,q⟩;dsimp only at q;refine aEP (D4 (he pins s σ H (λv H2=>∃vs H1 a ds,v=.ref a/\H2=upd H1 a (.lst vs)/\Same H H1/\H1 a=none/\Reps X.K H1 O vs ds/\RS X Ha O0 H O (.ok (.nx (ρ.set i<|.o ds))) D) I ⟨Ha,O0,O,ρ,E,?_⟩) λv s1 ⟨y,H2,I2,r2,vs,H1,a,ds,e1,e2,s1',ha,r,q'⟩=>?_) hs
 ·cases e1:f ρ with
  |ok ds=>rw[e1,R.aa0]at q;exactλvs H1 a s1 ha r=>⟨vs,H1,a,ds,rfl,rfl,s1,ha,r,q⟩
  |ex x=>rw[e1]at q;exactλH' s=>q H' (E.same.trans s)
  |bad=>rw[e1]at q;exact q
 ·subst e1 e2;refine X0 I2 hN hi hx r2 (λs3 I3=>⟨_,_,I3,?_⟩) hf;have hk:=WQ I2 (i9 (H:=H1) (a:=a) (o:=.lst vs));have E2:=(E.grow s1').af5 i ha hk r;refine q' _ _ _ E2 (qX I2 _ E2.trk) ?_;exactλb o hb n=>⟨by rw[j7 (t8 (s1' b o hb) ha)];exact s1' b o hb,λz=>z.elim n (t8 (s1' b o hb) ha)⟩
def rG (i:Nat)(ρ:Ev):Ev:=match ρ[i]? with
 |some (.o xs)=>ρ.set i (.v (.lst xs))
 |_=>ρ
def FG (i:Nat){st:Stmt}(h:jD X st F):jD X st (λρ=>F (rG i ρ)):=by
 intro Ha O0 pins s σ H D I ⟨O,ρ,E,fk,q⟩;dsimp only at q;unfold rG at q;cases e:ρ[i]? with
 |none=>rw[e]at q;exact h Ha O0 pins s σ H D I ⟨O,ρ,E,fk,q⟩
 |some sl=>
  rw[e]at q;cases sl with
  |x C=>exact h Ha O0 pins s σ H D I ⟨O,ρ,E,fk,q⟩
  |c m φ=>exact h Ha O0 pins s σ H D I ⟨O,ρ,E,fk,q⟩
  |d kvs=>exact h Ha O0 pins s σ H D I ⟨O,ρ,E,fk,q⟩
  |no=>exact h Ha O0 pins s σ H D I ⟨O,ρ,E,fk,q⟩
  |v d=>exact h Ha O0 pins s σ H D I ⟨O,ρ,E,fk,q⟩
  |o xs=>obtain⟨O',E',sub⟩:=E.disown e;exact h Ha O0 pins s σ H D I ⟨O',_,E',λa o hk z=>fk a o hk (sub a z),RS.grow q λb o hb n=>⟨hb,λz=>n (sub b z)⟩⟩
def AE (i:Nat)(ρ:Ev)(d:D):R Out:=match ρ[i]? with
 |some (.o xs)=>if xs.length<sizeLine then .ok (.nx (ρ.set i<|.o (xs++[d])))else .bad
 |_=>.bad
def gS (i:Nat)(he:PD X e f)(hN:X.N[i]?=some x:=by rfl)(hv:sF X.env.scope x:=by first|exact aBY rfl|exact aBk (aBY rfl)|exact aBk (aBk rfl))(hd:(x==("__debug__":Str))=false:=by decide)(eu:(x==("__classdict__":Str))=false:=by decide)(ie:attributeBase (.Name x p) "append" X.env (eval (.Name x p) X.env)=eval (.Name x p) X.env:=by rfl)(xc:((backTo bp (starEach [e] X.env)).all (λx=>!x.1)&&(backToKw bp (keywordEach [] X.env)).all (λx=>x.1.isSome)
   &&decide ([e].length+([]:List Keyword).length+(if([]:List Keyword).isEmpty then 0 else 1)<30))=true:=by rfl) (fg:(apos.endLine==bp.line)=true:=by rfl) (hs:starEach [e] X.env=(false,eval e X.env)::starEach [] X.env:=by rfl) (kl:(backTo bp (starEach [] X.env)).any (·.1)=false:=by rfl) (zr:swapsWith (.Call (.Attribute (.Name x p) "append" apos) [e] [] bp) none pos.line X.env=pure false:=by rfl):
  jD X (.Expr (.Call (.Attribute (.Name x p) "append" apos) [e] [] bp) pos) (λρ=>(f ρ).bind (AE i ρ)):=λHa O0=>
 ED (nF (XD PySem.F.plainAttrs_list PySem.F.slot_list_append PySem.F.type_list_append rZ (M6 hN hv hd eu) (c8 he j5 hs) ie xc fg hs kl) zr) λD σ H O ρ E fk q=>by
 cases e1:f ρ with
 |ok d=>
  rw[e1,R.aa0]at q;unfold AE at q;cases e2:ρ[i]? with
  |none=>rw[e2]at q;exact aAg q
  |some sl=>
   rw[e2]at q;cases sl with
   |x C=>exact aAg q
   |c m φ=>exact aAg q
   |d kvs=>exact aAg q
   |no=>exact aAg q
   |v d=>exact aAg q
   |o xs=>
    dsimp only at q;split at q
    ·rename_i hz;obtain⟨a,vs,h1,h2,h3,h4,h5⟩:=E.own i xs e2;refine⟨_,h1,.inl ⟨rfl,vs,O6.of h4⟩,Ha,O0,O,ρ,E,?_⟩;show GJ X H O ((f ρ).bind λd=>(R.ok []).bind λds=>.ok (d::ds)) _;rw[e1];intro us H1 s1 r1;cases r1 with
     |cons r1 rn=>cases rn;have E1:=E.grow s1;refine⟨a,vs,_,rfl,rfl,s1 _ _ h4,by rw[h5.length];exact hz,?_⟩;obtain⟨E2,k2⟩:=E1.write e2 h1 ((h5.same s1).snoc r1);exact q σ _ O E2 fk ((Kp.of s1).trans k2)
    ·exact aAg q
 |ex x=>
  rw[e1]at q;cases e2:ρ[i]? with
  |none=>exact(q H E.same).elim
  |some sl=>exact(q H E.same).elim
 |bad=>rw[e1]at q;exact aAg q
def gj (i:Nat)(ρ:Ev)(d:D):R Out:=match ρ[i]?,d with
 |some (.o xs),.lst ys=>if xs.length+ys.length<=sizeLine then .ok (.nx (ρ.set i<|.o (xs++ys)))else .bad
 |_,_=>.bad
def BC (i:Nat)(ρ:Ev):R (D×Ev):=match ρ[i]? with
 |some (.o xs)=>match xs[xs.length-1]? with
  |some d=>.ok (d,ρ.set i (.o xs.dropLast))
  |none=>.bad
 |_=>.bad
def UV (i:Nat)(hN:X.N[i]?=some x:=by rfl)(hv:sF X.env.scope x:=by first|exact aBY rfl|exact aBk (aBY rfl)|exact aBk (aBk rfl))(hd:(x==("__debug__":Str))=false:=by decide)(eu:(x==("__classdict__":Str))=false:=by decide)(ie:attributeBase (.Name x p) "pop" X.env (eval (.Name x p) X.env)=eval (.Name x p) X.env:=by rfl)(fg:(apos.endLine==bp.line)=true:=by rfl)(zr:swapsWith (.Call (.Attribute (.Name x p) "pop" apos) [] [] bp) none pos.line X.env=pure false:=by rfl):
  jD X (.Expr (.Call (.Attribute (.Name x p) "pop" apos) [] [] bp) pos) (λρ=>(BC i ρ).bind λz=>.ok (.nx z.2)):=λHa O0=>
 ED (nF (OI PySem.F.plainAttrs_list PySem.F.slot_list_pop PySem.F.type_list_pop OB (M6 hN hv hd eu) ie fg) zr) λD σ H O ρ E fk q=>by
 unfold BC at q;cases e2:ρ[i]? with
 |none=>rw[e2]at q;exact aAg q
 |some sl=>
  rw[e2]at q;cases sl with
  |x C=>exact aAg q
  |c m φ=>exact aAg q
  |d kvs=>exact aAg q
  |no=>exact aAg q
  |v d=>exact aAg q
  |o xs=>
   dsimp only at q;cases e3:xs[xs.length-1]? with
   |none=>rw[e3]at q;exact aAg q
   |some d=>rw[e3]at q;obtain⟨a,vs,h1,h2,h3,h4,h5⟩:=E.own i xs e2;obtain⟨v,g1,g2⟩:=h5.get e3;refine⟨_,h1,.inl ⟨rfl,vs,O6.of h4⟩,a,vs,v,rfl,rfl,h4,by rw[h5.length];exact g1,?_⟩;obtain⟨E2,k2⟩:=E.write e2 h1 h5.dropLast;exact q σ _ O E2 fk k2
def CU (j i:Nat)(hND:X.N.Nodup)(ma:i≠j:=by decide)(hN:X.N[i]?=some x:=by rfl)(hy:X.N[j]?=some y:=by rfl)(hv:sF X.env.scope x:=by first|exact aBY rfl|exact aBk (aBY rfl)|exact aBk (aBk rfl))(hd:(x==("__debug__":Str))=false:=by decide)(eu:(x==("__classdict__":Str))=false:=by decide)(ie:attributeBase (.Name x p) "pop" X.env (eval (.Name x p) X.env)=eval (.Name x p) X.env:=by rfl)(fg:(apos.endLine==bp.line)=true:=by rfl)(hly:Loc X.env.scope y:=by first|exact aBY rfl|exact aBk rfl)(zr:swapsWith (.Call (.Attribute (.Name x p) "pop" apos) [] [] bp) (some (.Name y py)) pos.line X.env=pure false:=by rfl)(hf:X.fn y=true\/X.env.scope.names.lookup y=some .local:=by first|exact .inl rfl|exact .inr rfl|assumption):
  jD X (.Assign [.Name y py] (.Call (.Attribute (.Name x p) "pop" apos) [] [] bp) pos) (λρ=>(BC i ρ).bind λz=>.ok (.nx (z.2.set j (.v z.1)))):=λHa O0=>
 ED (NC hND hy hly (OI PySem.F.plainAttrs_list PySem.F.slot_list_pop PySem.F.type_list_pop OB (M6 hN hv hd eu) ie fg) zr hf) λD σ H O ρ E fk q=>by
 unfold BC at q;cases e2:ρ[i]? with
 |none=>rw[e2]at q;exact aAg q
 |some sl=>
  rw[e2]at q;cases sl with
  |x C=>exact aAg q
  |c m φ=>exact aAg q
  |d kvs=>exact aAg q
  |no=>exact aAg q
  |v d=>exact aAg q
  |o xs=>
   dsimp only at q;cases e3:xs[xs.length-1]? with
   |none=>rw[e3]at q;exact aAg q
   |some d=>rw[e3]at q;obtain⟨a,vs,h1,h2,h3,h4,h5⟩:=E.own i xs e2;obtain⟨v,g1,g2⟩:=h5.get e3;refine⟨_,h1,.inl ⟨rfl,vs,O6.of h4⟩,a,vs,v,rfl,rfl,h4,by rw[h5.length];exact g1,?_⟩;obtain⟨E2,k2⟩:=E.write e2 h1 h5.dropLast;exact q _ _ O (E2.set j<|k2.rep E.trk fk g2) fk k2
def GM (i:Nat)(ρ:Ev)(k d:D):R Out:=match ρ[i]?,k with
 |some (.o xs),.int k=>match JI xs.length k with
  |some j=>.ok (.nx (ρ.set i<|.o (xs.set j d)))
  |none=>.bad
 |_,_=>.bad
def kN (i:Nat)(he:PD X e f)(hk:PD X k g)(hN:X.N[i]?=some x:=by rfl)(hv:sF X.env.scope x:=by first|exact aBY rfl|exact aBk (aBY rfl)|exact aBk (aBk rfl))(hd:(x==("__debug__":Str))=false:=by decide)(eu:(x==("__classdict__":Str))=false:=by decide)(ha:∀v,assign (.Subscript (.Name x p) k ps) X.env v=(do
   let ov<-holding [v] (eval (.Name x p) X.env)
   let iv<-holding [v,ov] (eval k X.env)
   standAt ps
   holding [v,ov,iv] (setItem ov iv v)
   release [v,ov,iv] []):=by intro _;rfl) (hs:swapsWithSole [.Subscript (.Name x p) k ps] e pos.line X.env=pure false:=by rfl) (hw:swappedStores [.Subscript (.Name x p) k ps] e X.env=pure none:=by rfl) (h1:(assignEach [.Subscript (.Name x p) k ps] X.env).map (·.2)=[assign (.Subscript (.Name x p) k ps) X.env]:=by rfl):
  jD X (.Assign [.Subscript (.Name x p) k ps] e pos) (λρ=>(f ρ).bind λd=>(g ρ).bind λkd=>GM i ρ kd d):=λHa O0=>
 ED (BI he (AO (M6 hN hv hd eu) hk zO ha) hs hw h1) λD σ H O ρ E fk q=>⟨Ha,O0,O,ρ,E,by
  cases e1:f ρ with
  |ok d=>
   rw[e1,R.aa0]at q;intro v H1 s1 r1;have E1:=E.grow s1;cases e2:g ρ with
   |ok kd=>
    rw[e2,R.aa0]at q;unfold GM at q;cases e3:ρ[i]? with
    |none=>rw[e3]at q;exact aAg q
    |some sl=>
     rw[e3]at q;cases sl with
     |x C=>exact aAg q
     |c m φ=>exact aAg q
     |d kvs=>exact aAg q
     |no=>exact aAg q
     |v d=>exact aAg q
     |o xs=>
      obtain⟨a,vs,h1,h2,h3,h4,h5⟩:=E1.own i xs e3;refine⟨_,h1,Ha,O0,O,ρ,E1,?_⟩;rw[e2];intro kv H2 s2 r2;have E2:=E1.grow s2;cases kd with
      |int kk=>
       dsimp only at q;cases e4:JI xs.length kk with
       |none=>rw[e4]at q;exact aAg q
       |some j=>rw[e4]at q;cases r2;refine⟨a,vs,kk,j,rfl,rfl,s2 _ _ h4,by rw[h5.length];exact e4,?_⟩;obtain⟨E3,k3⟩:=E2.write e3 h1 ((h5.same s2).set (r1.same s2) j);exact q σ _ O E3 fk (((Kp.of s1).trans (Kp.of s2)).trans k3)
      |_=>exact aAg q
   |ex x=>rw[e2]at q;exact(q H E.same).elim
   |bad=>rw[e2]at q;exact aAg q
  |ex x=>rw[e1]at q;exactλH' s=>q H' (E.same.trans s)
  |bad=>rw[e1]at q;exact q⟩
def M1 {st:Stmt}:jD X st (λ_=>.bad):=λHa O0=>ED NJ λD σ H O ρ E fk q=>q
end
end DL
namespace G
structure V where
 x:Int
 y:Int
 z:Int
deriving DecidableEq
instance:Add V:=⟨λu v=>⟨u.x+v.x,u.y+v.y,u.z+v.z⟩⟩
instance:Sub V:=⟨λu v=>⟨u.x-v.x,u.y-v.y,u.z-v.z⟩⟩
instance:Neg V:=⟨λu=>⟨-u.x,-u.y,-u.z⟩⟩
instance:HMul Int V V:=⟨λk u=>⟨k*u.x,k*u.y,k*u.z⟩⟩
instance:OfNat V 0:=⟨⟨0,0,0⟩⟩
@[simp]def a3v (u v:V):(u+v).x=u.x+v.x:=rfl
@[simp]def a4p (u v:V):(u+v).y=u.y+v.y:=rfl
@[simp]def a3p (u v:V):(u+v).z=u.z+v.z:=rfl
@[simp]def WA (u v:V):(u-v).x=u.x-v.x:=rfl
@[simp]def WV (u v:V):(u-v).y=u.y-v.y:=rfl
@[simp]def WJ (u v:V):(u-v).z=u.z-v.z:=rfl
@[simp]def zq (u:V):(-u).x=-u.x:=rfl
@[simp]def tq (u:V):(-u).y=-u.y:=rfl
@[simp]def zk (u:V):(-u).z=-u.z:=rfl
@[simp]def MJ (k:Int)(u:V):(k*u).x=k*u.x:=rfl
@[simp]def OQ (k:Int)(u:V):(k*u).y=k*u.y:=rfl
@[simp]def PU (k:Int)(u:V):(k*u).z=k*u.z:=rfl
@[simp]def dQ:(0:V).x=0:=rfl
@[simp]def cO:(0:V).y=0:=rfl
@[simp]def dE:(0:V).z=0:=rfl
def ext {u v:V}(h1:u.x=v.x)(h2:u.y=v.y)(h3:u.z=v.z):u=v:=by cases u;cases v;simp_all
def pF {u v:V}:u=v↔u.x=v.x/\u.y=v.y/\u.z=v.z:=⟨λh=>by subst h;exact⟨rfl,rfl,rfl⟩,λ⟨a,b,c⟩=>ext a b c⟩
def f8 (u v:V):Int:=u.x*v.x+u.y*v.y+u.z*v.z
def cr (u v:V):V:=⟨u.y*v.z-u.z*v.y,u.z*v.x-u.x*v.z,u.x*v.y-u.y*v.x⟩
def i4 (a u v:V):Int:=f8 a (cr u v)
@[simp]def RN (u v:V):(cr u v).x=u.y*v.z-u.z*v.y:=rfl
@[simp]def TU (u v:V):(cr u v).y=u.z*v.x-u.x*v.z:=rfl
@[simp]def RW (u v:V):(cr u v).z=u.x*v.y-u.y*v.x:=rfl
def GR (a u v w:V):i4 a u v*w+i4 a v w*u+i4 a w u*v=i4 u v w*a:=by apply ext<;>simp[i4,f8]<;>grind
def xw (f a u v w:V):i4 a u v*f8 f w+i4 a v w*f8 f u+i4 a w u*f8 f v=i4 u v w*f8 f a:=by simp[i4,f8];grind
def j8 (a u v:V):i4 a v u=-i4 a u v:=by simp[i4,f8];grind
def C7 (a u:V):i4 a u u=0:=by simp[i4,f8];grind
def aT (a u v w:V):i4 a (u+v) w=i4 a u w+i4 a v w:=by simp[i4,f8];grind
def aP (a u v w:V):i4 a u (v+w)=i4 a u v+i4 a u w:=by simp[i4,f8];grind
def LG (a u v w:V):i4 a u (v-w)=i4 a u v-i4 a u w:=by simp[i4,f8];grind
def yT (a:V)(k:Int)(u v:V):i4 a u (k*v)=k*i4 a u v:=by simp[i4,f8];grind
def dI (u v:V):f8 u v=f8 v u:=by simp[f8];grind
def bO (f u v:V):f8 f (u+v)=f8 f u+f8 f v:=by simp[f8];grind
def i6 (f u v:V):f8 f (u-v)=f8 f u-f8 f v:=by simp[f8];grind
def w4 (f:V)(k:Int)(v:V):f8 f (k*v)=k*f8 f v:=by simp[f8];grind
def Y3 (f:V)(k:Int)(v:V):f8 (k*f) v=k*f8 f v:=by simp[f8];grind
def W9 (f:V):f8 f 0=0:=by simp[f8]
def U1 (a u v:V):f8 (cr a u) v=i4 a u v:=by simp[i4,f8];grind
def D6 {u:V}(h:u≠0):0<f8 u u:=by
 have h1:u.x≠0\/u.y≠0\/u.z≠0:=by
  by_cases a:u.x=0
  ·by_cases b:u.y=0
   ·by_cases c:u.z=0
    ·exact absurd (ext a b c) h
    ·exact .inr (.inr c)
   ·exact .inr (.inl b)
  ·exact .inl a
 have sq:∀t:Int,0<=t*t:=λt=>by
  rcases Int.le_total 0 t with q|q
  ·exact aDP q q
  ·have:=aDP (aES q) (aES q);rwa [aFs]at this
 have sqp:∀t:Int,t≠0->0<t*t:=λt ht=>by
  have:=sq t;have:t*t≠0:=λz=>by rcases aAI.mp z with q|q<;>exact ht q
  omega
 have a:=sq u.x;have b:=sq u.y;have c:=sq u.z;unfold f8;rcases h1 with q|q|q
 ·have:=sqp _ q;omega
 ·have:=sqp _ q;omega
 ·have:=sqp _ q;omega
def F4 (h:n≠0)(hu:f8 n u=0)(hv:f8 n v=0)(hw:f8 n w=0):i4 u v w=0:=by
 have e:i4 u v w*f8 n n=0:=by have:=xw n n u v w;rw[hu,hv,hw]at this;simp at this;omega
 rcases aAI.mp e with q|q
 ·exact q
 ·have:=D6 h;omega
end G
namespace G
def v5 (v:V):(0:Int)*v=0:=ext (by simp) (by simp) (by simp)
def pG (v:V):v+0=v:=ext (by simp) (by simp) (by simp)
def fW (v:V):0+v=v:=ext (by simp) (by simp) (by simp)
structure Cone (Pos:V->Prop):Prop where
 add:∀{u v},Pos u->Pos v->Pos (u+v)
 mul:∀{k:Int} {u},0<k->Pos u->Pos (k*u)
 irr:¬Pos 0
section
variable{Pos:V->Prop} (C:Cone Pos)
include C
theorem Cone.comb {p q:Int}{u w:V}(hp:0<p)(hq:0<=q)(hw:Pos w)(hu:Pos u):Pos (p*w+q*u):=by
 by_cases h:q=0
 ·subst h;rw[v5,pG];exact C.mul hp hw
 ·exact C.add (C.mul hp hw) (C.mul (by lia) hu)
theorem Cone.sgn {k:Int}{v:V}(hv:Pos v)(h:Pos (k*v)):0<k:=by
 by_cases hk:0<k
 ·exact hk
 ·exfalso;by_cases h0:k=0
  ·subst h0;rw[v5]at h;exact C.irr h
  ·have h1:=C.add h (C.mul (k:=-k) (by lia) hv);have e:k*v+-k*v=0:=ext (by simp;grind) (by simp;grind) (by simp;grind);rw[e]at h1;exact C.irr h1
theorem Cone.tr {a u v w:V}(hu:Pos u)(hv:Pos v)(hw:Pos w)(hf:i4 u v w=0)(h1:0<i4 a u v)(h2:0<=i4 a v w):0<i4 a u w:=by
 refine C.sgn hv (k:=i4 a u w) ?_;have e:i4 a u w*v=i4 a u v*w+i4 a v w*u:=by have h:=GR a u v w;rw[hf,v5,j8 a u w]at h;have hx:=congrArg V.x h;have hy:=congrArg V.y h;have hz:=congrArg V.z h;simp at hx hy hz;exact ext (by simp;grind) (by simp;grind) (by simp;grind)
 rw[e];exact C.comb h1 h2 hw hu
theorem Cone.tr' {a u v w:V}(hu:Pos u)(hv:Pos v)(hw:Pos w)(hf:i4 u v w=0)(h1:0<=i4 a u v)(h2:0<i4 a v w):0<i4 a u w:=by
 refine C.sgn hv (k:=i4 a u w) ?_;have e:i4 a u w*v=i4 a v w*u+i4 a u v*w:=by have h:=GR a u v w;rw[hf,v5,j8 a u w]at h;have hx:=congrArg V.x h;have hy:=congrArg V.y h;have hz:=congrArg V.z h;simp at hx hy hz;exact ext (by simp;grind) (by simp;grind) (by simp;grind)
 rw[e];exact C.comb h2 h1 hu hw
end
structure ConeM (a:V)(Pos:V->Prop):Prop extends Cone Pos where
 inv:∀{u} (k:Int),Pos u->Pos (u+k*a)
def ConeM.tr {a:V}{Pos:V->Prop}(C:ConeM a Pos){u v w:V}(hu:Pos u)(hv:Pos v)(hw:Pos w)(h1:0<i4 a u v)(h2:0<=i4 a v w):0<i4 a u w:=by
 refine C.sgn hv (k:=i4 a u w) ?_;have e:i4 a u w*v=(i4 a u v*w+i4 a v w*u)+(-i4 u v w)*a:=by have h:=GR a u v w;rw[j8 a u w]at h;have hx:=congrArg V.x h;have hy:=congrArg V.y h;have hz:=congrArg V.z h;simp at hx hy hz;exact ext (by simp;grind) (by simp;grind) (by simp;grind)
 rw[e];exact C.inv _ (C.comb h1 h2 hw hu)
def i8 (w:V):Prop:=0<w.x\/(w.x=0/\(0<w.y\/(w.y=0/\0<w.z)))
instance(w:V):Decidable (i8 w):=inferInstanceAs (Decidable<|_\/_)
def E8:Cone i8 where
 add:=λ{u v} h1 h2=>by unfold i8 at*;simp;lia
 mul:=λ{k u} hk h=>by
  unfold i8 at*
  simp;rcases h with h|⟨h,h'|⟨h',h''⟩⟩
  ·exact .inl (aBC hk h)
  ·exact .inr ⟨by rw[h];simp,.inl (aBC hk h')⟩
  ·exact .inr ⟨by rw[h];simp,.inr ⟨by rw[h'];simp,aBC hk h''⟩⟩
 irr:=by unfold i8;simp
def S9 (w:V):Prop:=i8 (-w)
def DI:-(0:V)=0:=rfl
def iJ:Cone S9 where
 add:=λ{u v} h1 h2=>by have e:-(u+v)=-u+-v:=ext (by simp;lia) (by simp;lia) (by simp;lia);unfold S9 at*;rw[e];exact E8.add h1 h2
 mul:=λ{k u} hk h=>by have e:-(k*u)=k*(-u):=ext (by simp;grind) (by simp;grind) (by simp;grind);unfold S9 at*;rw[e];exact E8.mul hk h
 irr:=by unfold S9;rw[DI];exact E8.irr
def UP (w:V):i8 w\/w=0\/S9 w:=by
 unfold S9 i8;rw[pF];simp
 lia
end G
namespace DL
open PySem L2
def iV (G:D->Ev->R Ev)(F:Ev->R Out)(d:D)(ρ:Ev):R Out:=match G d ρ with
 |.ok ρ1=>F ρ1
 |_=>.bad
@[simp]def bZ (i:Nat)(F:Ev->R Out)(d:D)(ρ:Ev):iV (λd ρ=>.ok (ρ.set i (Sl.v d))) F d ρ=F (ρ.set i (.v d)):=rfl
theorem kD (Iv:Ev->Prop):∀{ds:List D} {ρ:Ev},(∀d∈ds,∀ρ,Iv ρ->∃ρ2,iV G F d ρ=.ok (.nx ρ2)/\Iv ρ2)->Iv ρ->∃au,X5 G F ds ρ=.ok (.nx au)/\Iv au
 |[],ρ,_,h=>⟨ρ,rfl,h⟩
 |d::ds,ρ,ht,h=>by
  obtain⟨ρ2,e,h2⟩:=ht d aAK ρ h;obtain⟨au,e',h'⟩:=kD Iv (ds:=ds) (ρ:=ρ2) (λd hd=>ht d (aAd _ hd)) h2;unfold iV at e;cases e1:G d ρ with
  |ok ρ1=>rw[e1]at e;exact⟨au,by rw[X5,e1];dsimp only at e⊢;rw[e];exact e',h'⟩
  |ex x=>rw[e1]at e;cases e
  |bad=>rw[e1]at e;cases e
def NR (Iv:Ev->Prop)(ht:∀d∈ds,∀ρ,Iv ρ->∃ρ2,iV G F d ρ=.ok (.nx ρ2)/\Iv ρ2)(h0:Iv ρ)(h2:∀au,Iv au->T6 (F2 au)=.ok d):
  T6 (G8 (X5 G F ds ρ) F2)=.ok d:=by
 obtain⟨au,e,h⟩:=kD Iv ht h0;rw[e];exact h2 au h
@[simp]def jw (G:D->Ev->R Ev)(F:Ev->R Out)(ρ:Ev):X5 G F [] ρ=.ok (.nx ρ):=rfl
def NV {α:Type}{a b:α}:(R.ok a=R.ok b)=(a=b):=by simp
end DL
namespace DL
open PySem L2
class Bd (a:Int)(n:outParam Nat):Prop where
 h:bits a<=n
def A8 (h:bits a<=m)(hm:m<=n):bits a<=n:=aAr h hm
section
instance Bd.add [p:Bd a m][q:Bd b n]:Bd (a+b) (m+n+1):=⟨bits_add (A8 p.h<|aCq m n) (A8 q.h<|aFt n m)⟩
instance Bd.sub [p:Bd a m][q:Bd b n]:Bd (a-b) (m+n+1):=⟨bits_sub (A8 p.h<|aCq m n) (A8 q.h<|aFt n m)⟩
instance Bd.mul [p:Bd a m][q:Bd b n]:Bd (a*b) (m+n):=⟨bits_mul p.h q.h⟩
instance Bd.neg [p:Bd a m]:Bd (-a) m:=⟨bits_neg p.h⟩
instance Bd.fdiv [p:Bd a m]:Bd (a.fdiv b) m:=⟨bits_fdiv p.h⟩
end
instance Bd.l0:Bd 0 1:=⟨by decide⟩
instance Bd.l1:Bd 1 1:=⟨by decide⟩
instance Bd.l2:Bd 2 2:=⟨by decide⟩
instance Bd.l3:Bd 3 2:=⟨by decide⟩
instance Bd.l4:Bd 4 3:=⟨by decide⟩
instance Bd.l5:Bd 5 3:=⟨by decide⟩
instance Bd.l6:Bd 6 3:=⟨by decide⟩
instance Bd.l7:Bd 7 3:=⟨by decide⟩
instance Bd.l9:Bd 9 4:=⟨by decide⟩
instance Bd.l10:Bd 10 4:=⟨by decide⟩
abbrev vd (v:G.V):D:=.tup [.int v.x,.int v.y,.int v.z]
def Sz (n:Nat)(v:G.V):Prop:=bits v.x<=n/\bits v.y<=n/\bits v.z<=n
def Sz.mono (h:Sz m v)(hm:m<=n:=by decide):Sz n v:=⟨A8 h.1 hm,A8 h.2.1 hm,A8 h.2.2 hm⟩
def Sz.sub (h:Sz n u)(h':Sz n v):Sz (n+1) (u-v):=⟨bits_sub h.1 h'.1,bits_sub h.2.1 h'.2.1,bits_sub h.2.2 h'.2.2⟩
def Sz.add (h:Sz n u)(h':Sz n v):Sz (n+1) (u+v):=⟨bits_add h.1 h'.1,bits_add h.2.1 h'.2.1,bits_add h.2.2 h'.2.2⟩
def Sz.cr (h:Sz m u)(h':Sz n v):Sz (m+n+1) (G.cr u v):=⟨bits_sub (bits_mul h.2.1 h'.2.2) (bits_mul h.2.2 h'.2.1),bits_sub (bits_mul h.2.2 h'.1) (bits_mul h.1 h'.2.2),bits_sub (bits_mul h.1 h'.2.1) (bits_mul h.2.1 h'.1)⟩
end DL
namespace M
open PySem L2 DL
abbrev pt (a b c:Int):D:=.tup [.int a,.int b,.int c]
abbrev WS (n:Nat)(a b c:Int):Prop:=bits a<=n/\bits b<=n/\bits c<=n
def v1 (k:Int->Int->Int->List D->R D):List D->R D
 |.tup [.int a,.int b,.int c]::ds=>k a b c ds
 |_=>.bad
def v4 (k:Int->Int->Int->Int->List D->R D):List D->R D
 |.tup [.int a,.int b,.int c,.int d]::ds=>k a b c d ds
 |_=>.bad
def FO (k:List D->List D->R D):List D->R D
 |.lst xs::ds=>k xs ds
 |_=>.bad
def ny (k:List D->List D->R D):List D->R D
 |.tup xs::ds=>k xs ds
 |_=>.bad
def itD (k:Int->List D->R D):List D->R D
 |.int a::ds=>k a ds
 |_=>.bad
def YL {k:Int->List D->R D}{ds:List D}{r:D}(h:itD k ds=.ok r):∃a e,ds=.int a::e/\k a e=.ok r:=by
 unfold itD at h;split at h
 ·exact⟨_,_,rfl,h⟩
 ·cases h
def jZ (q:R D):List D->R D
 |[]=>q
 |_=>.bad
def K5 (h:v1 k ds=.ok r):∃a b c e,ds=.tup [.int a,.int b,.int c]::e/\k a b c e=.ok r:=by
 unfold v1 at h;split at h
 ·exact⟨_,_,_,_,rfl,h⟩
 ·cases h
def WY (h:v4 k ds=.ok r):∃a b c d e,ds=.tup [.int a,.int b,.int c,.int d]::e/\k a b c d e=.ok r:=by
 unfold v4 at h;split at h
 ·exact⟨_,_,_,_,_,rfl,h⟩
 ·cases h
def dR (h:FO k ds=.ok r):∃xs e,ds=.lst xs::e/\k xs e=.ok r:=by
 unfold FO at h;split at h
 ·exact⟨_,_,rfl,h⟩
 ·cases h
def NF (h:ny k ds=.ok r):∃xs e,ds=.tup xs::e/\k xs e=.ok r:=by
 unfold ny at h;split at h
 ·exact⟨_,_,rfl,h⟩
 ·cases h
def C6 (h:jZ q ds=.ok r):ds=[]/\q=.ok r:=by
 unfold jZ at h;split at h
 ·exact⟨rfl,h⟩
 ·cases h
def v3 (k:Int->Int->Int->List D->R D):List D->R D
 |.tup (.int a::.int b::.int c::_)::ds=>k a b c ds
 |_=>.bad
def kz (h:v3 k ds=.ok r):∃a b c t e,ds=.tup (.int a::.int b::.int c::t)::e/\k a b c e=.ok r:=by
 unfold v3 at h;split at h
 ·exact⟨_,_,_,_,_,rfl,h⟩
 ·cases h
def v9:List D->R D:=v1 λa b c=>v1 λa' b' c'=>jZ (.ok (pt (a'-a) (b'-b)<|c'-c))
def B8:List D->R D:=v1 λa b c=>v1 λd e f=>jZ (if WS 20000000 a b c/\WS 20000000 d e f then .ok (pt (b*f-c*e) (c*d-a*f)<|a*e-b*d)else .bad)
def t6:List D->R D:=v3 λa b c=>v1 λd e f=>jZ (if WS 50000000 a b c/\WS 50000000 d e f then .ok (.int (a*d+b*e+c*f))else .bad)
@[simp]def ZV (P Q:G.V):v9 [vd P,vd Q]=.ok (vd (Q-P)):=rfl
def dJ (h1:Sz 20000000 u)(h2:Sz 20000000 v):B8 [vd u,vd v]=.ok (vd (G.cr u v)):=if_pos ⟨h1,h2⟩
def Y2 (h1:Sz 50000000 u)(h2:Sz 50000000 v):t6 [vd u,vd v]=.ok (.int (G.f8 u v)):=if_pos ⟨h1,h2⟩
def rule (k:Int):Int:=7*k*k+10*k+3
def X6:List D->R D
 |[.lst xs,.int k]=>if 0<=k/\k<=1000 then .ok (yS rule xs k)else .bad
 |_=>.bad
def R6:List D->R D
 |[d]=>.ok (.bl (N3 d))
 |_=>.bad
def P64:Int:=10^64
def P34:Int:=10^34
def a3m:Int:=P64*P34
def eU (hi:Z9 1048576 xs)(k:Int)(h0:0<=k)(h1:k<=100):∃c,X6 [.lst xs,.int k]=.ok (.int c)/\bits c<=2000000:=by
 obtain⟨c,e,hb⟩:=HG hi rule k;refine⟨c,(if_pos ⟨h0,by omega⟩).trans (congrArg R.ok e),?_⟩;rcases hb with hb|rfl
 ·exact B5 hb
 ·unfold rule;have hk:bits k<=10:=k9 (by omega) (by omega);have h7:bits (7*k)<=20:=B5 (bits_mul (show bits 7<=10 by decide) hk);have h10:bits (10*k)<=40:=B5 (bits_mul (show bits 10<=10 by decide) hk);exact B5 (bits_add (n:=41) (bits_add (n:=40) (B5<|bits_mul h7 hk) h10) (show bits 3<=41 by decide))
def sgn (x:Int):Int:=if 0<x then 1 else if x<0 then-1 else 0
def aV:List D->R D:=v4 λa b c d=>v1 λx y z=>jZ (if WS 50000000 a b c/\WS 50000000 x y z then .ok (.int (sgn<|a*x+b*y+c*z-d))else .bad)
def SQ (h1:WS 50000000 a b c)(h2:WS 50000000 x y z):aV [.tup [.int a,.int b,.int c,.int d],pt x y z]=.ok (.int (sgn (a*x+b*y+c*z-d))):=if_pos ⟨h1,h2⟩
def xx (i:Nat)(ρ:Ev):Nat:=match ρ[i]? with
 |some (.v (.int b))=>b.natAbs+2
 |_=>0
def yK (ha:bits a<=n)(hb:bits b<=n):bits (aGf a b)<=n:=by
 refine DP ?_;have h1:=DN ha;have h2:=DN hb;have e:((aGf a b:Nat):Int).natAbs=aGf a b:=by simp
 rw[e];unfold aGf;rcases Nat.eq_zero_or_pos a.natAbs with z|z
 ·rw[z,Nat.gcd_zero_left];exact h2
 ·exact aCH (Nat.gcd_le_left _ z) h1
end M
namespace G
def y6 (v:V):v-v=0:=ext (by simp) (by simp) (by simp)
def fF (a u:V):i4 a u 0=0:=by simp[i4,f8]
def L5 (a u v:V):i4 a u (-v)=-i4 a u v:=by simp[i4,f8];grind
def aU (a u v:V):i4 a (-u) v=-i4 a u v:=by simp[i4,f8];grind
structure Row (n:V)(Pos:V->Prop)(T:V->Prop):Prop where
 cone:Cone Pos
 nz:n≠0
 pl:∀X Y,T X->T Y->f8 n (X-Y)=0
 tot:∀X Y,T X->T Y->X=Y\/Pos (X-Y)\/Pos (Y-X)
def Lft (n:V)(Pos:V->Prop)(a b X:V):Prop:=0<=i4 n (b-a) (X-a)/\(i4 n (b-a) (X-a)=0->(X=a\/Pos (X-a))/\(X=b\/Pos (b-X)))
def turn (n P Q R:V):Int:=i4 n (Q-P) (R-Q)
def X9 (n P:V):List V->List V
 |b::a::r=>if turn n a b P<=0 then X9 n P (a::r)else b::a::r
 |r=>r
def A6 (n:V)(ps:List V):List V:=ps.foldl (λc P=>P::X9 n P c) []
def F5:List V->List (V×V)
 |b::a::r=>(a,b)::F5 (a::r)
 |_=>[]
def rT (n:V):List V->Prop
 |b::a::a'::r=>0<i4 n (a-a') (b-a)/\rT n (a::a'::r)
 |_=>True
def rT.tail (h:rT n (b::r)):rT n r:=by
 match r,h with
 |[],_=>trivial
 |[_],_=>trivial
 |_::_::_,h=>exact h.2
def P4 (h:e∈F5 r):e∈F5 (b::r):=by
 match r,h with
 |a::r,h=>exact aAd _ h
section
variable{n:V} {Pos:V->Prop} {T:V->Prop} (F:Row n Pos T)
include F
structure ChOk (n:V)(Pos:V->Prop)(done:V->Prop)(c:List V):Prop where
 mem:∀X∈c,done X
 ed:∀e∈F5 c,Pos (e.2-e.1)/\∀X,done X->Lft n Pos e.1 e.2 X
 bend:rT n c
 last:∀X,done X->∀z,c.getLast?=some z->X=z\/Pos (X-z)
theorem Row.ac7 {done:V->Prop}(hd:∀X,done X->T X)(hx:Pos x)(hn:f8 n x=0):∀(c:List V),(∀X∈c,done X)->(∀e∈F5 c,Pos (e.2-e.1))->rT n c->(∀b a r,c=b::a::r->0<i4 n (b-a) x)->∀e∈F5 c,0<i4 n (e.2-e.1) x
 |[],_,_,_,_,e,he=>by cases he
 |[_],_,_,_,_,e,he=>by cases he
 |[b,a],_,_,_,h,e,he=>by simp[F5]at he;subst he;exact h b a [] rfl
 |b::a::a'::r,hm,hp,hb,h,e,he=>by
  have hba:=h b a _ rfl;rcases aAe.mp he with q|q
  ·subst q;exact hba
  ·refine Row.ac7 hd hx hn (a::a'::r) (λX hX=>hm X (aAd _ hX)) (λe he=>hp e (P4 he)) hb.tail ?_ e q;intro b1 a1 r1 e1;injection e1 with e1 e2;injection e2 with e2 e3;subst e1 e2;have p1:=hp (a',a) (P4 (by simp[F5]));have p2:=hp (a,b) (by simp[F5]);exact F.cone.tr p1 p2 hx (F4 F.nz (F.pl _ _ (hd _ (hm _ (by simp))) (hd _ (hm _ (by simp)))) (F.pl _ _ (hd _ (hm _ (by simp))) (hd _ (hm _ (by simp)))) hn) hb.1 (aAZ hba)
theorem Row.weak (hu:Pos u)(hv:Pos v)(hw:Pos w)(pu:f8 n u=0)(pv:f8 n v=0)(pw:f8 n w=0)(h1:0<=i4 n u v)(h2:0<=i4 n v w):0<=i4 n u w:=by
 have hf:=F4 F.nz pu pv pw;by_cases z1:0<i4 n u v
 ·exact aAZ (F.cone.tr hu hv hw hf z1 h2)
 ·by_cases z2:0<i4 n v w
  ·exact aAZ (F.cone.tr' hu hv hw hf h1 z2)
  ·have e1:i4 n u v=0:=by lia
   have e2:i4 n v w=0:=by lia
   have h:=GR n u v w;rw[e1,e2,hf,v5,v5,v5,fW,fW]at h;by_cases z:i4 n w u=0
   ·rw[j8];lia
   ·exfalso;have e:v=0:=by have hx:=congrArg V.x h;have hy:=congrArg V.y h;have hz:=congrArg V.z h;simp at hx hy hz;exact ext ((aAI.mp hx).resolve_left z) ((aAI.mp hy).resolve_left z) ((aAI.mp hz).resolve_left z)
    rw[e]at hv;exact F.cone.irr hv
theorem Row.ad0 {done:V->Prop}(hd:∀X,done X->T X)(hP:T P)(av:∀X,done X->Pos (P-X)):∀(c:List V),ChOk n Pos done c->c≠[]->
  (∀X q,c.head?=some q->done X->(X=q\/Pos (X-q))->0<=i4 n (P-q) (X-q))->
  ∃q r,X9 n P c=q::r/\ChOk n Pos done (q::r)/\(∀X,done X->(X=q\/Pos (X-q))->0<=i4 n (P-q) (X-q))/\∀a r',r=a::r'->0<turn n a q P
 |[],_,h,_=>absurd rfl h
 |[b],ok,_,hh=>⟨b,[],rfl,ok,λX hX h=>hh X b rfl hX h,λa r' e=>by cases e⟩
 |b::a::r,ok,_,hh=>by
  by_cases ht:turn n a b P<=0
  ·have e:X9 n P (b::a::r)=X9 n P (a::r):=by rw[X9,if_pos ht]
   rw[e];have db:=ok.mem b (by simp);have da:=ok.mem a (by simp);have eb:=ok.ed (a,b) (by simp[F5]);refine Row.ad0 hd hP av (a::r) ⟨λX hX=>ok.mem X (aAd _ hX),λe he=>ok.ed e (P4 he),ok.bend.tail,λX hX z hz=>ok.last X hX z (by rw[aBa];exact hz)⟩ (by simp) ?_;intro X q hq hX hXq;have hq':a=q:=aAj hq;subst hq';have hu:Pos (b-a):=eb.1;have hp:Pos (P-b):=av b db;have tf:Pos (P-a):=av a da;have pu:f8 n (b-a)=0:=F.pl _ _ (hd _ db) (hd _ da);have pp:f8 n (P-b)=0:=F.pl _ _ hP (hd _ db);have ppa:f8 n (P-a)=0:=F.pl _ _ hP (hd _ da);unfold turn at ht;have hpu:0<=i4 n (P-b) (b-a):=by rw[j8];lia
   rcases F.tot X b (hd X hX) (hd b db)with z|z|z
   ·
    subst z;have e1:P-a=(P-X)+(X-a):=ext (by simp;lia) (by simp;lia) (by simp;lia);rw[e1,aT,C7];lia
   ·
    have hx:=hh X b rfl hX (.inr z);have px:f8 n (X-b)=0:=F.pl _ _ (hd _ hX) (hd _ db);have hPX:Pos (P-X):=av X hX;have key:i4 n (P-a) (X-a)*(P-b)=i4 n (P-b) (X-b)*(P-a)+i4 n (P-b) (b-a)*(P-X):=by
     have hr:=GR n (b-a) (X-b) (P-b);rw[F4 F.nz pu px pp,v5]at hr;have e1:P-a=(b-a)+(P-b):=ext (by simp;lia) (by simp;lia) (by simp;lia);have e2:X-a=(b-a)+(X-b):=ext (by simp;lia) (by simp;lia) (by simp;lia);have e3:P-X=(P-b)-(X-b):=ext (by simp;lia) (by simp;lia) (by simp;lia);rw[e1,e2,e3];generalize b-a=u at*
     generalize X-b=x at*
     generalize P-b=p at*
     rw[aT,aP,aP,C7];have hx:=congrArg V.x hr;have hy:=congrArg V.y hr;have hz:=congrArg V.z hr;rw[j8 n p x]at hr hx hy hz;simp at hx hy hz;have s1:=j8 n p x;have s2:=j8 n p u;have s3:=j8 n u x;apply ext<;>simp<;>grind
    by_cases zz:0<=i4 n (P-a) (X-a)
    ·exact zz
    ·exfalso;have h1:Pos ((-i4 n (P-a) (X-a))*(P-b)):=F.cone.mul (by lia) hp;have h2:Pos (-i4 n (P-a) (X-a)*(P-b)+(i4 n (P-b) (X-b)*(P-a)+i4 n (P-b) (b-a)*(P-X))):=by
      by_cases y1:i4 n (P-b) (X-b)=0
      ·rw[y1,v5,fW];by_cases y2:i4 n (P-b) (b-a)=0
       ·rw[y2,v5,pG];exact h1
       ·exact F.cone.add h1 (F.cone.mul (by lia) hPX)
      ·exact F.cone.add h1 (F.cone.comb (by lia) hpu tf hPX)
     rw[<-key]at h2;have e0:-i4 n (P-a) (X-a)*(P-b)+i4 n (P-a) (X-a)*(P-b)=0:=by apply ext<;>simp<;>grind
     rw[e0]at h2;exact F.cone.irr h2
   ·
    rcases hXq with hXa|hXa
    ·subst hXa;rw[y6,fF];exact aCM _
    ·have hl:=(eb.2 X hX).1;have hpu':0<=i4 n (P-a) (b-a):=by have e1:P-a=(P-b)+(b-a):=ext (by simp;lia) (by simp;lia) (by simp;lia);rw[e1,aT,C7];lia
     exact F.weak tf hu hXa ppa pu (F.pl _ _ (hd _ hX)<|hd _ da) hpu' hl
  ·have e:X9 n P (b::a::r)=b::a::r:=by rw[X9,if_neg ht]
   refine⟨b,a::r,e,ok,λX hX h=>hh X b rfl hX h,λa' r' e'=>?_⟩;injection e' with e1 _;subst e1
   lia
theorem Row.push {done:V->Prop}(hd:∀X,done X->T X)(hP:T P)(av:∀X,done X->Pos (P-X))(ok:ChOk n Pos done c)(hc:c≠[])(hh:∀X q,c.head?=some q->done X->X=q\/Pos (q-X)):
  ChOk n Pos (λX=>done X\/X=P) (P::X9 n P c):=by
 obtain⟨q,r,e,ni,hq,ht⟩:=F.ad0 hd hP av c ok hc (λX q hq hX h=>by
  rcases h with h|h
  ·subst h;rw[y6,fF];exact aCM _
  ·exfalso;rcases hh X q hq hX with z|z
   ·subst z;rw[y6]at h;exact F.cone.irr h
   ·have:=F.cone.add h z;have e0:X-q+(q-X)=0:=ext (by simp;lia) (by simp;lia) (by simp;lia);rw[e0]at this;exact F.cone.irr this)
 rw[e];have dq:=ni.mem q (by simp);have hpq:Pos (P-q):=av q dq;have ppq:f8 n (P-q)=0:=F.pl _ _ hP (hd _ dq);refine⟨λX hX=>?_,λg he=>?_,?_,λX hX z hz=>?_⟩
 ·rcases aAe.mp hX with h|h
  ·exact .inr h
  ·exact .inl (ni.mem X h)
 ·rcases aAe.mp he with h|h
  ·subst h;refine⟨hpq,λX hX=>?_⟩;rcases hX with hX|hX
   ·rcases F.tot X q (hd _ hX) (hd _ dq)with z|z|z
    ·subst z;exact⟨by rw[y6,fF];exact aCM _,λ_=>⟨.inl rfl,.inr hpq⟩⟩
    ·exact⟨hq X hX (.inr z),λ_=>⟨.inr z,.inr (av X hX)⟩⟩
    ·
     have:0<i4 n (P-q) (X-q):=by
      match r,ht,ni with
      |[],_,ni=>
       rcases ni.last X hX q rfl with y|y
       ·subst y;rw[y6]at z;exact absurd z F.cone.irr
       ·exfalso;have:=F.cone.add y z;have e0:X-q+(q-X)=0:=ext (by simp;lia) (by simp;lia) (by simp;lia);rw[e0]at this;exact F.cone.irr this
      |a::r',ht,ni=>
       have h1:=ht a r' rfl;unfold turn at h1;have da:=ni.mem a (by simp);have ea:=ni.ed (a,q) (by simp[F5]);have hl:=(ea.2 X hX).1;have e1:X-a=(q-a)-(q-X):=ext (by simp;lia) (by simp;lia) (by simp;lia);dsimp only at hl;rw[e1,LG,C7]at hl;have jb:0<=i4 n (q-X) (q-a):=by rw[j8];lia
       have:=F.cone.tr' (a:=n) z ea.1 hpq (F4 F.nz (F.pl _ _ (hd _ dq)<|hd _ hX) (F.pl _ _ (hd _ dq)<|hd _ da) ppq) jb h1;have e2:X-q=-(q-X):=ext (by simp;lia) (by simp;lia) (by simp;lia);rw[e2,L5,j8];lia
     exact⟨aAZ this,λz=>by dsimp only at z;lia⟩
   ·subst hX;exact⟨by rw[C7];exact aCM _,λ_=>⟨.inr hpq,.inl rfl⟩⟩
  ·
   have hed:=ni.ed g h;refine⟨hed.1,λX hX=>?_⟩;rcases hX with hX|hX
   ·exact hed.2 X hX
   ·subst hX;have h1:=F.ac7 hd hpq ppq (q::r) ni.mem (λe he=>(ni.ed e he).1) ni.bend (λb a r' e'=>by injection e' with e1 e2;subst e1;exact ht a r' e2) g h
    have h2:=(hed.2 q dq).1;have:0<i4 n (g.2-g.1) (X-g.1):=by have e1:X-g.1=(q-g.1)+(X-q):=ext (by simp;lia) (by simp;lia) (by simp;lia);rw[e1,aP];lia
    exact⟨aAZ this,λz=>by lia⟩
 ·match r,ht,ni with
  |[],_,_=>trivial
  |a::r',ht,ni=>exact⟨ht a r' rfl,ni.bend⟩
 ·rcases hX with hX|hX
  ·exact ni.last X hX z (by rw[aBa]at hz;exact hz)
  ·subst hX;have hz':(q::r).getLast?=some z:=by rw[aBa]at hz;exact hz
   exact .inr (av z<|ni.mem z<|aEc hz')
end
end G
namespace G
section
variable{n:V} {Pos:V->Prop} {T:V->Prop} (F:Row n Pos T)
include F
theorem ChOk.congr {done done':V->Prop}(ok:ChOk n Pos done c)(h:∀X,done X↔done' X):ChOk n Pos done' c:=
 ⟨λX hX=>(h X).mp (ok.mem X hX),λe he=>⟨(ok.ed e he).1,λX hX=>(ok.ed e he).2 X ((h X).mpr hX)⟩,ok.bend,λX hX=>ok.last X ((h X).mpr hX)⟩
theorem Row.fold:∀(rest:List V) (done:V->Prop) (c:List V),ChOk n Pos done c->c≠[]->(∀X q,c.head?=some q->done X->X=q\/Pos (q-X))->(∀X,done X->T X)->(∀X∈rest,T X)->
  (∀X Y,done X->Y∈rest->Pos (Y-X))->rest.Pairwise (λa b=>Pos (b-a))->
  ChOk n Pos (λX=>done X\/X∈rest) (rest.foldl (λc P=>P::X9 n P c) c)/\rest.foldl (λc P=>P::X9 n P c) c≠[]/\(∀X q,(rest.foldl (λc P=>P::X9 n P c) c).head?=some q->(done X\/X∈rest)->X=q\/Pos (q-X))
 |[],done,c,ok,hc,hh,hd,ht,av,hs=>⟨ChOk.congr F ok λX=>by simp,hc,λX q hq hX=>by
   rcases hX with hX|hX
   ·exact hh X q hq hX
   ·cases hX⟩
 |P::rest,done,c,ok,hc,hh,hd,ht,av,hs=>by
  have hP:=ht P (by simp);have ni:=F.push hd hP (λX hX=>av X P hX (by simp)) ok hc hh;have oi:=aAy.mp hs;obtain⟨h1,h2,h3⟩:=Row.fold rest (λX=>done X\/X=P) (P::X9 n P c) ni (by simp) (λX q hq hX=>by
    have hq':P=q:=aAj hq;subst hq';rcases hX with hX|hX
    ·exact .inr (av X P hX (by simp))
    ·exact .inl hX) (λX hX=>by
    rcases hX with hX|hX
    ·exact hd X hX
    ·subst hX;exact hP) (λX hX=>ht X (aAd _ hX)) (λX Y hX hY=>by
    rcases hX with hX|hX
    ·exact av X Y hX (aAd _ hY)
    ·subst hX;exact oi.1 Y hY) oi.2
  have e:∀X,((done X\/X=P)\/X∈rest)↔(done X\/X∈P::rest):=λX=>by simp[or_assoc]
  exact⟨ChOk.congr F h1 e,h2,λX q hq hX=>h3 X q hq ((e X).mpr hX)⟩
theorem Row.ac8 (bc:ps≠[])(ht:∀X∈ps,T X)(hs:ps.Pairwise (λa b=>Pos (b-a))):
  ChOk n Pos (λX=>X∈ps) (A6 n ps)/\A6 n ps≠[]/\(∀X q,(A6 n ps).head?=some q->X∈ps->X=q\/Pos (q-X)):=by
 match ps,bc with
 |p::rest,_=>
  have oi:=aAy.mp hs;have ok:ChOk n Pos (λX=>X=p) [p]:=⟨λX hX=>by simpa using hX,λe he=>by simp[F5]at he,trivial,λX hX z hz=>by simp at hz;subst hz;exact .inl hX⟩
  obtain⟨h1,h2,h3⟩:=F.fold rest (λX=>X=p) [p] ok (by simp) (λX q hq hX=>by have hq':p=q:=aAj hq;subst hq';exact .inl hX) (λX hX=>by subst hX;exact ht _ (by simp)) (λX hX=>ht X (aAd _ hX)) (λX Y hX hY=>by subst hX;exact oi.1 Y hY) oi.2
  have e:∀X,(X=p\/X∈rest)↔X∈p::rest:=λX=>by simp
  refine⟨ChOk.congr F h1 e,h2,λX q hq hX=>h3 X q hq ((e X).mpr hX)⟩
end
def v6 (n:V)(ts:List V):List V:=(A6 n ts).reverse.dropLast++(A6 n ts.reverse).reverse.dropLast
def u3:List V->List (V×V)
 |a::b::r=>(a,b)::u3 (b::r)
 |_=>[]
theorem lU:∀(l:List V) (a b:V),u3 (l++[a]++[b])=u3 (l++[a])++[(a,b)]
 |[],a,b=>rfl
 |[x],a,b=>rfl
 |x::y::l,a,b=>by have:=lU (y::l) a b;simp only[aBo,u3]at this⊢;rw[this]
theorem gT:∀c:List V,u3 c.reverse=(F5 c).reverse
 |[]=>rfl
 |[_]=>rfl
 |b::a::r=>by
  have ih:=gT (a::r);rw[aAQ,aAQ]at*
  rw[lU,ih,F5,aAQ]
theorem lZ:∀(l:List V) (a:V) (m:List V),u3 (l++a::m)=u3 (l++[a])++u3 (a::m)
 |[],a,m=>by cases m<;>rfl
 |[x],a,m=>rfl
 |x::y::l,a,m=>by have:=lZ (y::l) a m;simp only[aBo,u3]at this⊢;rw[this]
def aN (l:List V):List (V×V):=l.zip (l.tail++l.take 1)
theorem nP:∀(l:List V) (z:V),l.zip (l.tail++[z])=u3 (l++[z])
 |[],z=>rfl
 |[a],z=>rfl
 |a::b::r,z=>by have:=nP (b::r) z;simp only[List.tail_cons,aBo,u3,aBN]at this⊢;rw[this]
def bW:aN (a::l)=u3 (a::l++[a]):=nP (a::l) a
def QB (h1:A6 n ts=M::c)(h2:A6 n ts.reverse=m::d)(h3:(M::c).getLast?=some m)(h4:(m::d).getLast?=some M)(hc:c≠[]):
  aN (v6 n ts)=(F5 (A6 n ts)).reverse++(F5 (A6 n ts.reverse)).reverse:=by
 rw[<-gT,<-gT];unfold v6;rw[h1,h2,aAQ,aAQ,aBD,aBD];have e1:∃c',c.reverse=m::c':=by
  have:c.getLast?=some m:=by
   match c,hc with
   |x::c,_=>rw[aBa]at h3;exact h3
  rw[<-aEF]at this;match hh:c.reverse,this with
  |x::r,this=>exact⟨r,by rw[show x=m from aAj this]⟩
 obtain⟨c',e1⟩:=e1;have e2:∃d',d.reverse++[m]=M::d':=by
  have:(m::d).reverse.head?=some M:=by rw[aEF];exact h4
  rw[aAQ]at this;match hh:d.reverse++[m],this with
  |x::r,this=>exact⟨r,by rw[show x=M from aAj this]⟩
 obtain⟨d',e2⟩:=e2;have e3:c.reverse++d.reverse=m::(c'++d.reverse):=by rw[e1];rfl
 rw[e3,bW];have e4:m::(c'++d.reverse)++[m]=c.reverse++(d.reverse++[m]):=by rw[e1];simp
 rw[e4,e2,lZ]
end G
namespace G
def t4 (a b:V):-(a-b)=b-a:=ext (by simp;lia) (by simp;lia) (by simp;lia)
def y3:S9 (a-b)↔i8 (b-a):=by unfold S9;rw[t4]
def Q1 (h:i8 (a-a)):False:=by rw[y6]at h;exact E8.irr h
def y8 (h:i8 (a-b))(h':i8 (b-a)):False:=by have:=E8.add h h';have e0:a-b+(b-a)=0:=ext (by simp;lia) (by simp;lia) (by simp;lia);rw[e0]at this;exact E8.irr this
def Y4 (a b:V):a=b\/i8 (a-b)\/i8 (b-a):=by
 rcases UP (a-b)with h|h|h
 ·exact .inr (.inl h)
 ·refine .inl (ext ?_ ?_ ?_)
  ·have:=congrArg V.x h;simp at this;lia
  ·have:=congrArg V.y h;simp at this;lia
  ·have:=congrArg V.z h;simp at this;lia
 ·exact .inr (.inr (y3.mp h))
def Btw (P Q X:V):Prop:=(i8 (Q-P)->(X=P\/i8 (X-P))/\(X=Q\/i8 (Q-X)))/\(i8 (P-Q)->(X=P\/i8 (P-X))/\(X=Q\/i8 (X-Q)))
structure EdgeOf (n:V)(T:V->Prop)(P Q:V):Prop where
 p:T P
 q:T Q
 ne:P≠Q
 left:∀X,T X->0<=i4 n (Q-P) (X-P)
 btw:∀X,T X->i4 n (Q-P) (X-P)=0->Btw P Q X
section
variable{n:V} {T:V->Prop}
def EdgeOf.next (h:EdgeOf n T P Q)(h':EdgeOf n T P R):Q=R:=by
 have h1:=h.left R h'.q;have h2:=h'.left Q h.q;rw[j8]at h2;have z1:i4 n (Q-P) (R-P)=0:=by lia
 have z2:i4 n (R-P) (Q-P)=0:=by rw[j8];lia
 have b1:=h.btw R h'.q z1;have b2:=h'.btw Q h.q z2;rcases Y4 Q P with e|e|e
 ·exact absurd e.symm h.ne
 ·have c1:=b1.1 e;have c2:i8 (R-P):=c1.1.resolve_left (aCh h'.ne);rcases c1.2 with q|q
  ·exact q.symm
  ·rcases(b2.1 c2).2 with q'|q'
   ·exact q'
   ·exact(y8 q q').elim
 ·have c1:=b1.2 e;have c2:i8 (P-R):=c1.1.resolve_left (aCh h'.ne);rcases c1.2 with q|q
  ·exact q.symm
  ·rcases(b2.2 c2).2 with q'|q'
   ·exact q'
   ·exact(y8 q q').elim
def qG (n P Q X:V):i4 n (Q-P) (X-P)=i4 n (Q-P) (X-Q):=by have e:X-P=(X-Q)+(Q-P):=ext (by simp;lia) (by simp;lia) (by simp;lia);rw[e,aP,C7];lia
end
theorem CZ {Pos:V->Prop}(X:V):∀(c:List V),(∀Y∈c,X=Y\/Pos (X-Y)\/Pos (Y-X))->(∀q,c.head?=some q->X=q\/Pos (q-X))->(∀z,c.getLast?=some z->X=z\/Pos (X-z))->c≠[]->
  (∀u,Pos u->Pos (-u)->False)->X∈c\/∃a b,(a,b)∈F5 c/\Pos (X-a)/\Pos (b-X)
 |[],_,_,_,h,_=>absurd rfl h
 |[q],_,h1,h2,_,as=>by
  rcases h1 q rfl with e|e
  ·exact .inl (by simp[e])
  ·rcases h2 q rfl with e'|e'
   ·exact .inl (by simp[e'])
   ·exact(as _ e (by rw[t4];exact e')).elim
 |b::a::r,ht,h1,h2,_,as=>by
  rcases h1 b rfl with e|e
  ·exact .inl (by simp[e])
  ·rcases ht a (by simp)with y|y|y
   ·exact .inl (by simp[y])
   ·exact .inr ⟨a,b,by simp[F5],y,e⟩
   ·rcases CZ X (a::r) (λY hY=>ht Y (aAd _ hY)) (λq hq=>by have:a=q:=aAj hq;subst this;exact .inr y) (λz hz=>h2 z (by rw[aBa];exact hz)) (by simp) as with h|⟨a',b',h,h'⟩
    ·exact .inl (aAd _ h)
    ·exact .inr ⟨a',b',P4 h,h'⟩
def Row.ad5 {Pos:V->Prop}{T:V->Prop}(F:Row n Pos T)(ha:T a)(hb:T b)(hP:T P)(hQ:T Q)(h1:Pos (P-a))(h2:Pos (b-P))(h3:Pos (Q-P))(h4:0<=i4 n (b-a) (P-a))(h5:0<i4 n (Q-P) (a-P))(h6:0<=i4 n (Q-P) (b-P)):False:=by
 have e1:i4 n (Q-P) (a-P)=i4 n (P-a) (Q-P):=by have e:a-P=-(P-a):=(t4 _ _).symm;rw[e,L5,j8];lia
 rw[e1]at h5;have:=F.cone.tr h1 h3 h2 (F4 F.nz (F.pl _ _ hP ha) (F.pl _ _ hQ hP)<|F.pl _ _ hb hP) h5 h6;have e2:b-a=(b-P)+(P-a):=ext (by simp;lia) (by simp;lia) (by simp;lia);rw[e2,aT,C7,j8]at h4
 lia
structure Sheet (n:V)(ts:List V):Prop where
 nz:n≠0
 pl:∀X∈ts,∀Y∈ts,f8 n (X-Y)=0
 ord:ts.Pairwise (λa b=>i8 (b-a))
 two:∃X∈ts,∃Y∈ts,X≠Y
section
variable{n:V} {ts:List V} (S:Sheet n ts)
include S
theorem Sheet.row:Row n i8 (λX=>X∈ts):=⟨E8,S.nz,λX Y hX hY=>S.pl X hX Y hY,λX Y _ _=>Y4 X Y⟩
theorem Sheet.ae7:Row n S9 (λX=>X∈ts):=⟨iJ,S.nz,λX Y hX hY=>S.pl X hX Y hY,λX Y _ _=>by
 rcases Y4 X Y with h|h|h
 ·exact .inl h
 ·exact .inr (.inr (y3.mpr h))
 ·exact .inr (.inl (y3.mpr h))⟩
theorem Sheet.ne:ts≠[]:=by obtain⟨X,hX,_⟩:=S.two;intro e;rw[e]at hX;cases hX
theorem Sheet.ab3:ChOk n i8 (λX=>X∈ts) (A6 n ts)/\A6 n ts≠[]/\(∀X q,(A6 n ts).head?=some q->X∈ts->X=q\/i8 (q-X)):=
 S.row.ac8 S.ne (λ_ h=>h) S.ord
theorem Sheet.ab6:ChOk n S9 (λX=>X∈ts) (A6 n ts.reverse)/\A6 n ts.reverse≠[]/\(∀X q,(A6 n ts.reverse).head?=some q->X∈ts->X=q\/S9 (q-X)):=by
 have h:=S.ae7.ac8 (ps:=ts.reverse) (by simpa using S.ne) (λX h=>by simpa using h) (by rw[aDU];exact S.ord.imp λh=>y3.mpr h)
 obtain⟨h1,h2,h3⟩:=h;exact⟨ChOk.congr S.ae7 h1 λX=>by simp,h2,λX q hq hX=>h3 X q hq (by simpa using hX)⟩
theorem Sheet.af2 (h:(a,b)∈F5 (A6 n ts))(ha:a∈ts)(hb:b∈ts):EdgeOf n (λX=>X∈ts) a b/\i8 (b-a):=by obtain⟨e1,e2⟩:=S.ab3.1.ed _ h;dsimp only at e1 e2;refine⟨⟨ha,hb,λe=>by subst e;exact Q1 e1,λX hX=>(e2 X hX).1,λX hX z=>⟨λ_=>(e2 X hX).2 z,λy=>(y8 e1 y).elim⟩⟩,e1⟩
theorem Sheet.af0 (h:(a,b)∈F5 (A6 n ts.reverse))(ha:a∈ts)(hb:b∈ts):EdgeOf n (λX=>X∈ts) a b/\i8 (a-b):=by obtain⟨e1,e2⟩:=S.ab6.1.ed _ h;dsimp only at e1 e2;have e1':=y3.mp e1;refine⟨⟨ha,hb,λe=>by subst e;exact Q1 e1',λX hX=>(e2 X hX).1,λX hX z=>⟨λy=>(y8 e1' y).elim,λ_=>?_⟩⟩,e1'⟩;obtain⟨q1,q2⟩:=(e2 X hX).2 z;exact⟨q1.imp id y3.mp,q2.imp id y3.mp⟩
theorem V6 (h:(a,b)∈F5 c):a∈c/\b∈c:=by
 induction c with
 |nil=>cases h
 |cons x c ih=>
  match c,h,ih with
  |[],h,_=>cases h
  |y::r,h,ih=>
   rcases aAe.mp h with e|e
   ·cases e;simp
   ·have:=ih e;exact⟨aAd _ this.1,aAd _ this.2⟩
theorem Sheet.ends:∃m M c d,m∈ts/\M∈ts/\i8 (M-m)/\(∀X∈ts,X=m\/i8 (X-m))/\(∀X∈ts,X=M\/i8 (M-X))/\A6 n ts=M::c/\A6 n ts.reverse=m::d/\(M::c).getLast?=some m/\(m::d).getLast?=some M/\c≠[]/\d≠[]:=by
 obtain⟨o1,n1,h1⟩:=S.ab3;obtain⟨o2,n2,h2⟩:=S.ab6;obtain⟨M,c,e1⟩:=aEx n1;obtain⟨m,d,e2⟩:=aEx n2;have hM:M∈ts:=o1.mem M (by rw[e1];simp);have hm:m∈ts:=o2.mem m (by rw[e2];simp);have lM:∀X∈ts,X=M\/i8 (M-X):=λX hX=>h1 X M (by rw[e1];rfl) hX;have lm:∀X∈ts,X=m\/i8 (X-m):=λX hX=>(h2 X m (by rw[e2];rfl) hX).imp id y3.mp;obtain⟨z,hz⟩:∃z,(M::c).getLast?=some z:=by simp[aEG]
 obtain⟨y,hy⟩:∃z,(m::d).getLast?=some z:=by simp[aEG]
 have zm:z=m:=by
  have zt:z∈ts:=o1.mem z (by rw[e1];exact aEc hz);rcases o1.last m hm z (by rw[e1];exact hz)with e|e
  ·exact e.symm
  ·rcases lm z zt with e'|e'
   ·exact e'
   ·exact(y8 e e').elim
 have yM:y=M:=by
  have yt:y∈ts:=o2.mem y (by rw[e2];exact aEc hy);rcases o2.last M hM y (by rw[e2];exact hy)with e|e
  ·exact e.symm
  ·rcases lM y yt with e'|e'
   ·exact e'
   ·exact(y8 (y3.mp e) e').elim
 subst zm yM;have mM:i8 (y-z):=by
  obtain⟨X,hX,Y,hY,ne⟩:=S.two;rcases lm y hM with e|e
  ·exfalso;subst e;have k:∀W∈ts,W=y:=λW hW=>by
    rcases lm W hW with e|e
    ·exact e
    ·rcases lM W hW with e'|e'
     ·exact e'
     ·exact(y8 e e').elim
   exact ne ((k X hX).trans (k Y hY).symm)
  ·exact e
 refine⟨z,y,c,d,hm,hM,mM,lm,lM,e1,e2,hz,hy,λe=>?_,λe=>?_⟩
 ·subst e;have:y=z:=by simpa using hz
  subst this;exact Q1 mM
 ·subst e;have:z=y:=by simpa using hy
  subst this;exact Q1 mM
theorem Sheet.pair (h:(P,Q)∈aN (v6 n ts)):EdgeOf n (λX=>X∈ts) P Q:=by
 obtain⟨m,M,c,d,hm,hM,mM,lm,lM,e1,e2,h3,h4,hc,hd⟩:=S.ends;rw[QB e1 e2 h3 h4 hc,aAH,aDd,aDd]at h;rcases h with h|h
 ·have:=V6 S h;exact(S.af2 h (S.ab3.1.mem _ this.1)<|S.ab3.1.mem _ this.2).1
 ·have:=V6 S h;exact(S.af0 h (S.ab6.1.mem _ this.1)<|S.ab6.1.mem _ this.2).1
theorem wK (h:P∈l):∃Q,(P,Q)∈aN l:=by
 obtain⟨i,hi,e⟩:=aBi h;have hl:l.length=(l.tail++l.take 1).length:=by
  match l,hi with
  |a::l,_=>simp
 refine⟨(l.tail++l.take 1)[i]'(by lia),?_⟩;unfold aN;refine List.mem_of_getElem (i:=i) (h:=by rw[List.length_zip];lia) ?_;rw[List.getElem_zip,e]
theorem Sheet.ae6 (h:EdgeOf n (λX=>X∈ts) P Q):P∈v6 n ts:=by
 obtain⟨m,M,c,d,hm,hM,mM,lm,lM,e1,e2,h3,h4,hc,hd⟩:=S.ends;obtain⟨o1,n1,t1⟩:=S.ab3;obtain⟨o2,n2,t2⟩:=S.ab6;unfold v6;rw[aAH,e1,e2,aAQ,aAQ,aBD,aBD,aDd,aDd];rcases Y4 Q P with e|e|e
 ·exact absurd e.symm h.ne
 ·
  left;rcases CZ (Pos:=i8) P (A6 n ts) (λY _=>Y4 P Y) (λq hq=>t1 P q hq h.p) (λz hz=>o1.last P h.p z hz) n1 (λu a b=>by have:=E8.add a b;have e0:u+-u=0:=ext (by simp;lia) (by simp;lia) (by simp;lia);rw[e0]at this;exact E8.irr this)with r|⟨a,b,r,r1,r2⟩
  ·rw[e1]at r;rcases aAe.mp r with q|q
   ·subst q;rcases lM Q h.q with y|y
    ·exact absurd y.symm h.ne
    ·exact(y8 e y).elim
   ·exact q
  ·exfalso;have mm:=V6 S r;have ta:=o1.mem _ mm.1;have tb:=o1.mem _ mm.2;have z5:=h.left a ta;have z5':i4 n (Q-P) (a-P)≠0:=λz=>by
    rcases((h.btw a ta z).1 e).1 with y|y
    ·subst y;exact Q1 r1
    ·exact y8 r1 y
   exact S.row.ad5 ta tb h.p h.q r1 r2 e ((o1.ed _ r).2 P h.p).1 (by lia) (h.left b tb)
 ·right;rcases CZ (Pos:=S9) P (A6 n ts.reverse) (λY _=>S.ae7.tot P Y h.p (by rename_i hY;exact o2.mem Y hY)) (λq hq=>t2 P q hq h.p) (λz hz=>o2.last P h.p z hz) n2 (λu a b=>by have:=iJ.add a b;have e0:u+-u=0:=ext (by simp;lia) (by simp;lia) (by simp;lia);rw[e0]at this;exact iJ.irr this)with r|⟨a,b,r,r1,r2⟩
  ·rw[e2]at r;rcases aAe.mp r with q|q
   ·subst q;rcases lm Q h.q with y|y
    ·exact absurd y.symm h.ne
    ·exact(y8 e y).elim
   ·exact q
  ·exfalso;have mm:=V6 S r;have ta:=o2.mem _ mm.1;have tb:=o2.mem _ mm.2;have z5:=h.left a ta;have r1':=y3.mp r1;have z5':i4 n (Q-P) (a-P)≠0:=λz=>by
    rcases((h.btw a ta z).2 e).1 with y|y
    ·subst y;exact Q1 r1'
    ·exact y8 r1' y
   exact S.ae7.ad5 ta tb h.p h.q r1 r2 (y3.mpr e) ((o2.ed _ r).2 P h.p).1 (by lia) (h.left b tb)
theorem Sheet.aa1:(P,Q)∈aN (v6 n ts)↔EdgeOf n (λX=>X∈ts) P Q:=by
 refine⟨S.pair,λh=>?_⟩;obtain⟨R,hR⟩:=wK S (S.ae6 h);have:=(S.pair hR).next h
 subst this;exact hR
end
end G
namespace G
theorem M9 {Pos:V->Prop}(C:Cone Pos):∀(c:List V),(∀e∈F5 c,Pos (e.2-e.1))->c.Pairwise (λb a=>Pos (b-a))
 |[],_=>aGe
 |[x],_=>aDG _ _
 |b::a::r,h=>by
  have ih:=M9 C (a::r) (λe he=>h e (P4 he));have h0:=h (a,b) (by simp[F5]);refine aAy.mpr ⟨λy hy=>?_,ih⟩;rcases aAe.mp hy with e|e
  ·subst e;exact h0
  ·have:=(aAy.mp ih).1 y e;have s:=C.add h0 this;have e0:b-a+(a-y)=b-y:=ext (by simp;lia) (by simp;lia) (by simp;lia);dsimp only at s
   rwa [e0]at s
theorem kW:∀{h:V} {c:List V} {X:V},X∈c->∃b,(X,b)∈F5 (h::c)
 |h,[],X,hX=>by cases hX
 |h,a::r,X,hX=>by
  rcases aAe.mp hX with e|e
  ·subst e;exact⟨h,by simp[F5]⟩
  ·obtain⟨b,hb⟩:=kW (h:=a) e;exact⟨b,P4 hb⟩
section
variable{n:V} {ts:List V} (S:Sheet n ts)
include S
theorem Sheet.aa6 (h:X∈v6 n ts):X∈ts:=by obtain⟨Q,hQ⟩:=wK S h;exact(S.pair hQ).p
theorem Sheet.aa7:(v6 n ts).Nodup:=by
 obtain⟨m,M,c,d,hm,hM,mM,lm,lM,e1,e2,h3,h4,hc,hd⟩:=S.ends;obtain⟨o1,n1,t1⟩:=S.ab3;obtain⟨o2,n2,t2⟩:=S.ab6;unfold v6;rw[e1,e2,aAQ,aAQ,aBD,aBD];have p1:=M9 E8 (A6 n ts) λe he=>(o1.ed e he).1;have p2:=M9 iJ (A6 n ts.reverse) λe he=>(o2.ed e he).1;rw[e1]at p1;rw[e2]at p2;have q1:=(aAy.mp p1).2;have q2:=(aAy.mp p2).2;rw[aCT];refine⟨?_,?_,?_⟩
 ·rw[aBW,aDU];exact q1.imp λ{a b} h e=>by subst e;exact Q1 h
 ·rw[aBW,aDU];exact q2.imp λ{a b} h e=>by subst e;exact Q1 (y3.mp h)
 ·intro x hx y hy e;subst e;rw[aDd]at hx hy;obtain⟨b,hb⟩:=kW (h:=M) hx;obtain⟨b',qe⟩:=kW (h:=m) hy;rw[<-e1]at hb;rw[<-e2]at qe;have m1:=V6 S hb;have m2:=V6 S qe;obtain⟨g1,l1⟩:=S.af2 hb (o1.mem _ m1.1) (o1.mem _ m1.2);obtain⟨g2,l2⟩:=S.af0 qe (o2.mem _ m2.1) (o2.mem _ m2.2);have:=g1.next g2;subst this;exact y8 l1 l2
theorem Sheet.ad6:∃m r,v6 n ts=m::r/\m∈ts/\∀X∈ts,X=m\/i8 (X-m):=by
 obtain⟨m,M,c,d,hm,hM,mM,lm,lM,e1,e2,h3,h4,hc,hd⟩:=S.ends;have e3:∃c',c.reverse=m::c':=by
  have:c.getLast?=some m:=by
   match c,hc with
   |x::c,_=>rw[aBa]at h3;exact h3
  rw[<-aEF]at this;match hh:c.reverse,this with
  |x::r,this=>exact⟨r,by rw[show x=m from aAj this]⟩
 obtain⟨c',e3⟩:=e3;refine⟨m,c'++d.reverse,?_,hm,lm⟩;unfold v6;rw[e1,e2,aAQ,aAQ,aBD,aBD,e3];rfl
theorem Sheet.strict (h:EdgeOf n (λX=>X∈ts) P Q)(hX:X∈v6 n ts)(h1:X≠P)(h2:X≠Q):0<i4 n (Q-P) (X-P):=by
 have tX:=S.aa6 hX;have h0:=h.left X tX;by_cases z:i4 n (Q-P) (X-P)=0
 ·exfalso;have b:=h.btw X tX z;obtain⟨Y,hY⟩:=wK S hX;have g:=S.pair hY;have l1:=g.left P h.p;have l2:=g.left Q h.q;rcases Y4 Q P with e|e|e
  ·exact h.ne e.symm
  ·have b1:=b.1 e;have c1:=b1.1.resolve_left h1;have c2:=b1.2.resolve_left h2;have zz:i4 n (X-P) (Q-X)=0:=by have e1:Q-P=(Q-X)+(X-P):=ext (by simp;lia) (by simp;lia) (by simp;lia);rw[e1,aT,C7,j8]at z;lia
   have l1':0<=i4 n (X-P) (Y-X):=by have e1:P-X=-(X-P):=(t4 _ _).symm;rw[e1,L5]at l1;rw[j8];lia
   rcases Y4 Y X with y|y|y
   ·exact g.ne y.symm
   ·have w1:=S.row.weak c1 y c2 (S.pl _ tX _ h.p) (S.pl _ g.q _ tX) (S.pl _ h.q _ tX) l1' l2;by_cases p1:0<i4 n (X-P) (Y-X)
    ·have:=E8.tr c1 y c2 (F4 S.nz (S.pl _ tX _ h.p) (S.pl _ g.q _ tX)<|S.pl _ h.q _ tX) p1 l2
     lia
    ·have z1:i4 n (Y-X) (P-X)=0:=by have e1:P-X=-(X-P):=(t4 _ _).symm;rw[e1,L5,j8];lia
     rcases((g.btw P h.p z1).1 y).1 with k|k
     ·exact h1 k.symm
     ·exact y8 k c1
   ·have y':i8 (X-Y):=y;have m1:0<=i4 n (X-Y) (X-P):=by have e1:Y-X=-(X-Y):=(t4 _ _).symm;rw[e1,L5,j8]at l1';lia
    have m2:0<=i4 n (Q-X) (X-Y):=by have e1:Y-X=-(X-Y):=(t4 _ _).symm;rw[e1,aU,j8]at l2;lia
    by_cases p1:0<i4 n (Q-X) (X-Y)
    ·have:=E8.tr c2 y' c1 (F4 S.nz (S.pl _ h.q _ tX) (S.pl _ tX _ g.q)<|S.pl _ tX _ h.p) p1 m1;rw[j8]at this;lia
    ·have z1:i4 n (Y-X) (Q-X)=0:=by have e1:Y-X=-(X-Y):=(t4 _ _).symm;rw[e1,aU,j8];lia
     rcases((g.btw Q h.q z1).2 y').1 with k|k
     ·exact h2 k.symm
     ·exact y8 k c2
  ·have b1:=b.2 e;have c1:=b1.1.resolve_left h1;have c2:=b1.2.resolve_left h2;have zz:i4 n (P-X) (X-Q)=0:=by have e1:Q-P=-((P-X)+(X-Q)):=ext (by simp;lia) (by simp;lia) (by simp;lia);have e2:X-P=-(P-X):=(t4 _ _).symm;rw[e1,e2,aU,L5,aT,C7,j8]at z;lia
   rcases Y4 Y X with y|y|y
   ·exact g.ne y.symm
   ·
    have m2:0<=i4 n (X-Q) (Y-X):=by have e1:Q-X=-(X-Q):=(t4 _ _).symm;rw[e1,L5,j8]at l2;lia
    by_cases p1:0<i4 n (X-Q) (Y-X)
    ·have:=E8.tr c2 y c1 (F4 S.nz (S.pl _ tX _ h.q) (S.pl _ g.q _ tX)<|S.pl _ h.p _ tX) p1 l1;rw[j8]at this;lia
    ·have z1:i4 n (Y-X) (Q-X)=0:=by have e1:Q-X=-(X-Q):=(t4 _ _).symm;rw[e1,L5,j8];lia
     rcases((g.btw Q h.q z1).1 y).1 with k|k
     ·exact h2 k.symm
     ·exact y8 k c2
   ·have y':i8 (X-Y):=y;have m1:0<=i4 n (P-X) (X-Y):=by have e1:Y-X=-(X-Y):=(t4 _ _).symm;rw[e1,aU,j8]at l1;lia
    have m2:0<=i4 n (X-Y) (X-Q):=by have e1:Y-X=-(X-Y):=(t4 _ _).symm;have e2:Q-X=-(X-Q):=(t4 _ _).symm;rw[e1,e2,aU,L5]at l2;lia
    by_cases p1:0<i4 n (P-X) (X-Y)
    ·have:=E8.tr c1 y' c2 (F4 S.nz (S.pl _ h.p _ tX) (S.pl _ tX _ g.q)<|S.pl _ tX _ h.q) p1 m2
     lia
    ·have z1:i4 n (Y-X) (P-X)=0:=by have e1:Y-X=-(X-Y):=(t4 _ _).symm;rw[e1,aU,j8];lia
     rcases((g.btw P h.p z1).2 y').1 with k|k
     ·exact h1 k.symm
     ·exact y8 k c1
 ·lia
end
end G
namespace G
def jJ {a:V}(h:a≠0):a.x≠0\/a.y≠0\/a.z≠0:=by
 by_cases p:a.x=0
 ·by_cases q:a.y=0
  ·by_cases r:a.z=0
   ·exact absurd (ext p q r) h
   ·exact .inr (.inr r)
  ·exact .inr (.inl q)
 ·exact .inl p
def F9 {a w:V}(ha:a≠0)(h:cr a w=0):∃k m:Int,0<k/\k*w=m*a:=by
 have h1:=congrArg V.x h;have h2:=congrArg V.y h;have h3:=congrArg V.z h;simp at h1 h2 h3;have key:∀k m:Int,k≠0->k*w=m*a->∃k m:Int,0<k/\k*w=m*a:=λk m hk e=>by
  by_cases p:0<k
  ·exact⟨k,m,p,e⟩
  ·refine⟨-k,-m,by lia,?_⟩;have q1:=congrArg V.x e;have q2:=congrArg V.y e;have q3:=congrArg V.z e;simp at q1 q2 q3;apply ext<;>simp<;>grind
 rcases jJ ha with p|p|p
 ·exact key a.x w.x p (by apply ext<;>simp<;>grind)
 ·exact key a.y w.y p (by apply ext<;>simp<;>grind)
 ·exact key a.z w.z p (by apply ext<;>simp<;>grind)
def ConeM.ac9 {Pos:V->Prop}(C:ConeM a Pos)(ha:a≠0)(hw:Pos w):cr a w≠0:=λh=>by
 obtain⟨k,m,hk,e⟩:=F9 ha h;have h1:=C.inv (-m) (C.mul hk hw);rw[e]at h1;have e0:m*a+-m*a=0:=by apply ext<;>simp<;>grind
 rw[e0]at h1;exact C.irr h1
def G6 (a A:V):List V->V->V->V×V
 |[],up,out=>(up,out)
 |P::Ps,up,out=>if up=0\/0<f8 up (P-A)then G6 a A Ps (cr a (P-A)) P else G6 a A Ps up out
def SX (a A:V)(Pos:V->Prop)(seen:V->Prop)(up out:V):Prop:=
 (up=0/\∀P,seen P->cr a (P-A)=0)\/(seen out/\Pos (out-A)/\up=cr a (out-A)/\∀P,seen P->i4 a (out-A) (P-A)<=0)
def jU (h:cr a w=0)(u:V):i4 a u w=0:=by
 have e:i4 a u w=-f8 (cr a w) u:=by simp[i4,f8];grind
 rw[e,h];simp[f8]
theorem rL {Pos:V->Prop}(C:ConeM a Pos)(ha:a≠0):∀(pts:List V) (seen:V->Prop) (up out:V),SX a A Pos seen up out->(∀P,seen P->Pos (P-A)\/cr a (P-A)=0)->(∀P∈pts,Pos (P-A)\/cr a (P-A)=0)->
  SX a A Pos (λP=>seen P\/P∈pts) (G6 a A pts up out).1 (G6 a A pts up out).2
 |[],seen,up,out,h,_,_=>by
  show SX a A Pos _ up out;rcases h with⟨h1,h2⟩|⟨h1,h2,h3,h4⟩
  ·exact .inl ⟨h1,λP hP=>h2 P (by simpa using hP)⟩
  ·exact .inr ⟨.inl h1,h2,h3,λP hP=>h4 P (by simpa using hP)⟩
 |Q::pts,seen,up,out,h,hs,hp=>by
  have hQ:=hp Q (by simp);have stp:SX a A Pos (λP=>seen P\/P=Q) (if up=0\/0<f8 up (Q-A)then(cr a<|Q-A)else up) (if up=0\/0<f8 up (Q-A)then Q else out):=by
   rcases h with⟨h1,h2⟩|⟨h1,h2,h3,h4⟩
   ·rw[if_pos (.inl h1),if_pos (.inl h1)];by_cases z:cr a (Q-A)=0
    ·exact .inl ⟨z,λP hP=>by
      rcases hP with hP|hP
      ·exact h2 P hP
      ·subst hP;exact z⟩
    ·refine .inr ⟨.inr rfl,hQ.resolve_right z,rfl,λP hP=>?_⟩;rcases hP with hP|hP
     ·rw[jU (h2 P hP)];exact aCM _
     ·subst hP;rw[C7];exact aCM _
   ·have bc:up≠0:=by rw[h3];exact C.ac9 ha h2
    have ed:f8 up (Q-A)=i4 a (out-A) (Q-A):=by rw[h3,U1]
    by_cases z:0<f8 up (Q-A)
    ·rw[if_pos (.inr z),if_pos (.inr z)];have hq:Pos (Q-A):=by
      rcases hQ with q|q
      ·exact q
      ·rw[ed,jU q]at z;lia
     refine .inr ⟨.inr rfl,hq,rfl,λP hP=>?_⟩;rcases hP with hP|hP
     ·by_cases zz:i4 a (Q-A) (P-A)<=0
      ·exact zz
      ·exfalso;have hP':Pos (P-A):=by
        rcases hs P hP with q|q
        ·exact q
        ·rw[jU q]at zz;lia
       have:=C.tr h2 hq hP' (by rw[<-ed];exact z) (by lia);have:=h4 P hP
       lia
     ·subst hP;rw[C7];exact aCM _
    ·rw[if_neg (by rintro(q|q);exact bc q;exact z q),if_neg (by rintro(q|q);exact bc q;exact z q)];refine .inr ⟨.inl h1,h2,h3,λP hP=>?_⟩;rcases hP with hP|hP
     ·exact h4 P hP
     ·subst hP;rw[<-ed];lia
  have r:=rL C ha pts (λP=>seen P\/P=Q) _ _ stp (λP hP=>by
   rcases hP with hP|hP
   ·exact hs P hP
   ·subst hP;exact hQ) (λP hP=>hp P (aAd _ hP))
  have e:G6 a A (Q::pts) up out=G6 a A pts (if up=0\/0<f8 up (Q-A)then(cr a<|Q-A)else up) (if up=0\/0<f8 up (Q-A)then Q else out):=by rw[G6];split<;>rfl
  rw[e];have ee:(λP=>(seen P\/P=Q)\/P∈pts)=(λP=>seen P\/P∈Q::pts):=by funext P;simp[or_assoc]
  rw[<-ee];exact r
def QD {Pos:V->Prop}(C:ConeM a Pos)(ha:a≠0)(hp:∀P∈pts,Pos (P-A)\/cr a (P-A)=0)(hx:∃P∈pts,Pos (P-A)):
  (G6 a A pts 0 A).2∈pts/\Pos ((G6 a A pts 0 A).2-A)/\∀P∈pts,i4 a ((G6 a A pts 0 A).2-A) (P-A)<=0:=by
 have h:=rL C ha pts (λ_=>False) 0 A (.inl ⟨rfl,λ_ h=>h.elim⟩) (λ_ h=>h.elim) hp;rcases h with⟨h1,h2⟩|⟨h1,h2,h3,h4⟩
 ·obtain⟨P,hP,hq⟩:=hx;exact absurd (h2 P<|.inr hP) (C.ac9 ha hq)
 ·exact⟨by simpa using h1,h2,λP hP=>h4 P (.inr hP)⟩
def y7 (v:V):Nat:=Nat.gcd (Nat.gcd v.x.natAbs v.y.natAbs) v.z.natAbs
def lF (v:V)(g:Int):V:=⟨v.x/g,v.y/g,v.z/g⟩
def cR (n:V):Prop:=y7 n=1
def oG (k:Int)(v:V):y7 (k*v)=k.natAbs*y7 v:=by unfold y7;simp[Int.natAbs_mul,Nat.gcd_mul_left]
def IW (h:y7 v=0):v=0:=by unfold y7 at h;have h1:=Nat.gcd_eq_zero_iff.mp h;have h2:=Nat.gcd_eq_zero_iff.mp h1.1;exact ext (aEH.mp h2.1) (aEH.mp h2.2) (aEH.mp h1.2)
def PC (v:V):(y7 v:Int)∣v.x/\(y7 v:Int)∣v.y/\(y7 v:Int)∣v.z:=by
 unfold y7;refine⟨?_,?_,?_⟩
 ·exact aEI.mpr (Nat.dvd_trans (aFg _ _)<|aFg _ _)
 ·exact aEI.mpr (Nat.dvd_trans (aFg _ _)<|Nat.gcd_dvd_right _ _)
 ·exact aEI.mpr (Nat.gcd_dvd_right _ _)
def kI (h:c≠0):0<(y7 c:Int)/\c=(y7 c:Int)*lF c (y7 c)/\cR (lF c (y7 c)):=by
 have hg:y7 c≠0:=λz=>h (IW z);have hp:0<(y7 c:Int):=by lia
 obtain⟨d1,d2,d3⟩:=PC c;have e:c=(y7 c:Int)*lF c (y7 c):=by
  apply ext
  ·show _=_*(c.x/_);rw[aEd d1]
  ·show _=_*(c.y/_);rw[aEd d2]
  ·show _=_*(c.z/_);rw[aEd d3]
 refine⟨hp,e,?_⟩;have:=congrArg y7 e;rw[oG]at this;simp only[Int.natAbs_natCast]at this;unfold cR;have h2:y7 c*1=y7 c*y7 (lF c<|y7 c):=by lia
 exact(Nat.eq_of_mul_eq_mul_left (by lia) h2).symm
def cR.ne (h:cR n):n≠0:=λe=>by subst e;unfold cR at h;exact absurd h (by decide)
def FQ {n m:V}{k l:Int}(hn:cR n)(hm:cR m)(hk:0<k)(hl:0<l)(e:k*n=l*m):n=m:=by
 have:=congrArg y7 e;rw[oG,oG,hn,hm]at this;have ekl:k=l:=by lia
 subst ekl;have h1:=congrArg V.x e;have h2:=congrArg V.y e;have h3:=congrArg V.z e;simp at h1 h2 h3;exact ext (aDv (by lia) h1) (aDv (by lia) h2) (aDv (by lia) h3)
def j6 (P Q R:V):V×Int:=let n:=lF (cr (Q-P)<|R-P) (y7<|cr (Q-P)<|R-P);(n,f8 n P)
structure IsFace (pts:List V)(n:V)(d:Int):Prop where
 prim:cR n
 sup:∀X∈pts,f8 n X<=d
 three:∃A∈pts,∃B∈pts,∃C∈pts,f8 n A=d/\f8 n B=d/\f8 n C=d/\cr (B-A) (C-A)≠0
def U5 (hu:f8 n u=0)(hv:f8 n v=0):cr n (cr u v)=0:=by simp[f8]at hu hv;apply ext<;>simp<;>grind
def vH (hc:c≠0)(h1:cr n c=0)(h2:cr m c=0):cr n m=0:=by
 have s1:cr c n=0:=by have:=congrArg V.x h1;have:=congrArg V.y h1;have:=congrArg V.z h1;simp at*;apply ext<;>simp<;>grind
 have s2:cr c m=0:=by have:=congrArg V.x h2;have:=congrArg V.y h2;have:=congrArg V.z h2;simp at*;apply ext<;>simp<;>grind
 obtain⟨k,p,hk,e1⟩:=F9 hc s1;obtain⟨l,q,hl,e2⟩:=F9 hc s2;have e:(k*l)*cr n m=0:=by
  have:(k*l)*cr n m=cr (k*n) (l*m):=by apply ext<;>simp<;>grind
  rw[this,e1,e2];apply ext<;>simp<;>grind
 have zh:k*l≠0:=λz=>by rcases aAI.mp z with q|q<;>lia
 have h1:=congrArg V.x e;have h2:=congrArg V.y e;have h3:=congrArg V.z e;simp only[MJ,OQ,PU,dQ,cO,dE]at h1 h2 h3;exact ext ((aAI.mp h1).resolve_left zh) ((aAI.mp h2).resolve_left zh) ((aAI.mp h3).resolve_left zh)
def nD {pts:List V}{n m:V}{d e:Int}(hn:cR n)(hm:cR m)(sn:∀X∈pts,f8 n X<=d)(sm:∀X∈pts,f8 m X<=e){A B C Z:V}(hA:f8 n A=d)(hB:f8 n B=d)(hC:f8 n C=d)(hA':f8 m A=e)(hB':f8 m B=e)(hC':f8 m C=e)
  (hc:cr (B-A) (C-A)≠0) (hZ:Z∈pts) (hz:f8 n Z<d):n=m/\d=e:=by
 have n1:cr n (cr (B-A)<|C-A)=0:=U5 (by rw[i6];lia) (by rw[i6];lia);have m1:cr m (cr (B-A)<|C-A)=0:=U5 (by rw[i6];lia) (by rw[i6];lia);have p:=vH hc m1 n1;obtain⟨k,l,hk,e1⟩:=F9 hm.ne p;have hl:0<l:=by
  have q:=congrArg (λv=>f8 v (Z-A)) e1;rw[Y3,Y3]at q;have q1:f8 n (Z-A)<0:=by rw[i6];lia
  have q2:f8 m (Z-A)<=0:=by rw[i6];have:=sm Z hZ;lia
  have q3:k*f8 n (Z-A)<0:=aCe hk q1;by_cases z:0<l
  ·exact z
  ·exfalso;have:0<=l*f8 m (Z-A):=by
    have:=aDP (show 0<=-l by lia) (show 0<=-f8 m (Z-A)by lia)
    rwa [aFs]at this
   lia
 have e2:=FQ hn hm hk hl e1;subst e2;exact⟨rfl,by lia⟩
end G
namespace G
def b8 (A B:V)(pts:List V):V×Int:=j6 A B (G6 (B-A) A pts 0 A).2
def G5 (n:V)(d:Int)(pts:List V):List V:=pts.filter λX=>decide (f8 n X=d)
def f9:X∈G5 n d pts↔X∈pts/\f8 n X=d:=by simp[G5]
def iE (h:cr (Q-P) (R-P)≠0):∃g:Int,0<g/\cr (Q-P) (R-P)=g*(j6 P Q R).1/\cR (j6 P Q R).1/\(j6 P Q R).2=f8 (j6 P Q R).1 P:=by obtain⟨h1,h2,h3⟩:=kI h;exact⟨_,h1,h2,h3,rfl⟩
def X4 {Pos:V->Prop}(C:ConeM (B-A) Pos)(hAB:B-A≠0)(hp:∀P∈pts,Pos (P-A)\/cr (B-A) (P-A)=0)(hx:∃P∈pts,Pos (P-A)):
  ∃(out:V) (g:Int),out∈pts/\Pos (out-A)/\0<g/\cr (B-A) (out-A)=g*(b8 A B pts).1/\cR (b8 A B pts).1/\(b8 A B pts).2=f8 (b8 A B pts).1 A/\
   (∀P∈pts,f8 (b8 A B pts).1 P<=(b8 A B pts).2)/\f8 (b8 A B pts).1 B=(b8 A B pts).2/\f8 (b8 A B pts).1 out=(b8 A B pts).2/\
   (∀P∈pts,f8 (b8 A B pts).1 P=(b8 A B pts).2->i4 (B-A) (out-A) (P-A)=0):=by
 obtain⟨h1,h2,h3⟩:=QD C hAB hp hx;have hc:=C.ac9 hAB h2;obtain⟨g,g0,ge,gp,gd⟩:=iE hc;have key:∀w:V,g*f8 (b8 A B pts).1 w=i4 (B-A) ((G6 (B-A) A pts 0 A).2-A) w:=λw=>by have:f8 (cr (B-A)<|(G6 (B-A) A pts 0 A).2-A) w=i4 (B-A) ((G6 (B-A) A pts 0 A).2-A) w:=U1 _ _ _;rw[<-this,ge,Y3];rfl
 have eA:(b8 A B pts).2=f8 (b8 A B pts).1 A:=gd;have z0:∀w:V,i4 (B-A) ((G6 (B-A) A pts 0 A).2-A) w=0->f8 (b8 A B pts).1 w=0:=λw hw=>by have:=key w;rw[hw]at this;exact(aAI.mp this).resolve_left (by lia)
 refine⟨_,g,h1,h2,g0,ge,gp,gd,λP hP=>?_,?_,?_,λP hP e=>?_⟩
 ·have h:=h3 P hP;rw[<-key]at h;have:f8 (b8 A B pts).1 (P-A)<=0:=by
   by_cases z:f8 (b8 A B pts).1 (P-A)<=0
   ·exact z
   ·have:=aBC g0 (show 0<f8 (b8 A B pts).1 (P-A)by lia)
    lia
  rw[i6]at this
  lia
 ·have:=z0 (B-A) (by simp[i4,f8];grind);rw[i6]at this;lia
 ·have:=z0 ((G6 (B-A) A pts 0 A).2-A) (C7 _ _);rw[i6]at this;lia
 ·rw[<-key,i6];have:f8 (b8 A B pts).1 P-f8 (b8 A B pts).1 A=0:=by lia
  rw[this];simp
def zI {Pos:V->Prop}(C:ConeM a Pos)(ha:a≠0)(ho:Pos o)(hw:Pos w)(h:i4 a o w=0):0<f8 (cr a o) (cr a w):=by
 by_cases z:0<f8 (cr a o) (cr a w)
 ·exact z
 ·exfalso;have bc:=C.ac9 ha ho;have ur:=D6 bc;have h1:Pos (f8 (cr a o) (cr a o)*w+(-f8 (cr a o) (cr a w))*o):=C.comb ur (by lia) hw ho;refine C.ac9 ha h1 ?_;have hx:cr (cr a o) (cr a w)=i4 a o w*a:=by simp[i4,f8];apply ext<;>simp<;>grind
  rw[h,v5]at hx;have e1:cr a (f8 (cr a o) (cr a o)*w+(-f8 (cr a o) (cr a w))*o)=f8 (cr a o) (cr a o)*cr a w+(-f8 (cr a o) (cr a w))*cr a o:=by apply ext<;>simp<;>grind
  rw[e1];have e2:∀p q:V,f8 p p*q+(-f8 p q)*p=cr p (cr q p):=λp q=>by simp[f8];apply ext<;>simp<;>grind
  rw[e2];have e3:cr (cr a w) (cr a o)=0:=by have q1:=congrArg V.x hx;have q2:=congrArg V.y hx;have q3:=congrArg V.z hx;simp only[RN,TU,RW,dQ,cO,dE]at q1 q2 q3;apply ext<;>simp only[RN,TU,RW,dQ,cO,dE]<;>grind
  rw[e3];apply ext<;>simp
def Btw.symm (h:Btw P Q X):Btw Q P X:=⟨λa=>⟨(h.2 a).2,(h.2 a).1⟩,λa=>⟨(h.1 a).2,(h.1 a).1⟩⟩
def sD (hn:n≠0)(hab:f8 n (a-b)=0):ConeM (a-b) (λw=>f8 n w<0\/(f8 n w=0/\0<i4 n (b-a) w))where
 add:=λ{u v} h1 h2=>by
  rw[bO,aP]
  lia
 mul:=λ{k u} hk h=>by
  rw[w4,yT];rcases h with h|⟨h,h'⟩
  ·exact .inl (aCe hk h)
  ·exact .inr ⟨by rw[h];simp,aBC hk h'⟩
 irr:=by rw[W9,fF];lia
 inv:=λ{u} k h=>by
  have e:i4 n (b-a) (a-b)=0:=by have:a-b=-(b-a):=(t4 _ _).symm;rw[this,L5,C7];rfl
  rw[bO,aP,w4,yT,hab,e];simpa using h
def iB (hn:n≠0)(hu:f8 n u=0)(hw:f8 n w=0)(h:i4 n u w=0):cr u w=0:=by
 have h1:cr n (cr u w)=0:=U5 hu hw;obtain⟨k,m,hk,e⟩:=F9 hn h1;have q:=congrArg (f8 n) e;rw[w4,w4]at q;have:f8 n (cr u w)=0:=h;rw[this]at q;have hm:m=0:=by
  have:=D6 hn;have q':m*f8 n n=0:=by lia
  rcases aAI.mp q' with z|z
  ·exact z
  ·lia
 rw[hm,v5]at e;have q1:=congrArg V.x e;have q2:=congrArg V.y e;have q3:=congrArg V.z e;simp only[MJ,OQ,PU,dQ,cO,dE]at q1 q2 q3;exact ext ((aAI.mp q1).resolve_left (by lia)) ((aAI.mp q2).resolve_left (by lia)) ((aAI.mp q3).resolve_left (by lia))
def zE (h:cr u w=0):cr (-u) w=0:=by have q1:=congrArg V.x h;have q2:=congrArg V.y h;have q3:=congrArg V.z h;simp only[RN,TU,RW,dQ,cO,dE]at q1 q2 q3;apply ext<;>simp<;>grind
def sI (hn:n≠0)(hs:∀X∈pts,f8 n X<=d)(hz:∃Z∈pts,f8 n Z<d)(h:EdgeOf n (λX=>X∈G5 n d pts) a b):
  IsFace pts (b8 b a pts).1 (b8 b a pts).2/\EdgeOf (b8 b a pts).1 (λX=>X∈G5 (b8 b a pts).1 (b8 b a pts).2 pts) b a:=by
 obtain⟨pa,da⟩:=f9.mp h.p;obtain⟨pb,db⟩:=f9.mp h.q;have hab:f8 n (a-b)=0:=by rw[i6];lia
 have hba:f8 n (b-a)=0:=by rw[i6];lia
 have C:=sD (n:=n) hn hab;have bc:a-b≠0:=λe=>h.ne (by have q1:=congrArg V.x e;have q2:=congrArg V.y e;have q3:=congrArg V.z e;simp at q1 q2 q3;exact ext (by lia) (by lia) (by lia))
 have hp:∀P∈pts,(f8 n (P-b)<0\/(f8 n (P-b)=0/\0<i4 n (b-a) (P-b)))\/cr (a-b) (P-b)=0:=λP hP=>by
  have h1:=hs P hP;by_cases z:f8 n P<d
  ·exact .inl (.inl (by rw[i6];lia))
  ·have e:f8 n P=d:=by lia
   have tP:P∈G5 n d pts:=f9.mpr ⟨hP,e⟩;have l:=h.left P tP;rw[qG]at l;have e0:f8 n (P-b)=0:=by rw[i6];lia
   by_cases y:0<i4 n (b-a) (P-b)
   ·exact .inl (.inr ⟨e0,y⟩)
   ·have y0:i4 n (b-a) (P-b)=0:=by lia
    have:=zE (iB hn hba e0 y0);rw[t4]at this;exact .inr this
 obtain⟨Z,hZ,hz⟩:=hz;obtain⟨out,g,o1,o2,g0,ge,gp,gd,sup,sB,sO,sP⟩:=X4 C bc hp ⟨Z,hZ,.inl (by rw[i6];lia)⟩;refine⟨⟨gp,sup,b,pb,a,pa,out,o1,gd.symm,sB,sO,C.ac9 bc o2⟩,⟨f9.mpr ⟨pb,gd.symm⟩,f9.mpr ⟨pa,sB⟩,λe=>h.ne e.symm,λX hX=>?_,λX hX e=>?_⟩⟩
 ·obtain⟨pX,eX⟩:=f9.mp hX;have z:=sP X pX eX;have e1:g*i4 (b8 b a pts).1 (a-b) (X-b)=f8 (cr (a-b)<|out-b) (cr (a-b)<|X-b):=by rw[ge];unfold i4;rw[Y3]
  have:0<=f8 (cr (a-b)<|out-b) (cr (a-b)<|X-b):=by
   rcases hp X pX with q|q
   ·exact aAZ (zI C bc o2 q z)
   ·rw[q,W9];exact aCM _
  rw[<-e1]at this;by_cases zz:0<=i4 (b8 b a pts).1 (a-b) (X-b)
  ·exact zz
  ·have:=aCe g0 (show i4 (b8 b a pts).1 (a-b) (X-b)<0 by lia)
   lia
 ·obtain⟨pX,eX⟩:=f9.mp hX;have z:=sP X pX eX;have e1:g*i4 (b8 b a pts).1 (a-b) (X-b)=f8 (cr (a-b)<|out-b) (cr (a-b)<|X-b):=by rw[ge];unfold i4;rw[Y3]
  rw[e]at e1;rcases hp X pX with q|q
  ·have:=zI C bc o2 q z;rw[<-e1]at this;simp at this
  ·
   have dX:f8 n X=d:=by obtain⟨k,m,hk,e⟩:=F9 bc q;have q:=congrArg (f8 n) e;rw[w4,w4,hab]at q;have:f8 n (X-b)=0:=(aAI.mp (show k*f8 n (X-b)=0 by lia)).resolve_left (by lia);rw[i6]at this;lia
   refine(h.btw X (f9.mpr ⟨pX,dX⟩) ?_).symm;rw[qG];have:cr (b-a) (X-b)=0:=by
    have:=zE q
    rwa [t4]at this
   unfold i4;rw[this,W9]
end G
namespace G
def B1:List V->Option V
 |[]=>none
 |w::ws=>if w≠0 then some w else B1 ws
def u0 (h:B1 ws=some w):w∈ws/\w≠0:=by
 induction ws with
 |nil=>cases h
 |cons v ws ih=>
  unfold B1 at h;split at h
  ·rename_i hv;cases h;exact⟨by simp,hv⟩
  ·have:=ih h;exact⟨aAd _ this.1,this.2⟩
def N9 (h:B1 ws=none):∀w∈ws,w=0:=by
 induction ws with
 |nil=>intro w hw;cases hw
 |cons v ws ih=>
  unfold B1 at h;split at h
  ·cases h
  ·rename_i hv;intro w hw;rcases aAe.mp hw with e|e
   ·subst e;exact Decidable.not_not.mp hv
   ·exact ih h w e
def U9:List V->Nat
 |[]=>0
 |p::ps=>
  let ways:=(p::ps).map (· -p)
  match B1 ways with
  |none=>0
  |some along=>match B1 (ways.map<|cr along)with
   |none=>1
   |some up=>if ways.any (λw=>decide (f8 up w≠0))then 3 else 2
def A5 (pts:List V):Prop:=∃A∈pts,∃B∈pts,∃C∈pts,∃D∈pts,i4 (B-A) (C-A) (D-A)≠0
def JA (h:U9 pts=3):A5 pts:=by
 match pts,h with
 |p::ps,h=>
  unfold U9 at h;dsimp only at h;split at h
  ·cases h
  ·rename_i along h1;split at h
   ·cases h
   ·rename_i up h2;split at h
    ·rename_i h3;obtain⟨m1,n1⟩:=u0 h1;obtain⟨m2,n2⟩:=u0 h2;obtain⟨w2,m2,e2⟩:=aAp.mp m2;rw[aDY]at h3;obtain⟨w3,m3,e3⟩:=h3;obtain⟨B,hB,eB⟩:=aAp.mp m1;obtain⟨C,hC,eC⟩:=aAp.mp m2;obtain⟨D,hD,eD⟩:=aAp.mp m3;refine⟨p,by simp,B,hB,C,hC,D,hD,?_⟩;rw[eB,eC,eD];have e3':f8 up w3≠0:=by simpa using e3
     rw[<-e2,U1]at e3';exact e3'
    ·cases h
def QG (h:U9 pts≠3):¬A5 pts:=by
 rintro⟨A,hA,B,hB,C,hC,D,hD,hd⟩;match pts,h,hA,hB,hC,hD with
 |p::ps,h,hA,hB,hC,hD=>
  unfold U9 at h;dsimp only at h;have mm:∀X∈p::ps,X-p∈(p::ps).map (· -p):=λX hX=>aAp.mpr ⟨X,hX,rfl⟩;have fin:∀n:V,n≠0->(∀X∈p::ps,f8 n (X-p)=0)->False:=λn hn hz=>by
   have q:∀X∈p::ps,f8 n (X-A)=0:=λX hX=>by have h1:=hz X hX;have h2:=hz A hA;rw[i6]at*;lia
   exact hd (F4 hn (q B hB) (q C hC)<|q D hD)
  split at h
  ·rename_i h1;have z:=N9 h1;refine fin ⟨1,0,0⟩ (λe=>by have:=congrArg V.x e;simp at this) λX hX=>?_;rw[z _ (mm X hX)];exact W9 _
  ·rename_i along h1;obtain⟨m1,n1⟩:=u0 h1;split at h
   ·rename_i h2;have z:=N9 h2;have z':∀X∈p::ps,cr along (X-p)=0:=λX hX=>z _ (aAp.mpr ⟨_,mm X hX,rfl⟩);obtain⟨u,hu,bo⟩:∃u:V,cr along u≠0/\True:=by
     rcases jJ n1 with q|q|q
     ·exact⟨⟨0,1,0⟩,λe=>q (by have:=congrArg V.z e;simpa using this),trivial⟩
     ·exact⟨⟨1,0,0⟩,λe=>q (by have:=congrArg V.z e;simpa using this),trivial⟩
     ·exact⟨⟨0,1,0⟩,λe=>q (by have:=congrArg V.x e;simpa using this),trivial⟩
    refine fin (cr along u) hu λX hX=>?_;rw[U1,jU (z' X hX)]
   ·rename_i up h2;obtain⟨m2,n2⟩:=u0 h2;split at h
    ·exact h rfl
    ·rename_i h3;refine fin up n2 λX hX=>?_;by_cases z:f8 up (X-p)=0
     ·exact z
     ·exact absurd (aDY.mpr ⟨X-p,mm X hX,by simpa using z⟩) h3
def LL (h:U9 pts<2):∀X∈pts,∀Y∈pts,∀Z∈pts,cr (Y-X) (Z-X)=0:=by
 match pts,h with
 |[],_=>intro X hX;cases hX
 |p::ps,h=>
  unfold U9 at h;dsimp only at h;have mm:∀X∈p::ps,X-p∈(p::ps).map (· -p):=λX hX=>aAp.mpr ⟨X,hX,rfl⟩;intro X hX Y hY Z hZ;split at h
  ·rename_i h1;have z:=N9 h1;have e:∀W∈p::ps,W=p:=λW hW=>by have:=z _ (mm W hW);have q1:=congrArg V.x this;have q2:=congrArg V.y this;have q3:=congrArg V.z this;simp at q1 q2 q3;exact ext (by lia) (by lia) (by lia)
   rw[e X hX,e Y hY,y6];apply ext<;>simp
  ·rename_i along h1;obtain⟨m1,n1⟩:=u0 h1;split at h
   ·rename_i h2;have z:=N9 h2;have z':∀X∈p::ps,cr along (X-p)=0:=λX hX=>z _ (aAp.mpr ⟨_,mm X hX,rfl⟩);have k:∀U∈p::ps,∀W∈p::ps,cr (U-W) along=0:=λU hU W hW=>by have q1:=z' U hU;have q2:=z' W hW;have a1:=congrArg V.x q1;have a2:=congrArg V.y q1;have a3:=congrArg V.z q1;have b1:=congrArg V.x q2;have b2:=congrArg V.y q2;have b3:=congrArg V.z q2;simp at a1 a2 a3 b1 b2 b3;apply ext<;>simp<;>grind
    exact vH n1 (k Y hY X hX) (k Z hZ X hX)
   ·split at h<;>lia
def IF (h:2<=U9 pts):∃X∈pts,∃Y∈pts,∃Z∈pts,cr (Y-X) (Z-X)≠0:=by
 match pts,h with
 |[],h=>exact absurd h (by simp[U9])
 |p::ps,h=>
  unfold U9 at h;dsimp only at h;split at h
  ·lia
  ·rename_i along h1;obtain⟨m1,n1⟩:=u0 h1;split at h
   ·lia
   ·rename_i up h2;obtain⟨m2,n2⟩:=u0 h2;obtain⟨w2,m2,e2⟩:=aAp.mp m2;obtain⟨B,hB,eB⟩:=aAp.mp m1;obtain⟨C,hC,eC⟩:=aAp.mp m2;exact⟨p,by simp,B,hB,C,hC,by rw[eB,eC,e2];exact n2⟩
def A5.off (h:A5 pts)(hn:n≠0):∃Z∈pts,f8 n Z≠d:=by
 obtain⟨A,hA,B,hB,C,hC,D,hD,hd⟩:=h;by_cases a:f8 n A=d
 ·by_cases b:f8 n B=d
  ·by_cases c:f8 n C=d
   ·by_cases e:f8 n D=d
    ·exact absurd (F4 hn (by rw[i6];lia) (by rw[i6];lia) (by rw[i6];lia)) hd
    ·exact⟨D,hD,e⟩
   ·exact⟨C,hC,c⟩
  ·exact⟨B,hB,b⟩
 ·exact⟨A,hA,a⟩
def A5.below (h:A5 pts)(hn:n≠0)(hs:∀X∈pts,f8 n X<=d):∃Z∈pts,f8 n Z<d:=by obtain⟨Z,hZ,e⟩:=h.off (d:=d) hn;exact⟨Z,hZ,by have:=hs Z hZ;lia⟩
def kk:V:=⟨0,0,1⟩
def d9 (m:V)(pts:List V):V×V:=
 let u:=b8 m (m+kk) pts
 let touched:=G5 u.1 u.2 pts
 if U9 touched=2 then(m,m+kk)else(touched.getD 0 0,touched.getD 1 0)
def FS:ConeM kk (λw=>0<w.x\/(w.x=0/\0<w.y))where
 add:=λ{u v} h1 h2=>by simp;lia
 mul:=λ{k u} hk h=>by
  simp;rcases h with h|⟨h,h'⟩
  ·exact .inl (aBC hk h)
  ·exact .inr ⟨by rw[h];simp,aBC hk h'⟩
 irr:=by simp
 inv:=λ{u} k h=>by simpa[kk]using h
def BQ (h:f8 n a=0):ConeM a (λw=>f8 n w<0)where
 add:=λ{u v} h1 h2=>by rw[bO];lia
 mul:=λ{k u} hk h=>by rw[w4];exact aCe hk h
 irr:=by rw[W9];lia
 inv:=λ{u} k h'=>by rw[bO,w4,h];simpa using h'
def M2 (m k:V):m+k-m=k:=ext (by simp;lia) (by simp;lia) (by simp;lia)
def CM (hs:A5 pts)(ho:pts.Pairwise (λa b=>i8 (b-a)))(hm:m∈pts)(hl:∀X∈pts,X=m\/i8 (X-m)):
  IsFace pts (b8 (d9 m pts).1 (d9 m pts).2 pts).1 (b8 (d9 m pts).1 (d9 m pts).2 pts).2:=by
 have C:ConeM (m+kk-m) (λw=>0<w.x\/(w.x=0/\0<w.y)):=by rw[M2];exact FS
 have bc:m+kk-m≠0:=by rw[M2];intro e;have:=congrArg V.z e;simp[kk]at this
 have hp:∀P∈pts,(0<(P-m).x\/((P-m).x=0/\0<(P-m).y))\/cr (m+kk-m) (P-m)=0:=λP hP=>by
  rw[M2];rcases hl P hP with e|e
  ·right;subst e;rw[y6];apply ext<;>simp
  ·unfold i8 at e;rcases e with e|⟨e1,e|⟨e2,e3⟩⟩
   ·exact .inl (.inl e)
   ·exact .inl (.inr ⟨e1,e⟩)
   ·right;apply ext
    ·simp[kk];simp at e2;lia
    ·simp[kk];simp at e1;lia
    ·simp[kk]
 have hx:∃P∈pts,0<(P-m).x\/((P-m).x=0/\0<(P-m).y):=by
  by_cases z:∃P∈pts,0<(P-m).x\/((P-m).x=0/\0<(P-m).y)
  ·exact z
  ·exfalso;obtain⟨Z,hZ,e⟩:=hs.off (n:=⟨1,0,0⟩) (d:=m.x) (λe=>by have:=congrArg V.x e;simp at this);have w:=(hp Z hZ).resolve_left λq=>z ⟨Z,hZ,q⟩;rw[M2]at w;have:=congrArg V.y w;simp[kk]at this;simp[f8]at e
   lia
 obtain⟨out,g,o1,o2,g0,ge,gp,gd,sup,sB,sO,sP⟩:=X4 C bc hp hx;have tm:m∈G5 (b8 m (m+kk) pts).1 (b8 m (m+kk) pts).2 pts:=f9.mpr ⟨hm,gd.symm⟩;have to:out∈G5 (b8 m (m+kk) pts).1 (b8 m (m+kk) pts).2 pts:=f9.mpr ⟨o1,sO⟩;have hmo:m≠out:=λe=>by subst e;rw[y6]at o2;simp at o2
 by_cases h2:U9 (G5 (b8 m (m+kk) pts).1 (b8 m (m+kk) pts).2 pts)=2
 ·have e:d9 m pts=(m,m+kk):=by unfold d9;simp only[h2,if_true]
  rw[e];obtain⟨X,hX,Y,hY,Z,hZ,hc⟩:=IF (pts:=G5 (b8 m (m+kk) pts).1 (b8 m (m+kk) pts).2 pts) (by lia);have hX:=f9.mp hX;have hY:=f9.mp hY;have hZ:=f9.mp hZ;exact⟨gp,sup,X,hX.1,Y,hY.1,Z,hZ.1,hX.2,hY.2,hZ.2,hc⟩
 ·
  have h1:U9 (G5 (b8 m (m+kk) pts).1 (b8 m (m+kk) pts).2 pts)≠3:=λz=>by obtain⟨A,hA,B,hB,C,hC,D,hD,hd⟩:=JA z;have hA:=f9.mp hA;have hB:=f9.mp hB;have hC:=f9.mp hC;have hD:=f9.mp hD;exact hd (F4 gp.ne (by rw[i6];lia) (by rw[i6];lia) (by rw[i6];lia))
  have av:U9 (G5 (b8 m (m+kk) pts).1 (b8 m (m+kk) pts).2 pts)<2:=by
   have:U9 (G5 (b8 m (m+kk) pts).1 (b8 m (m+kk) pts).2 pts)<=3:=by
    generalize G5 (b8 m (m+kk) pts).1 (b8 m (m+kk) pts).2 pts=t;unfold U9;split
    ·lia
    ·dsimp only;split
     ·lia
     ·split
      ·lia
      ·split<;>lia
   lia
  have line:=LL av;have e:d9 m pts=((G5 (b8 m (m+kk) pts).1 (b8 m (m+kk) pts).2 pts).getD 0 0,(G5 (b8 m (m+kk) pts).1 (b8 m (m+kk) pts).2 pts).getD 1 0):=by unfold d9;simp only[h2,if_false]
  rw[e];have ord:(G5 (b8 m (m+kk) pts).1 (b8 m (m+kk) pts).2 pts).Pairwise (λa b=>i8 (b-a)):=aFG _ ho;have onm:∀X,X∈G5 (b8 m (m+kk) pts).1 (b8 m (m+kk) pts).2 pts↔X∈pts/\f8 (b8 m (m+kk) pts).1 X=(b8 m (m+kk) pts).2:=λX=>f9;generalize G5 (b8 m (m+kk) pts).1 (b8 m (m+kk) pts).2 pts=t at*
  match t,tm,to with
  |[],tm,_=>cases tm
  |[x],tm,to=>simp at tm to;exact absurd (tm.trans to.symm) hmo
  |x::y::r,tm,to=>
   dsimp only[List.getD_cons_zero,List.getD_cons_succ];have hxy:i8 (y-x):=(aAy.mp ord).1 y (by simp);have ox:=(onm x).mp (by simp);have oy:=(onm y).mp (by simp);have hyx:y-x≠0:=λz=>by rw[z]at hxy;exact E8.irr hxy
   have na:f8 (b8 m (m+kk) pts).1 (y-x)=0:=by rw[i6];lia
   have C2:=BQ na;obtain⟨Z,hZ,hz⟩:=hs.below gp.ne sup;obtain⟨out2,g2,p1,p2,p0,pe,pp,pd,sup2,sB2,sO2,sP2⟩:=X4 C2 hyx (pts:=pts) (λP hP=>by
    have:=sup P hP;by_cases q:f8 (b8 m (m+kk) pts).1 P<(b8 m (m+kk) pts).2
    ·exact .inl (by rw[i6];lia)
    ·exact .inr (line x (by simp) y (by simp) P ((onm P).mpr ⟨hP,by lia⟩))) ⟨Z,hZ,by rw[i6];lia⟩
   exact⟨pp,sup2,x,ox.1,y,oy.1,out2,p1,pd.symm,sB2,sO2,C2.ac9 hyx p2⟩
end G
namespace DL
open PySem PySem.Spec L2
open PyProof.Rows hiding St
section
def xL:List D->Option (List Int)
 |[]=>some []
 |.int i::r=>(xL r).map (i::·)
 |_=>none
theorem rO:∀{ds:List D} {ns:List Int},xL ds=some ns->ds=ns.map D.int
 |[],ns,h=>by cases h;rfl
 |.int i::r,ns,h=>by simp only[xL,aCB]at h;obtain⟨m,h1,rfl⟩:=h;rw[rO h1];rfl
 |.non::_,_,h=>by cases h
 |.bl _::_,_,h=>by cases h
 |.str _::_,_,h=>by cases h
 |.tup _::_,_,h=>by cases h
 |.lst _::_,_,h=>by cases h
 |.dct::_,_,h=>by cases h
def a5j:List D->R D
 |[.lst xs]=>match xL xs with
  |some ns=>.ok (.int ns.sum)
  |none=>.bad
 |_=>.bad
variable [Tabs]in
end
theorem tU (Iv:List D->Ev->Prop)(ht:∀d ds ρ,Iv (d::ds) ρ->∃ρ2,iV G F d ρ=.ok (.nx ρ2)/\Iv ds ρ2):∀{ds:List D} {ρ:Ev},Iv ds ρ->∃au,X5 G F ds ρ=.ok (.nx au)/\Iv [] au
 |[],ρ,h=>⟨ρ,rfl,h⟩
 |d::ds,ρ,h=>by
  obtain⟨ρ2,e,h2⟩:=ht d ds ρ h;obtain⟨au,e',h'⟩:=tU Iv ht h2;unfold iV at e;cases e1:G d ρ with
  |ok ρ1=>rw[e1]at e;exact⟨au,by rw[X5,e1];dsimp only at e⊢;rw[e];exact e',h'⟩
  |ex x=>rw[e1]at e;cases e
  |bad=>rw[e1]at e;cases e
def jS (Iv:List D->Ev->Prop)(ht:∀d ds ρ,Iv (d::ds) ρ->∃ρ2,iV G F d ρ=.ok (.nx ρ2)/\Iv ds ρ2)(h0:Iv ds ρ)(h2:∀au,Iv [] au->T6 (F2 au)=.ok d):
  T6 (G8 (X5 G F ds ρ) F2)=.ok d:=by
 obtain⟨au,e,h⟩:=tU Iv ht h0;rw[e];exact h2 au h
def xI {Post:Ev->Prop}(Iv:Nat->Ev->Prop)(ht:∀n ρ,Iv (n+1) ρ->c ρ=.ok false\/(c ρ=.ok true/\∃ρ2,F ρ=.ok (.nx ρ2)/\Iv n ρ2))(h00:∀ρ,¬Iv 0 ρ)(h0:Iv n ρ)(hp:∀m au,Iv m au->c au=.ok false->Post au):∃ρ2,S7 c F n ρ=.ok (.nx ρ2)/\Post ρ2:=by obtain⟨m,au,e,h,hc⟩:=iG Iv ht h00 n ρ h0;exact⟨au,e,hp m au h hc⟩
end DL
namespace M
open PySem L2 DL
abbrev wO (n:G.V)(d:Int):D:=.tup [.int n.x,.int n.y,.int n.z,.int d]
def D1:List D->R D
 |[.tup [.int a,.int b,.int c]]=>.ok (.int (G.y7 ⟨a,b,c⟩))
 |_=>.bad
def BJ (v:G.V):D1 [vd v]=.ok (.int (G.y7 v)):=rfl
def Sz3 (P Q R:G.V):Prop:=Sz 1000 P/\Sz 1000 Q/\Sz 1000 R
open Classical in
def S4:List D->R D:=v1 λa b c=>v1 λd e f=>v1 λg h i=>jZ (
 if Sz3 ⟨a,b,c⟩ ⟨d,e,f⟩ ⟨g,h,i⟩/\G.cr ((⟨d,e,f⟩:G.V)-⟨a,b,c⟩) ((⟨g,h,i⟩:G.V)-⟨a,b,c⟩)≠0 then .ok (wO (G.j6 ⟨a,b,c⟩ ⟨d,e,f⟩ ⟨g,h,i⟩).1 (G.j6 ⟨a,b,c⟩ ⟨d,e,f⟩ ⟨g,h,i⟩).2)else .bad)
def KQ {P Q R:G.V}(h:Sz3 P Q R)(hc:G.cr (Q-P) (R-P)≠0):S4 [vd P,vd Q,vd R]=.ok (wO (G.j6 P Q R).1 (G.j6 P Q R).2):=if_pos ⟨h,hc⟩
def GZ (h:Sz n v):bits (G.y7 v:Nat)<=n:=by
 have e:((G.y7 v:Nat):Int)=aGf (aGf v.x v.y:Nat) v.z:=by simp[G.y7,aGf]
 rw[e];exact yK (yK h.1 h.2.1) h.2.2
def oK {a g:Int}(h:0<g):a.fdiv g=a/g:=Int.fdiv_eq_ediv_of_nonneg a (aAZ h)
end M
namespace ST
open PySem PySem.SetTable
def IV (xs:Array Nat):Prop:=∀(i k:Nat) (hi:i<xs.size) (hk:k<xs.size),i<k->xs[i]<xs[k]
theorem vZ (xs:Array Nat)(j:Nat)(ha:IV xs):∀(fuel lo hi:Nat),lo<=hi->hi<=xs.size->hi-lo<=fuel->(∀i (h:i<xs.size),i<lo->xs[i]<j)->(∀i (h:i<xs.size),hi<=i->j<=xs[i])->
  below.go xs j fuel lo hi<=xs.size/\(∀i (h:i<xs.size),i<below.go xs j fuel lo hi->xs[i]<j)/\(∀i (h:i<xs.size),below.go xs j fuel lo hi<=i->j<=xs[i])
 |0,lo,hi,h1,h2,h3,h4,h5=>by
  have:lo=hi:=by lia
  subst this;unfold below.go;exact⟨h2,h4,h5⟩
 |fuel+1,lo,hi,h1,h2,h3,h4,h5=>by
  unfold below.go;by_cases av:lo<hi
  ·rw[if_pos av];have hm:(lo+hi)/2<xs.size:=by lia
   have e:xs.getD ((lo+hi)/2) j=xs[(lo+hi)/2]:=by simp[aET,hm]
   dsimp only;rw[e];by_cases hc:xs[(lo+hi)/2]<j
   ·rw[if_pos hc];refine vZ xs j ha fuel _ _ (by lia) h2 (by lia) (λi h gg=>?_) h5;by_cases q:i=(lo+hi)/2
    ·subst q;exact hc
    ·exact aGi (ha i _ h hm (by lia)) hc
   ·rw[if_neg hc];refine vZ xs j ha fuel _ _ (by lia) (by lia) (by lia) h4 (λi h gg=>?_);by_cases q:i=(lo+hi)/2
    ·subst q;lia
    ·have:=ha _ i hm h (by lia);lia
  ·rw[if_neg av];have:lo=hi:=by lia
   subst this;exact⟨h2,h4,h5⟩
def bT (ha:IV xs)(j:Nat):below xs j<=xs.size/\(∀i (h:i<xs.size),i<below xs j->xs[i]<j)/\(∀i (h:i<xs.size),below xs j<=i->j<=xs[i]):=
 vZ xs j ha xs.size 0 xs.size (aAX _) (aAh _) (by lia) (λi h hi=>by lia) (λi h hi=>by lia)
def NE (ha:IV xs)(h:xs[i]?=some j):below xs j=i:=by
 obtain⟨hi,e⟩:=aBX.mp h;obtain⟨b1,b2,b3⟩:=bT ha j;rcases Nat.lt_trichotomy (below xs j) i with q|q|q
 ·have hb:below xs j<xs.size:=by lia
  have h1:=b3 _ hb (aAh _);have h2:=ha _ _ hb hi q
  lia
 ·exact q
 ·have:=b2 i hi q;lia
structure Tab (t:SetTable):Prop where
 asc:IV t.place
 le:∀j∈t.place.toList,j<=t.mask
 nod:t.dummies=#[]
def M4 (T:Tab t)(h:t.place[i]?=some j):t.slot j=.live i:=by unfold slot;rw[NE T.asc h];dsimp only;rw[h];simp
def AC (T:Tab t)(h:j∉t.place.toList):t.slot j=.empty:=by
 unfold slot;have h1:¬(t.place[below t.place j]?==some j)=true:=λz=>h (by have:=beq_iff_eq.mp z;obtain⟨hi,e⟩:=aBX.mp this;rw[<-e];simp)
 dsimp only;rw[if_neg h1,T.nod];rw[if_neg (by unfold has;simp)]
def CC (T:Tab t)(j:Nat):(t.slot j=.empty/\j∉t.place.toList)\/∃i,t.slot j=.live i/\t.place[i]?=some j:=by
 by_cases h:j∈t.place.toList
 ·obtain⟨i,hi,e⟩:=aBi h;have:t.place[i]?=some j:=by rw[<-aAB,aAi hi,e]
  exact .inr ⟨i,M4 T this,this⟩
 ·exact .inl ⟨AC T h,h⟩
def RD (mask:Nat)(p:Probe):Probe:=if p.more>0 then{p with j:=p.j+1,more:=p.more-1}else{p with j:=(leap mask p.i p.perturb).1,more:=runEnd mask (leap mask p.i p.perturb).1-(leap mask p.i p.perturb).1,i:=(leap mask p.i p.perturb).1,perturb:=(leap mask p.i p.perturb).2}
def qB (t:SetTable)(p:Probe):t.advance p=RD t.mask p:=rfl
def start (mask:Nat)(h:Int):Probe:={j:=bits h%(mask+1),more:=runEnd mask (bits h%(mask+1))-bits h%(mask+1),i:=bits h%(mask+1),perturb:=bits h,dummy:=none}
def n9 (mask:Nat)(h:Int):Nat->Probe
 |0=>start mask h
 |n+1=>RD mask (n9 mask h n)
theorem oU (mask:Nat)(h:Int):∀n,(n9 mask h n).dummy=none
 |0=>rfl
 |n+1=>by have:=oU mask h n;show(RD mask _).dummy=none;unfold RD;split<;>exact this
def D9 (mask:Nat)(h:Int):Nat->Nat×Nat
 |0=>(bits h%(mask+1),bits h)
 |k+1=>leap mask (D9 mask h k).1 (D9 mask h k).2
def len (mask i:Nat):Nat:=runEnd mask i-i
def XS (mask i:Nat):len mask i<=9:=by unfold len runEnd;split<;>lia
def off (mask:Nat)(h:Int):Nat->Nat
 |0=>0
 |k+1=>off mask h k+len mask (D9 mask h k).1+1
theorem JT (mask:Nat)(h:Int):∀k,off mask h k<=10*k
 |0=>aAh _
 |k+1=>by have:=JT mask h k;have:=XS mask (D9 mask h k).1;show off mask h k+_+1<=_;lia
theorem W3 (mask:Nat)(h:Int):∀k r,r<=len mask (D9 mask h k).1->
  n9 mask h (off mask h k+r)={j:=(D9 mask h k).1+r,more:=len mask (D9 mask h k).1-r,i:=(D9 mask h k).1,perturb:=(D9 mask h k).2,dummy:=none}
 |0,0,_=>rfl
 |0,r+1,hr=>by
  have ih:=W3 mask h 0 r (by lia);have e:off mask h 0+(r+1)=(off mask h 0+r)+1:=by lia
  rw[e,n9,ih];unfold RD;rw[if_pos (show len mask (D9 mask h 0).1-r>0 by lia)];simp
  lia
 |k+1,0,_=>by have ih:=W3 mask h k (len mask (D9 mask h k).1) (aAh _);have e:off mask h (k+1)+0=(off mask h k+len mask (D9 mask h k).1)+1:=rfl;rw[e,n9,ih];unfold RD;rw[if_neg (by simp)];simp[D9,len]
 |k+1,r+1,hr=>by
  have ih:=W3 mask h (k+1) r (by lia);have e:off mask h (k+1)+(r+1)=(off mask h (k+1)+r)+1:=by lia
  rw[e,n9,ih];unfold RD;rw[if_pos (show len mask (D9 mask h<|k+1).1-r>0 by lia)];simp
  lia
def JY (mask:Nat)(h:Int)(k:Nat):(n9 mask h (off mask h k)).j=(D9 mask h k).1:=by have:=W3 mask h k 0 (aAX _);rw[Nat.add_zero]at this;rw[this];rfl
theorem iY (mask:Nat)(h:Int):∀k,(D9 mask h k).2<2^64/32^k+1
 |0=>by
  show bits h<_;unfold bits;have:=Int.emod_lt_of_pos h (show(0:Int)<2^64 by decide)
  lia
 |k+1=>by
  have ih:=iY mask h k;show(D9 mask h k).2/32<_;have e:∀N,N/32^(k+1)=N/32^k/32:=λN=>by rw[Nat.div_div_eq_div_mul];rfl
  rw[e]
  lia
theorem sW (mask:Nat)(h:Int):∀k,(D9 mask h (13+k)).2=0
 |0=>by have:=iY mask h 13;simp at this;exact this
 |k+1=>by have:=sW mask h k;show(D9 mask h<|13+k).2/32=0;rw[this]
def lcg (m:Nat)(i:Nat):Nat:=(i*5+1)%m
def C8 (m:Nat):Nat->Nat->Nat
 |0,i=>i
 |n+1,i=>lcg m (C8 m n i)
theorem oI (mask:Nat)(h:Int):∀k,(D9 mask h (13+k)).1=C8 (mask+1) k (D9 mask h 13).1
 |0=>rfl
 |k+1=>by have ih:=oI mask h k;show((D9 mask h<|13+k).1*5+1+(D9 mask h<|13+k).2/32)%(mask+1)=_;rw[sW,ih];rfl
theorem jV (m:Nat):∀a b i,C8 m (a+b) i=C8 m a (C8 m b i)
 |0,b,i=>by rw[aFu];rfl
 |a+1,b,i=>by rw[show a+1+b=(a+b)+1 by lia];show lcg m _=lcg m _;rw[jV m a b i]
def mR (m:Nat):Prop:=C8 m m 0=0/\∀j<m,∃n<m,C8 m n 0=j
def rX (F:mR m)(hi:i<m)(hj:j<m):∃n<m,C8 m n i=j:=by
 obtain⟨a,ha,ea⟩:=F.2 i hi;obtain⟨b,hb,eb⟩:=F.2 j hj;by_cases h:a<=b
 ·exact⟨b-a,by lia,by rw[<-ea,<-jV,show b-a+a=b by lia,eb]⟩
 ·refine⟨b+(m-a),by lia,?_⟩;rw[<-ea,<-jV,show b+(m-a)+a=b+m by lia,jV,F.1,eb]
instance(m:Nat):Decidable (mR m):=inferInstanceAs (Decidable<|_/\_)
def a0b:mR 8:=by decide+kernel
def ZC:mR 32:=by decide+kernel
def TQ:mR 128:=by decide+kernel
theorem DR (mask:Nat)(h:Int):∀k,(D9 mask h k).1<mask+1
 |0=>aEU _ (by lia)
 |k+1=>aEU _ (by lia)
def BD {mask:Nat}(F:mR (mask+1))(h:Int){j:Nat}(hj:j<=mask):∃n,n<=10*(mask+14)/\(n9 mask h n).j=j:=by
 obtain⟨k,hk,e⟩:=rX F (DR mask h 13) (show j<mask+1 by lia);refine⟨off mask h (13+k),?_,?_⟩
 ·have:=JT mask h (13+k);lia
 ·rw[JY,oI,e]
end ST
namespace ST
open PySem PySem.SetTable
def uZ {α β:Type}{l:List α}{m:List β}{p:Nat}{a:α×β}(h:a∈(l.take p).zip (m.take p)):a∈l.zip m:=by
 obtain⟨i,hi⟩:=aDn.mp h;rw[aBs]at hi;refine aAs (i:=i) ?_;rw[aBs];have q:∀{γ:Type} {l:List γ} {c:γ},(l.take p)[i]?=some c->l[i]?=some c:=λ{γ l c} h=>by
  rw[List.getElem?_take]at h;split at h
  ·exact h
  ·cases h
 exact⟨q hi.1,q hi.2⟩
def uG {α β:Type}{l:List α}{m:List β}{p:Nat}{a:α×β}(h:a∈(l.drop p).zip (m.drop p)):a∈l.zip m:=by obtain⟨i,hi⟩:=aDn.mp h;rw[aBs,List.getElem?_drop,List.getElem?_drop]at hi;refine aAs (i:=p+i) ?_;rw[aBs];exact hi
theorem ES (mask:Nat)(h:Int):∀n,(n9 mask h n).j+(n9 mask h n).more<=mask
 |0=>by have:=aEU (bits h) (show 0<mask+1 by lia);show bits h%(mask+1)+(runEnd mask (bits h%(mask+1))-bits h%(mask+1))<=mask;unfold runEnd;split<;>lia
 |n+1=>by
  have ih:=ES mask h n;show(RD mask<|n9 mask h n).j+(RD mask<|n9 mask h n).more<=mask;unfold RD;split
  ·dsimp only;lia
  ·dsimp only;have:(leap mask (n9 mask h n).i (n9 mask h n).perturb).1<mask+1:=aEU _ (by lia);unfold runEnd;split<;>lia
def uB (mask:Nat)(h:Int)(n:Nat):(n9 mask h n).j<=mask:=by have:=ES mask h n;lia
theorem Q3 {α:Type}[DecidableEq α]:∀{l m:List α},l.Nodup->(∀x∈l,x∈m)->l.length<=m.length
 |[],_,_,_=>aAX _
 |x::l,m,h,hs=>by
  have hx:=hs x (by simp);have h':=aAM.mp h;have:=Q3 (l:=l) (m:=m.erase x) h'.2 (λy hy=>by
   have ne:y≠x:=λe=>by subst e;exact h'.1 hy
   exact(aFH ne).mpr (hs y<|aAd _ hy))
  rw[aEV hx]at this;have:0<m.length:=aDM hx;simp only[aAv]
  lia
def GO {t:SetTable}(h:t.place.size<=t.mask):∃j≤t.mask,j∉t.place.toList:=by
 by_cases z:∃j≤t.mask,j∉t.place.toList
 ·exact z
 ·exfalso;have:=Q3 (l:=aBL (t.mask+1)) (m:=t.place.toList) List.nodup_range (λj hj=>by
   by_cases q:j∈t.place.toList
   ·exact q
   ·exact absurd ⟨j,by have:=aCc.mp hj;lia,q⟩ z)
  simp at this
  lia
theorem least {P:Nat->Prop}[DecidablePred P]:∀n,P n->∃m≤n,P m/\∀k<m,¬P k
 |0,h=>⟨0,aAh _,h,λk hk=>by lia⟩
 |n+1,h=>by
  by_cases z:∃k≤n,P k
  ·obtain⟨k,hk,hp⟩:=z;obtain⟨m,h1,h2,h3⟩:=least k hp;exact⟨m,by lia,h2,h3⟩
  ·exact⟨n+1,aAh _,h,λk hk hp=>z ⟨k,by lia,hp⟩⟩
termination_by n=>n
def V5 (t:SetTable)(h:Int)(n0:Nat):Prop:=n0<=10*(t.mask+14)/\(n9 t.mask h n0).j∉t.place.toList/\∀m<n0,(n9 t.mask h m).j∈t.place.toList
def CT {t:SetTable}(F:mR (t.mask+1))(hs:t.place.size<=t.mask)(h:Int):∃n0,V5 t h n0:=by obtain⟨j,hj,hn⟩:=GO hs;obtain⟨n,h1,h2⟩:=BD F h hj;obtain⟨m,h3,h4,h5⟩:=least (P:=λn=>(n9 t.mask h n).j∉t.place.toList) n (by rw[h2];exact hn);exact⟨m,by lia,h4,λk hk=>by have:=h5 k hk;simpa using this⟩
theorem zG (T:Tab t)(hashAt:Nat->Int)(h:Int)(hf:V5 t h n0):∀(fuel n:Nat),n<=n0->n0-n<fuel->
  ∃n',n<=n'/\n'<=n0/\(∀m,n<=m->m<n'->∃i,t.place[i]?=some (n9 t.mask h m).j/\hashAt i≠h)/\
   ((n'=n0/\probe.go t hashAt h fuel (n9 t.mask h n)=some (.empty (n9 t.mask h n0).j none))\/
    (n'<n0/\∃i,t.place[i]?=some (n9 t.mask h n').j/\hashAt i=h/\probe.go t hashAt h fuel (n9 t.mask h n)=some (.candidate (n9 t.mask h n').j i (n9 t.mask h (n'+1)))))
 |0,n,_,h2=>by lia
 |fuel+1,n,h1,h2=>by
  unfold probe.go;rcases CC T (n9 t.mask h n).j with⟨e,hn⟩|⟨i,e,hi⟩
  ·have:n=n0:=by
     by_cases q:n<n0
     ·exact absurd (hf.2.2 n q) hn
     ·lia
   subst this;refine⟨n,aAh _,aAh _,λm a b=>by lia,.inl ⟨rfl,?_⟩⟩;rw[e];dsimp only;rw[oU]
  ·have bc:n≠n0:=λq=>by subst q;refine hf.2.1 ?_;rw[<-aAB]at hi;exact aAs hi
   rw[e];dsimp only;by_cases hh:hashAt i=h
   · refine⟨n,aAh _,by lia,λm a b=>by lia,.inr ⟨by lia,i,hi,hh,?_⟩⟩
     rw[if_pos (by simpa using hh),qB];rfl
   · rw[if_neg (by simpa using hh),qB]
     obtain⟨n',a1,a2,a3,a4⟩:=zG T hashAt h hf fuel (n+1) (by lia) (by lia);refine⟨n',by lia,a2,λm b1 b2=>?_,a4⟩;by_cases q:m=n
     ·subst q;exact⟨i,hi,hh⟩
     ·exact a3 m (by lia) b2
def PJ (T:Tab t)(hashAt:Nat->Int)(h:Int)(hf:V5 t h n0)(n:Nat)(h1:n<=n0):
  ∃n',n<=n'/\n'<=n0/\(∀m,n<=m->m<n'->∃i,t.place[i]?=some (n9 t.mask h m).j/\hashAt i≠h)/\
   ((n'=n0/\t.probe hashAt h (n9 t.mask h n)=some (.empty (n9 t.mask h n0).j none))\/
    (n'<n0/\∃i,t.place[i]?=some (n9 t.mask h n').j/\hashAt i=h/\t.probe hashAt h (n9 t.mask h n)=some (.candidate (n9 t.mask h n').j i (n9 t.mask h (n'+1))))):=
 zG T hashAt h hf _ n h1 (by have:=hf.1;unfold turns;lia)
def Reach (mask:Nat)(occ:Nat->Prop)(h:Int)(j:Nat):Prop:=∃n,(n9 mask h n).j=j/\∀m<n,occ (n9 mask h m).j
def Reach.mono {mask:Nat}{o o':Nat->Prop}{h:Int}{j:Nat}(r:Reach mask o h j)(i:∀k,o k->o' k):Reach mask o' h j:=by obtain⟨n,e,q⟩:=r;exact⟨n,e,λm hm=>i _ (q m hm)⟩
def Reach.before (hf:V5 t h n0)(hj:j∈t.place.toList)(r:Reach t.mask (λk=>k∈t.place.toList) h j):∃n<n0,(n9 t.mask h n).j=j:=by
 obtain⟨n,e,q⟩:=r;refine⟨n,?_,e⟩;by_cases z:n<n0
 ·exact z
 ·exfalso;by_cases y:n=n0
  ·subst y;exact hf.2.1 (by rw[e];exact hj)
  ·exact hf.2.1 (q n0 (by lia))
def fP {α:Type}(xs:Array α)(p:Nat)(x:α):(insertAt xs p x).toList=xs.toList.take p++x::xs.toList.drop p:=by
 unfold insertAt;simp[Array.toList_extract,List.extract_eq_drop_take];have:xs.size-p=(xs.toList.drop p).length:=by simp
 rw[this,List.take_length]
def zK (t:SetTable)(es:List (Int×Value)):List (Nat×Int×Value):=t.place.toList.zip es
structure SOk (t:SetTable)(es:List (Int×Value)):Prop where
 tab:Tab t
 full:mR (t.mask+1)
 len:t.place.size=es.length
 room:t.place.size<=t.mask
 reach:∀e∈zK t es,Reach t.mask (λk=>k∈t.place.toList) e.2.1 e.1
def TJ {t:SetTable}{es:List (Int×Value)}(hl:t.place.size=es.length){i:Nat}{e:Int×Value}(h:es[i]?=some e):∃j,t.place[i]?=some j/\(j,e)∈zK t es:=by
 have hi:i<es.length:=(aAz.mp h).1;have gg:i<t.place.toList.length:=by simpa[hl]using hi
 refine⟨t.place.toList[i],by rw[<-aAB,aAi gg],?_⟩;unfold zK;refine aAs (i:=i) ?_;rw[aBs];exact⟨aAi gg,h⟩
def YK {t:SetTable}{es:List (Int×Value)}(S:SOk t es){h:Int}{x:Value}{n0:Nat}(hf:V5 t h n0)(hr:t.place.size+1<=t.mask):
  SOk (t.put (n9 t.mask h n0).j).1 (es.take (t.put (n9 t.mask h n0).j).2++(h,x)::es.drop (t.put (n9 t.mask h n0).j).2):=by
 have hj:=uB t.mask h n0;obtain⟨b1,b2,b3⟩:=bT S.tab.asc (n9 t.mask h n0).j;generalize hJ:(n9 t.mask h n0).j=J at*
 have hf2:J∉t.place.toList:=by rw[<-hJ];exact hf.2.1
 have ep:(t.put J).2=below t.place J:=rfl;have em:(t.put J).1.mask=t.mask:=rfl;have epl:(t.put J).1.place=insertAt t.place (below t.place J) J:=rfl;have lpl:=fP t.place (below t.place J) J;have mem:∀k,k∈(t.put J).1.place.toList↔k∈t.place.toList\/k=J:=λk=>by
  rw[epl,lpl,aAH,aAe];constructor
  ·rintro(q|q|q)
   ·exact .inl (aCN q)
   ·exact .inr q
   ·exact .inl (aCs q)
  ·rintro(q|q)
   ·rw[<-aFv (below t.place J) t.place.toList,aAH]at q;rcases q with q|q
    ·exact .inl q
    ·exact .inr (.inr q)
   ·exact .inr (.inl q)
 have iu:(t.put J).1.place.size=t.place.size+1:=by
  rw[<-aAW,epl,lpl,aAD,aBl,aAv,aDc,aAW]
  lia
 refine⟨⟨?_,λj wc=>?_,?_⟩,S.full,?_,by rw[iu];exact hr,λe he=>?_⟩
 ·
  have asc:t.place.toList.Pairwise (· <·):=by rw[aCf];intro i j hi hj ma;simpa using S.tab.asc i j (by simpa using hi) (by simpa using hj) ma
  have lt1:∀a∈t.place.toList.take (below t.place J),a<J:=λa ha=>by
   obtain⟨i,hi,e⟩:=aBi ha;rw[aBl]at hi;rw[List.getElem_take]at e;have:=b2 i (by simp at hi;lia) (by lia);simp at e
   lia
  have gt1:∀a∈t.place.toList.drop (below t.place J),J<a:=λa ha=>by
   obtain⟨i,hi,e⟩:=aBi ha;rw[aDc]at hi;rw[List.getElem_drop]at e;have h1:=b3 (below t.place J+i) (by simp at hi;lia) (by lia);simp at e;have h2:J≠a:=λq=>hf2 (by rw[q];exact aCs ha)
   lia
  have pw:(t.put J).1.place.toList.Pairwise (· <·):=by
   rw[epl,lpl,List.pairwise_append];refine⟨asc.sublist (List.take_sublist _ _),aAy.mpr ⟨gt1,asc.sublist (List.drop_sublist _ _)⟩,λa ha b hb=>?_⟩;rcases aAe.mp hb with q|q
   ·subst q;exact lt1 a ha
   ·exact aGi (lt1 a ha) (gt1 b q)
  intro i k hi hk hik;have:=aCf.mp pw i k (by simpa using hi) (by simpa using hk) hik;simpa using this
 ·rcases(mem j).mp wc with q|q
  ·exact S.tab.le j q
  ·subst q;exact hj
 ·show(if has t.dummies J then _ else t.dummies)=#[];rw[S.tab.nod,if_neg (by unfold has;simp)]
 ·rw[iu,ep,aAD,aBl,aAv,aDc];have:=S.len
  lia
 ·have yp:e∈zK t es\/e=(J,h,x):=by
   unfold zK at he;rw[epl,lpl,ep]at he;rw[List.zip_append (by rw[aBl,aBl,aAW,S.len])]at he;rcases aAH.mp he with q|q
   ·left;unfold zK;exact uZ q
   ·rw[aBN]at q;rcases aAe.mp q with q|q
    ·exact .inr q
    ·left;unfold zK;exact uG q
  rcases yp with q|q
  ·exact(S.reach e q).mono λk hk=>(mem k).mpr (.inl hk)
  ·subst q;exact⟨n0,hJ,λm hm=>(mem _).mpr (.inl (hf.2.2 m hm))⟩
end ST
namespace ST
open PySem PySem.SetTable
def R7 (owner:Array (Option Nat))(j:Nat):Prop:=(owner.getD j<|some 0).isNone=false
theorem tY {mask:Nat}(h:Int)(owner:Array (Option Nat)):∀(fuel k:Nat),(∃kk,k<=kk/\kk<k+fuel/\¬R7 owner (D9 mask h kk).1)->
  ∃n,off mask h k<=n/\layClean.free mask owner fuel (D9 mask h k).1 (D9 mask h k).2=some (n9 mask h n).j/\¬R7 owner (n9 mask h n).j/\∀m,off mask h k<=m->m<n->R7 owner (n9 mask h m).j
 |0,k,⟨kk,h1,h2,_⟩=>by lia
 |fuel+1,k,⟨kk,h1,h2,h3⟩=>by
  have eL:runEnd mask (D9 mask h k).1+1-(D9 mask h k).1=len mask (D9 mask h k).1+1:=by unfold len runEnd;split<;>lia
  unfold layClean.free;rw[eL];cases e:(aBL<|len mask (D9 mask h k).1+1).find? λr=>(owner.getD ((D9 mask h k).1+r)<|some 0).isNone with
  |some r=>
   have q:=List.find?_some e;have hr:r<len mask (D9 mask h k).1+1:=aCc.mp (List.mem_of_find?_eq_some e);have ej:(n9 mask h<|off mask h k+r).j=(D9 mask h k).1+r:=by rw[W3 mask h k r (by lia)]
   refine⟨off mask h k+r,by lia,by rw[ej],by rw[ej];unfold R7;rw[q];simp,λm a b=>?_⟩;have em:(n9 mask h m).j=(D9 mask h k).1+(m-off mask h k):=by have:=W3 mask h k (m-off mask h k) (by lia);rw[show off mask h k+(m-off mask h k)=m by lia]at this;rw[this]
   rw[em];unfold R7;rw[List.find?_range_eq_some]at e;have:=e.2.2 (m-off mask h k) (by lia);simpa using this
  |none=>
   have all:∀r<len mask (D9 mask h k).1+1,R7 owner ((D9 mask h k).1+r):=λr hr=>by have:=List.find?_eq_none.mp e r (aCc.mpr hr);unfold R7;exact Bool.not_eq_true _▸this
   have hk:kk≠k:=λq=>by subst q;have:=all 0 (by lia);rw[Nat.add_zero]at this;exact h3 this
   obtain⟨n,a1,a2,a3,a4⟩:=tY h owner fuel (k+1) ⟨kk,by lia,by lia,h3⟩;have eo:off mask h (k+1)=off mask h k+len mask (D9 mask h k).1+1:=rfl;refine⟨n,by lia,a2,a3,λm b1 b2=>?_⟩;by_cases q:off mask h (k+1)<=m
   ·exact a4 m q b2
   ·have em:(n9 mask h m).j=(D9 mask h k).1+(m-off mask h k):=by have:=W3 mask h k (m-off mask h k) (by lia);rw[show off mask h k+(m-off mask h k)=m by lia]at this;rw[this]
    rw[em];exact all _ (by lia)
def nI {mask:Nat}(F:mR (mask+1))(h:Int)(owner:Array (Option Nat)){j:Nat}(hj:j<=mask)(hn:¬R7 owner j):
  ∃n,layClean.free mask owner (turns mask) (aDH h%(mask+1)) (aDH h)=some (n9 mask h n).j/\¬R7 owner (n9 mask h n).j/\∀m<n,R7 owner (n9 mask h m).j:=by
 obtain⟨k,hk,e⟩:=rX F (DR mask h 13) (show j<mask+1 by lia);obtain⟨n,a1,a2,a3,a4⟩:=tY h owner (turns mask) 0 ⟨13+k,aAX _,by unfold turns;lia,by rw[oI,e];exact hn⟩;exact⟨n,a2,a3,λm hm=>a4 m (aAX _) hm⟩
structure Laid (mask:Nat)(hs:List Int)(owner:Array (Option Nat))(k:Nat):Prop where
 size:owner.size=mask+1
 lt:∀(j i:Nat),owner[j]?=some (some i)->i<k
 inj:∀(j j' i:Nat),owner[j]?=some (some i)->owner[j']?=some (some i)->j=j'
 sur:∀i<k,∃j:Nat,owner[j]?=some (some i)
 reach:∀(j i:Nat) (h:Int),owner[j]?=some (some i)->hs[i]?=some h->Reach mask (λl=>∃i,owner[l]?=some (some i)) h j
def lJ {owner:Array (Option Nat)}{mask j:Nat}(hs:owner.size=mask+1)(hj:j<=mask):R7 owner j↔∃i,owner[j]?=some (some i):=by
 unfold R7;have av:j<owner.size:=by lia
 have e:owner.getD j (some 0)=owner[j]:=by simp[aET,av]
 rw[e,aAG av];cases owner[j]with
 |none=>simp
 |some i=>simp
def Laid.room {mask k:Nat}{hs:List Int}{owner:Array (Option Nat)}(L:Laid mask hs owner k)(hk:k<=mask):∃j≤mask,¬R7 owner j:=by
 by_cases z:∃j≤mask,¬R7 owner j
 ·exact z
 ·exfalso;have all:∀j≤mask,∃i,owner[j]?=some (some i):=λj hj=>by
   by_cases q:R7 owner j
   ·exact(lJ L.size hj).mp q
   ·exact absurd ⟨j,hj,q⟩ z
  have key:∀n,n<=mask+1->∃l:List Nat,l.length=n/\l.Nodup/\(∀i∈l,i<k)/\∀i∈l,∃j<n,owner[j]?=some (some i):=λn=>by
   induction n with
   |zero=>exactλ_=>⟨[],rfl,aCw,by simp,by simp⟩
   |succ n ih=>
    intro hn;obtain⟨l,h1,h2,h3,h4⟩:=ih (by lia);obtain⟨i,hi⟩:=all n (by lia);refine⟨i::l,by simp[h1],aAM.mpr ⟨λq=>?_,h2⟩,λx hx=>?_,λx hx=>?_⟩
    ·obtain⟨j,hj,e⟩:=h4 i q;have:=L.inj j n i e hi
     lia
    ·rcases aAe.mp hx with q|q
     ·subst q;exact L.lt _ _ hi
     ·exact h3 x q
    ·rcases aAe.mp hx with q|q
     ·subst q;exact⟨n,by lia,hi⟩
     ·obtain⟨j,hj,e⟩:=h4 x q;exact⟨j,by lia,e⟩
  obtain⟨l,h1,h2,h3,_⟩:=key (mask+1) (aAh _);have:=Q3 (m:=aBL k) h2 (λx hx=>aCc.mpr (h3 x hx));simp at this
  lia
def BE (mask:Nat)(hs:List Int):Laid mask hs (aEp (mask+1) none) 0:=by
 have no:∀(j i:Nat),(aEp (mask+1) (none:Option Nat))[j]?=some (some i)->False:=λj i h=>by rw[Array.getElem?_replicate]at h;split at h<;>cases h
 exact⟨by simp,λj i h=>(no j i h).elim,λj j' i h=>(no j i h).elim,λi hi=>by lia,λj i _ h=>(no j i h).elim⟩
def Laid.step {mask k:Nat}{hs:List Int}{owner:Array (Option Nat)}(L:Laid mask hs owner k){h:Int}(hk:hs[k]?=some h){n:Nat}(h2:¬R7 owner (n9 mask h n).j)(h3:∀m<n,R7 owner (n9 mask h m).j):
  Laid mask hs (owner.setIfInBounds (n9 mask h n).j (some k)) (k+1):=by
 have hJ:=uB mask h n;have hJ':(n9 mask h n).j<owner.size:=by rw[L.size];lia
 have get:∀(j i:Nat),(owner.setIfInBounds (n9 mask h n).j (some k))[j]?=some (some i)↔(j=(n9 mask h n).j/\i=k)\/(j≠(n9 mask h n).j/\owner[j]?=some (some i)):=λj i=>by
  rw[Array.getElem?_setIfInBounds];by_cases q:(n9 mask h n).j=j
  ·rw[if_pos q,if_pos hJ'];simp[q,eq_comm]
  ·rw[if_neg q];constructor
   ·intro z;exact .inr ⟨λy=>q y.symm,z⟩
   ·rintro(⟨z,_⟩|⟨_,z⟩)
    ·exact absurd z.symm q
    ·exact z
 have fr:∀i,owner[(n9 mask h n).j]?≠some (some i):=λi z=>h2 ((lJ L.size hJ).mpr ⟨i,z⟩);have grow:∀l:Nat,(∃i:Nat,owner[l]?=some (some i))->∃i:Nat,(owner.setIfInBounds (n9 mask h n).j (some k))[l]?=some (some i):=λl hl=>by
  obtain⟨i,z⟩:=hl;by_cases q:l=(n9 mask h n).j
  ·exact⟨k,(get l k).mpr (.inl ⟨q,rfl⟩)⟩
  ·exact⟨i,(get l i).mpr (.inr ⟨q,z⟩)⟩
 refine⟨by simp[L.size],λj i z=>?_,λj j' i z z'=>?_,λi hi=>?_,λj i h' z e=>?_⟩
 ·rcases(get j i).mp z with⟨_,q⟩|⟨_,q⟩
  ·lia
  ·have:=L.lt j i q;lia
 ·rcases(get j i).mp z with⟨q1,q2⟩|⟨q1,q2⟩
  ·rcases(get j' i).mp z' with⟨r1,r2⟩|⟨r1,r2⟩
   ·rw[q1,r1]
   ·subst q2;have:=L.lt _ _ r2;lia
  ·rcases(get j' i).mp z' with⟨r1,r2⟩|⟨r1,r2⟩
   ·subst r2;have:=L.lt _ _ q2;lia
   ·exact L.inj j j' i q2 r2
 ·by_cases q:i=k
  ·subst q;exact⟨_,(get _ _).mpr (.inl ⟨rfl,rfl⟩)⟩
  ·obtain⟨j,z⟩:=L.sur i (by lia);exact⟨j,(get j i).mpr (.inr ⟨λy=>by subst y;exact fr i z,z⟩)⟩
 ·rcases(get j i).mp z with⟨q1,q2⟩|⟨q1,q2⟩
  ·subst q1 q2;have:h'=h:=aAj (e.symm.trans hk);subst this;exact⟨n,rfl,λm hm=>grow _ ((lJ L.size<|uB mask h' m).mp (h3 m hm))⟩
  ·exact(L.reach j i h' q2 e).mono grow
def yQ {mask:Nat}(F:mR (mask+1))(hs:Array Int)(hl:hs.size<=mask):∃owner,layClean mask hs=some owner/\Laid mask hs.toList owner hs.size:=by
 have go:∀(post pre:List Int) (owner:Array (Option Nat)),hs.toList=pre++post->Laid mask hs.toList owner pre.length->
   ∃nu,post.foldl (λacc h=>do
    let(owner,k)<-acc
    let j<-layClean.free mask owner (turns mask) (aDH h%(mask+1)) (aDH h)
    pure (owner.setIfInBounds j (some k),k+1)) (some (owner,pre.length))=some (nu,hs.size)/\Laid mask hs.toList nu hs.size:=λpost=>by
  induction post with
  |nil=>
   intro pre owner e L;have:pre.length=hs.size:=by rw[<-aAW,e];simp
   exact⟨owner,by rw[List.foldl_nil,this],by rw[<-this];exact L⟩
  |cons h post ih=>
   intro pre owner e L;have hlen:pre.length<hs.size:=by rw[<-aAW,e];simp
   obtain⟨j,hj,hn⟩:=L.room (by lia);obtain⟨n,f1,f2,f3⟩:=nI F h owner hj hn;have hk:hs.toList[pre.length]?=some h:=by rw[e];simp
   have L':=L.step hk f2 f3;rw[aEn];have e2:hs.toList=(pre++[h])++post:=by rw[e];simp
   obtain⟨nu,g1,g2⟩:=ih (pre++[h]) _ e2 (by rw[aAD];exact L');refine⟨nu,?_,g2⟩;rw[<-g1];congr 1;simp[f1]
 obtain⟨owner,h1,h2⟩:=go hs.toList [] (aEp (mask+1) none) rfl (BE mask hs.toList);refine⟨owner,?_,h2⟩;unfold layClean;rw[<-Array.foldl_toList];have ym:aGa (λacc h=>do
    let(owner,k)<-acc
    let j<-layClean.free mask owner (turns mask) (aDH h%(mask+1)) (aDH h)
    pure (owner.setIfInBounds j (some k),k+1)) (some (aEp (mask+1) none,0)) hs.toList=some (owner,hs.size):=h1
 rw[ym];rfl
end ST
namespace ST
open PySem PySem.SetTable
def G3 (mask:Nat)(owner:Array (Option Nat)):List (Nat×Nat):=(aBL<|mask+1).filterMap λj=>(owner.getD j none).map (j,·)
def Q9 {mask:Nat}{owner:Array (Option Nat)}(hs:owner.size=mask+1){j i:Nat}:(j,i)∈G3 mask owner↔owner[j]?=some (some i):=by
 unfold G3;rw[aBE];constructor
 ·rintro⟨l,hl,e⟩;have jb:l<owner.size:=by rw[hs];exact aCc.mp hl
  have eg:owner.getD l none=owner[l]:=by simp[aET,jb]
  rw[eg,aCB]at e;obtain⟨i',e1,e2⟩:=e;cases e2;rw[aAG jb,e1]
 ·intro e;obtain⟨hl,e1⟩:=aBX.mp e;have eg:owner.getD j none=owner[j]:=by simp[aET,hl]
  exact⟨j,aCc.mpr (by lia),by rw[eg,e1];rfl⟩
def zP (mask:Nat)(owner:Array (Option Nat)):((G3 mask owner).map (·.1)).Pairwise (· <·):=by unfold G3;rw[aBM];have:(aBL<|mask+1).Pairwise (· <·):=List.pairwise_lt_range;refine List.Pairwise.filterMap _ (R:=(· <·)) ?_ this;intro a a' av b hb b' qe;rw[aCB]at hb qe;obtain⟨_,_,rfl⟩:=hb;obtain⟨_,_,rfl⟩:=qe;exact av
def OG {mask finger moves:Nat}{led plain:Bool}(F:mR (mask+1))(es:Array (Int×Value))(hl:es.size<=mask):
  ∃t' order,laid mask finger moves led plain (es.map (·.1))=some (t',order)/\(order.filterMap (es[·]?)).size=es.size/\(order.filterMap (es[·]?)).toList.Perm es.toList/\SOk t' (order.filterMap (es[·]?)).toList/\
   t'.mask=mask/\t'.dummies=#[]/\t'.led=led/\t'.plain=plain/\t'.moves=moves:=by
 obtain⟨owner,h1,L⟩:=yQ F (es.map (·.1)) (by simpa using hl);have hk:(es.map (·.1)).size=es.size:=by simp
 rw[hk]at L;refine⟨{mask,place:=((G3 mask owner).map (·.1)).toArray,dummies:=#[],finger,led,moves,plain},((G3 mask owner).map (·.2)).toArray,?_,?_⟩
 ·unfold laid;rw[h1];rfl
 have nd1:(G3 mask owner).Nodup:=by have:=zP mask owner;rw[aBM]at this;exact aBW.mpr (this.imp λ{a b} h e=>by subst e;exact aBc _ h)
 have ndo:((G3 mask owner).map (·.2)).Nodup:=by rw[aBW,aBM];refine List.Pairwise.imp_of_mem (R:=(· ≠·)) ?_ (aBW.mp nd1);rintro⟨j,i⟩ ⟨j',i'⟩ ha hb bc e;dsimp only at e;subst e;have:=L.inj j j' i ((Q9 L.size).mp ha) ((Q9 L.size).mp hb);subst this;exact bc rfl
 have po:((G3 mask owner).map (·.2)).Perm (aBL es.size):=by
  rw[aDs ndo List.nodup_range];intro i;rw[aCc,aAp];constructor
  ·rintro⟨⟨j,i'⟩,h,rfl⟩;exact L.lt _ _ ((Q9 L.size).mp h)
  ·intro hi;obtain⟨j,hj⟩:=L.sur i hi;exact⟨(j,i),(Q9 L.size).mpr hj,rfl⟩
 have ee:(((G3 mask owner).map (·.2)).toArray.filterMap (es[·]?)).toList=(G3 mask owner).filterMap (λx=>es[x.2]?):=by rw[Array.toList_filterMap,aDf];rfl
 have pe:((G3 mask owner).filterMap (λx=>es[x.2]?)).Perm es.toList:=by
  have h2:(G3 mask owner).filterMap (λx=>es[x.2]?)=((G3 mask owner).map (·.2)).filterMap (λi=>es[i]?):=by rw[aDf];rfl
  rw[h2];refine(po.filterMap _).trans (List.Perm.of_eq ?_);apply aEW;intro i;have:(aBL es.size).filterMap (λi=>es[i]?)=es.toList:=by
   have q:∀l:List (Int×Value),(aBL l.length).filterMap (λi=>l[i]?)=l:=λl=>by
    induction l with
    |nil=>rfl
    |cons a l ih=>
     rw[aAv,aFm,aBZ];simp only[aCX];rw[aDf];have:((λi=>(a::l)[i]?)∘Nat.succ)=λi=>l[i]?:=by funext i;simp
     rw[this,ih]
   have:=q es.toList;simpa using this
  rw[this]
 have zp:∀l:List (Nat×Nat),(∀x∈l,x.2<es.size)->(l.map (·.1)).zip (l.filterMap<|λx=>es[x.2]?)=l.filterMap (λx=>es[x.2]?.map (x.1,·))/\(l.filterMap<|λx=>es[x.2]?).length=l.length:=λl=>by
  induction l with
  |nil=>intro _;exact⟨rfl,rfl⟩
  |cons x l ih=>intro h;obtain⟨i1,i2⟩:=ih (λy hy=>h y (aAd _ hy));have hx:=h x (by simp);have e:es[x.2]?=some es[x.2]:=aAG hx;rw[aAu,aBZ,e];dsimp only;rw[aBZ,e];dsimp only[Option.map_some];rw[aBN,i1];exact⟨rfl,by simp[i2]⟩
 obtain⟨z1,z2⟩:=zp (G3 mask owner) (λx hx=>L.lt x.1 x.2 ((Q9 L.size).mp hx));have iu:(G3 mask owner).length=es.size:=by have:=po.length_eq;simpa using this
 rw[ee];refine⟨by rw[<-aAW,ee,z2,iu],pe,⟨⟨?_,λj hj=>?_,rfl⟩,F,?_,?_,λe he=>?_⟩,rfl,rfl,rfl,rfl,rfl⟩
 ·intro i k hi hk hik;have:=aCf.mp (zP mask owner) i k (by simpa using hi) (by simpa using hk) hik;simpa using this
 ·have wc:j∈(G3 mask owner).map (·.1):=by simpa using hj
  obtain⟨⟨j',i⟩,h,rfl⟩:=aAp.mp wc;have:=(aBX.mp<|(Q9 L.size).mp h).1;rw[L.size]at this;show j'<=mask
  lia
 ·rw[z2];simp
 ·simp only[aAl,aAm,iu];exact hl
 ·unfold zK at he;dsimp only at he;rw[z1,aBE]at he;obtain⟨⟨j,i⟩,h,e1⟩:=he;rw[aCB]at e1;obtain⟨⟨hh,v⟩,e2,rfl⟩:=e1;have ho:=(Q9 L.size).mp h;have:=L.reach j i hh ho (by rw[aAB,Array.getElem?_map,e2];rfl);refine this.mono λl ⟨i',gg⟩=>?_;show l∈(G3 mask owner).map (·.1);exact aAp.mpr ⟨(l,i'),(Q9 L.size).mpr gg,rfl⟩
end ST
namespace DL
open PySem PySem.Spec L2
open PyProof.Rows hiding St
variable [Tabs]
mutual
inductive HV (h:Heap):Value->D->Prop
 |int (i:Int) (t:Tok):HV h (.int i t) (.int i)
 |tup {a:Addr} {items:Array Value} {ds:List D} (p:IsTup h a items) (r:HVs h items.toList ds):HV h (.ref a) (.tup ds)
inductive HVs (h:Heap):List Value->List D->Prop
 |nil:HVs h [] []
 |cons {v:Value} {d:D} {vs:List Value} {ds:List D} (r:HV h v d) (t:HVs h vs ds):HVs h (v::vs) (d::ds)
end
mutual
def qM:D->Bool
 |.int _=>true
 |.tup xs=>gC xs
 |_=>false
def gC:List D->Bool
 |[]=>true
 |x::xs=>qM x&&gC xs
end
theorem gD:∀xs:List D,uV xs=xs.map o7
 |[]=>rfl
 |x::xs=>by rw[uV,gD xs];rfl
section
mutual
theorem HV.keeps (k:∀b o,h.get? b=some o->o.cls=.type "tuple"->h'.get? b=some o):∀{v:Value} {d:D},HV h v d->HV h' v d
 |_,_,.int i t=>.int i t
 |_,_,.tup p r=>.tup (by obtain⟨o,e,c,n,d⟩:=p;exact⟨o,k _ _ e c,c,n,d⟩) (HVs.keeps k r)
theorem HVs.keeps (k:∀b o,h.get? b=some o->o.cls=.type "tuple"->h'.get? b=some o):∀{v:List Value} {d:List D},HVs h v d->HVs h' v d
 |_,_,.nil=>.nil
 |_,_,.cons r t=>.cons (HV.keeps k r) (HVs.keeps k t)
end
mutual
theorem HV.inj:∀{v:Value} {d d':D},HV h v d->HV h v d'->d=d'
 |_,_,_,.int i t,.int _ _=>rfl
 |_,_,_,.tup p r,.tup p' r'=>by obtain⟨o,e,c,n,dd⟩:=p;obtain⟨o',e',c',n',zu⟩:=p';rw[e]at e';cases e';rw[dd]at zu;injection zu with q _;subst q;rw[HVs.inj r r']
theorem HVs.inj:∀{v:List Value} {d d':List D},HVs h v d->HVs h v d'->d=d'
 |_,_,_,.nil,.nil=>rfl
 |_,_,_,.cons r t,.cons r' t'=>by rw[HV.inj r r',HVs.inj t t']
end
theorem HVs.length:∀{v:List Value} {d:List D},HVs h v d->v.length=d.length
 |_,_,.nil=>rfl
 |_,_,.cons _ t=>by simp[HVs.length t]
end
section
variable{prog:Program} {w:World}
def PH (prog:Program)(w:World)(h:Heap)(v:Value)(d:D):Prop:=∀(A:Around) (E:F1) (s:Shared) (Q:Int->Shared->Prop),s.heap=h->A.units+8*G9 d<cLine->(∀tk,s.toks<=tk->Q (o7 d) {s with toks:=tk})->wpAny (model prog w) A (pyHash v) Q E s
mutual
theorem VX:∀{v:Value} {d:D},HV h v d->PH prog w h v d
 |_,_,.int i t=>λA E s Q hs hu q=>by exact(intKind prog w).pyHash (k:=i) (intKind_is _ _ _ _) (q _<|Nat.le_succ _)
 |_,_,.tup (a:=a) (items:=items) (ds:=ds) p r=>λA E s Q hs hu q=>by
  have fs:=QQ r;subst hs;obtain⟨o,ho,hc,n,hd⟩:=p;have hT:s.TypeIs (.ref a) "tuple":=⟨o,ho,hc⟩;have hu0:A.units<cLine:=by lia
  rw[G9]at hu;unfold pyHash;first|unfold pyHashByItsType|skip
  first|refine aAa (wpAny_cRoomFor_or (.inr hu0) ?_)|skip
  refine aAa (aBn hT PySem.F.slot_tuple_hash.lookup ?_);show wpAny _ _ (if(some (aDp "tuple.__hash__")==some Value.none)=true then _ else _) Q E s;rw[if_neg (by rw[aFh];exact aAL)];refine aAa (aBn hT PySem.F.slot_tuple_hash.lookup ?_);show wpAny _ _ (callSpecialIfBoundUnlessNone? (.ref a) "__hash__" _>>=_) Q E s;refine aAa (aDi hT PySem.F.slot_tuple_hash<|aBm PySem.F.slot_tuple_hash hT PySem.F.entry_tuple_hash ?_ (PySem.F.args_tuple_hash_1 _));show wpAny _ _ (aDr (.ref a)>>=_) _ _ s;refine aAa (wpAny_tupleItemsOf ho hd ?_);refine aAa ?_;rw[<-aCo];refine aCp _
   (λrest (b:Array Int) s'=>∃done left tk,ds=done++left/\Paired (PH prog w s.heap) rest left/\b.toList=done.map o7/\s.toks<=tk/\s'={s with toks:=tk})
   _ ?_ ?_ _ _ ⟨[],ds,s.toks,rfl,fs,rfl,aAh _,rfl⟩
  ·rintro x rest b s' ⟨done,left,tk,e1,hl,hb,xn,rfl⟩;cases hl with
   |@cons _ d _ left' h1 jb=>
    refine aAa (h1 _ _ _ _ rfl ?_ λyr htk'=>?_)
    ·have:G9 d<=K6 ds:=by rw[e1];exact uS (j:=done.length) (by simp)
     rw[u8];lia
    first
     |exact aAb ⟨done++[d],left',yr,by simp[e1],jb,by simp[hb],by(have:tk<=yr:=htk');lia,rfl⟩
     |exact aAa (aAb (aAb ⟨done++[d],left',yr,by simp[e1],jb,by simp[hb],by(have:tk<=yr:=htk';lia),rfl⟩))
  ·rintro b s' ⟨done,left,tk,e1,hl,hb,xn,rfl⟩;cases hl;rw[aBu]at e1;subst e1;show wpAny _ _ (retInt<|aAJ b.toList) _ _ _;rw[hb];refine wpAny_ret_mkInt ?_;show wpAny _ _ (if(decide (-(2:Int)^63<=aAJ (ds.map o7))&&decide (aAJ (ds.map o7)<2^63))=true then _ else _) Q E _;have q':=q (tk+1) (by lia);rw[o7,gD]at q';unfold reduceHash at q';by_cases hr:(decide (-(2:Int)^63<=aAJ (ds.map o7))&&decide (aAJ (ds.map o7)<2^63))=true
   ·rw[if_pos hr];rw[if_pos hr]at q';exact aAb q'
   ·rw[if_neg hr];rw[if_neg hr]at q';exact aAa (aDD<|aAb q')
theorem QQ:∀{v:List Value} {d:List D},HVs h v d->Paired (PH prog w h) v d
 |_,_,.nil=>.nil
 |_,_,.cons r t=>.cons (VX r) (QQ t)
end
mutual
theorem EW:∀{v u:Value} {d e:D} {A:Around},HV s.heap v d->HV s.heap u e->A.units+G9 d<cLine->SeqAt.EqAt A s v u (w5 d e)
 |_,_,_,_,A,.int i t,.int j t',_=>by simp only[w5];exact aED _ _ _ _
 |_,_,_,_,A,.int i t,.tup p r,hu=>by simp only[w5];exact aFE _ _ p (by lia)
 |_,_,_,_,A,.tup p r,.int j t',hu=>by simp only[w5];exact aFF _ _ p (by lia)
 |_,_,_,_,A,.tup (a:=a) (ds:=ds) p r,.tup (a:=a') (ds:=cb) p' r',hu=>by
  by_cases e:a=a'
  ·subst e;have:=HV.inj (.tup p r) (.tup p' r');rw[this,V9];exact aDF _
  ·simp only[w5];rw[G9]at hu;exact aEE e (kA (by simpa using p) (by simpa using p') r.length r'.length (by lia) (MO r r' (by rw[u8];lia))).1
theorem MO:∀{vs us:List Value} {ds es:List D} {A:Around},HVs s.heap vs ds->HVs s.heap us es->A.in1.units+K6 ds<cLine->mY A s vs us ds es
 |_,_,_,_,A,.nil,_,_=>λj u w h1 h2=>by simp at h1
 |_,_,_,_,A,.cons r t,.nil,_=>λj u w h1 h2=>by simp at h2
 |_,_,_,_,A,.cons (d:=d) (ds:=ds) r t,.cons (d:=d') (ds:=cb) r' t',hu=>λj u w h1 h2=>by
  rw[K6]at hu;match j,h1,h2 with
  |0,h1,h2=>simp only[aCX,aGb]at h1 h2;subst h1 h2;exact EW r r' (by lia)
  |j+1,h1,h2=>simp only[aFc]at h1 h2;exact MO t t' (by lia) j u w h1 h2
end
mutual
theorem iQ:∀{d e:D},qM d=true->qM e=true->w5 d e=true->d=e
 |.int i,.int j,_,_,h=>by simp[w5]at h;rw[h]
 |.tup xs,.tup ys,h1,h2,h=>by rw[qM]at h1 h2;rw[w5]at h;rw[wZ h1 h2 h]
 |.int _,.tup _,_,_,h=>by simp[w5]at h
 |.tup _,.int _,_,_,h=>by simp[w5]at h
 |.non,_,h,_,_=>by simp[qM]at h
 |.bl _,_,h,_,_=>by simp[qM]at h
 |.str _,_,h,_,_=>by simp[qM]at h
 |.lst _,_,h,_,_=>by simp[qM]at h
 |_,.non,_,h,_=>by simp[qM]at h
 |_,.bl _,_,h,_=>by simp[qM]at h
 |_,.str _,_,h,_=>by simp[qM]at h
 |_,.lst _,_,h,_=>by simp[qM]at h
theorem wZ:∀{d e:List D},gC d=true->gC e=true->Z7 d e=true->d=e
 |[],[],_,_,_=>rfl
 |[],_::_,_,_,h=>by simp[Z7]at h
 |_::_,[],_,_,h=>by simp[Z7]at h
 |x::xs,y::ys,h1,h2,h=>by rw[gC,aAC]at h1 h2;rw[Z7,aAC]at h;rw[iQ h1.1 h2.1 h.1,wZ h1.2 h2.2 h.2]
end
mutual
theorem HV.ok:∀{v:Value} {d:D},HV h v d->qM d=true
 |_,_,.int i t=>rfl
 |_,_,.tup p r=>by rw[qM];exact HVs.ok r
theorem HVs.ok:∀{v:List Value} {d:List D},HVs h v d->gC d=true
 |_,_,.nil=>rfl
 |_,_,.cons r t=>by rw[gC,HV.ok r,HVs.ok t];rfl
end
mutual
theorem jL:∀{v:Value} {d:D} (k:Nat),HV h v d->G9 d<k->∀(M:Model) (A:Around) (E:F1) (s:Shared) (Q:wN),s.heap=h->Q true s->wpAny M A (eqIsQuiet k v) Q E s
 |_,_,k,.int i t,_=>λM A E s Q hs q=>by unfold eqIsQuiet;exact aAb q
 |_,_,k,.tup (a:=a) (items:=items) (ds:=ds) p r,hk=>λM A E s Q hs q=>by
  subst hs;obtain⟨o,ho,hc,n,hd⟩:=p;have hT:s.TypeIs (.ref a) "tuple":=⟨o,ho,hc⟩;match k,hk with
  |k+1,hk=>
   rw[G9]at hk;unfold eqIsQuiet;refine aAa (aBn hT PySem.F.slot_tuple_eq.lookup ?_);show wpAny _ _ (isInstance (.ref a) (.type "tuple")>>=_) _ _ s;refine aAa (aDz hT isSubtype_tuple_tuple ?_);simp only[aDq,aAt,if_false];refine aAa (aBH ho hd ?_);refine aAa ?_;show wpAny _ _ (forIn items _ _) _ _ s;rw[<-aCo];refine aCp _ (λrest r s'=>r.1=none/\s'=s/\∃cb,HVs s.heap rest cb/\K6 cb<k) _ ?_ ?_ _ _ ⟨rfl,rfl,ds,r,by lia⟩
   ·rintro v rest r s' ⟨hr,rfl,cb,hv,hdp⟩;cases hv with
    |@cons _ d _ ua hv ht=>rw[K6]at hdp;refine aAa (jL k hv (by lia) M A E s' _ rfl ?_);simp only[aDq,aAt,if_false];exact aAb ⟨rfl,rfl,ua,ht,by lia⟩
   ·rintro⟨r1,r2⟩ s' ⟨hr,rfl,_⟩;simp only at hr;subst hr;exact aAb q
end
mutual
theorem gQ:∀{v:Value} {d:D} (k:Nat),HV h v d->G9 d<k->∀(M:Model) (A:Around) (E:F1) (s:Shared) (Q:wN),s.heap=h->Q false s->wpAny M A (ofAClassStatement k v) Q E s
 |_,_,k,.int i t,_=>λM A E s Q hs q=>by unfold ofAClassStatement;exact aAb q
 |_,_,k,.tup (a:=a) (items:=items) (ds:=ds) p r,hk=>λM A E s Q hs q=>by
  subst hs;obtain⟨o,ho,hc,n,hd⟩:=p;have hT:s.TypeIs (.ref a) "tuple":=⟨o,ho,hc⟩;match k,hk with
  |k+1,hk=>
   rw[G9]at hk;unfold ofAClassStatement;refine aAa (aDB hT ?_);dsimp only;rw[if_pos (by decide)];refine aAa (aAb ?_);simp only[aDq,aAt,if_false];refine aAa (aBH ho hd ?_);dsimp only;refine aAa ?_;show wpAny _ _ (forIn items _ _) _ _ s;rw[<-aCo];refine aCp _ (λrest r s'=>r.1=none/\s'=s/\∃cb,HVs s.heap rest cb/\K6 cb<k) _ ?_ ?_ _ _ ⟨rfl,rfl,ds,r,by lia⟩
   ·rintro v rest r s' ⟨hr,rfl,cb,hv,hdp⟩;cases hv with
    |@cons _ d _ ua hv ht=>rw[K6]at hdp;refine aAa (gQ k hv (by lia) M A E s' _ rfl ?_);simp only[aAt,if_false];exact aAb ⟨rfl,rfl,ua,ht,by lia⟩
   ·rintro⟨r1,r2⟩ s' ⟨hr,rfl,_⟩;simp only at hr;subst hr;exact aAb q
end
mutual
theorem oH:∀{v:Value} {d:D} (k:Nat),HV h v d->G9 d<k->∀(M:Model) (A:Around) (E:F1) (s:Shared) (Q:wN),s.heap=h->Q true s->wpAny M A (hashByValue k v) Q E s
 |_,_,k,.int i t,_=>λM A E s Q hs q=>by unfold hashByValue;exact aAb q
 |_,_,k,.tup (a:=a) (items:=items) (ds:=ds) p r,hk=>λM A E s Q hs q=>by
  subst hs;obtain⟨o,ho,hc,n,hd⟩:=p;have hT:s.TypeIs (.ref a) "tuple":=⟨o,ho,hc⟩;match k,hk with
  |k+1,hk=>
   rw[G9]at hk;unfold hashByValue;refine aAa (aBn hT PySem.F.slot_tuple_hash.lookup ?_);dsimp only;refine aAa (aBH ho hd ?_);refine aAa ?_;show wpAny _ _ (forIn items _ _) _ _ s;rw[<-aCo];refine aCp _ (λrest r s'=>r.1=none/\s'=s/\∃cb,HVs s.heap rest cb/\K6 cb<k) _ ?_ ?_ _ _ ⟨rfl,rfl,ds,r,by lia⟩
   ·rintro v rest r s' ⟨hr,rfl,cb,hv,hdp⟩;cases hv with
    |@cons _ d _ ua hv ht=>rw[K6]at hdp;refine aAa (oH k hv (by lia) M A E s' _ rfl ?_);simp only[aDq,aAt,if_false];exact aAb ⟨rfl,rfl,ua,ht,by lia⟩
   ·rintro⟨r1,r2⟩ s' ⟨hr,rfl,_⟩;simp only at hr;subst hr;exact aAb q
end
def kJ {α:Type}{M:Model}{A:Around}{E:F1}{s:Shared}{Q:α->Shared->Prop}{c:Prop}[Decidable c]{a b:Sem α}(h1:c->wpAny M A a Q E s)(h2:¬c->wpAny M A b Q E s):wpAny M A (if c then a else b) Q E s:=by
 by_cases h:c
 ·rw[if_pos h];exact h1 h
 ·rw[if_neg h];exact h2 h
def YX {M:Model}{A:Around}{E:F1}{s:Shared}{Q:wN}{x:Value}{d:D}(hx:HV s.heap x d)(hd:G9 d<8)(ys:List Value)(hy:∀y∈ys,∃e,HV s.heap y e/\G9 e<8)(q:Q false s):wpAny M A (searchCouldBeSeen x ys) Q E s:=by
 unfold searchCouldBeSeen;refine aAa ?_;refine aCp _ (λrest r s'=>r.1=none/\s'=s/\∀y∈rest,y∈ys) _ ?_ ?_ _ _ ⟨rfl,rfl,λy h=>h⟩
 ·rintro y rest r s' ⟨hr,rfl,hm⟩;obtain⟨e,he,hde⟩:=hy y (hm y (by simp));dsimp only;refine kJ (λ_=>?_) (λ_=>?_)
  ·exact aAb ⟨rfl,rfl,λz hz=>hm z (aAd _ hz)⟩
  ·refine aAa (jL 8 hx hd M A E s' _ rfl ?_);simp only[aDq,aAt,if_false];refine aAa (jL 8 he hde M A E s' _ rfl ?_);simp only[aDq,aAt,if_false];refine aAa (gQ 8 hx hd M A E s' _ rfl ?_);simp only[aAt,if_false];refine aAa (gQ 8 he hde M A E s' _ rfl ?_);simp only[aAt,if_false];exact aAb ⟨rfl,rfl,λz hz=>hm z (aAd _ hz)⟩
 ·rintro⟨r1,r2⟩ s' ⟨hr,rfl,_⟩;simp only at hr;subst hr;exact aAb q
end
end DL
namespace DL
open PySem PySem.Spec L2
open PyProof.Rows hiding St
variable [Tabs]
def EV (h:Heap)(e:Int×Value)(d:D):Prop:=HV h e.2 d/\e.1=o7 d
theorem J5 {α β:Type}{F:α->β->Prop}:∀{l:List α} {m:List β} {i:Nat} {a:α},Paired F l m->l[i]?=some a->∃b,m[i]?=some b/\F a b
 |_,_,_,_,.nil,h=>by simp at h
 |_,_,0,_,.cons r _,h=>by simp at h;subst h;exact⟨_,rfl,r⟩
 |_,_,i+1,a,.cons _ t,h=>by obtain⟨b,h1,h2⟩:=J5 (i:=i) t (by simpa using h);exact⟨b,by simpa using h1,h2⟩
theorem cU {α β:Type}{F:α->β->Prop}:∀{l:List α} {m:List β} {i:Nat} {b:β},Paired F l m->m[i]?=some b->∃a,l[i]?=some a/\F a b
 |_,_,_,_,.nil,h=>by simp at h
 |_,_,0,_,.cons r _,h=>by simp at h;subst h;exact⟨_,rfl,r⟩
 |_,_,i+1,a,.cons _ t,h=>by obtain⟨b,h1,h2⟩:=cU (i:=i) t (by simpa using h);exact⟨b,by simpa using h1,h2⟩
theorem gB {α β:Type}{F:α->β->Prop}:∀{l:List α} {m:List β},Paired F l m->l.length=m.length
 |_,_,.nil=>rfl
 |_,_,.cons _ t=>by simp[gB t]
section
variable{es:Array (Int×Value)}
def jT (K:ST.SOk t es.toList):t.fits es.size=true:=by
 have h1:=K.len;have h2:=K.room;have h3:=K.tab.nod;unfold aFU SetTable.fill;rw[h3];simp at h1⊢
 lia
theorem lT (ho:s.heap.get? S=some o)(hd:o.data=.set es ep t)(K:ST.SOk t es.toList)(hodd:t.mask%2=1)(P:Paired (EV s.heap) es.toList ds)(hx:HV s.heap (.ref x) (.tup xs))(zv:G9 (.tup xs)<8)(yi:∀e∈ds,G9 e<8)(hT:∀e∈ds,∃ys,e=.tup ys)
  (hu:A.units+16<cLine) (hf:ST.V5 t (o7 (.tup xs)) n0) {Q:SetFound->Shared->Prop} (q1:D.tup xs∈ds->Q (.there none) s) (q2:D.tup xs∉ds->Q (.free (ST.n9 t.mask (o7 (.tup xs)) n0).j false) s):
  ∀(fuel n:Nat) (uc:Option SetTable.Probe),uc.getD (t.probeStart (o7 (.tup xs)))=ST.n9 t.mask (o7 (.tup xs)) n->n<=n0->n0-n<fuel->
   (∀m<n,∀(i:Nat),t.place[i]?=some (ST.n9 t.mask (o7 (.tup xs)) m).j->ds[i]?≠some (.tup xs))->wpAny (model prog w) A (setSearchFrom S (.ref x) (o7 (.tup xs)) true fuel uc) Q E s
 |0,n,uc,_,_,h,_=>by lia
 |fuel+1,n,uc,jv,hn,hfu,hno=>by
  unfold setSearchFrom;refine aAa (aCb ho hd (jT K) ?_);dsimp only;refine kJ (λz=>?_) (λ_=>?_)
  ·unfold SetTable.gaveWay at z;simp at z;lia
  rw[jv];obtain⟨n',a1,a2,a3,a4⟩:=ST.PJ K.tab (λi=>(es[i]?.map (·.1)).getD 0) (o7<|.tup xs) hf n hn;generalize hg:t.probe _ (o7<|.tup xs) (ST.n9 t.mask (o7<|.tup xs) n)=pm;rcases a4 with⟨en,e⟩|⟨av,i,hi,hh,e⟩
  ·have ep:pm=_:=hg.symm.trans e;rw[ep];dsimp only;refine aAb (q2 λhm=>?_);obtain⟨i,hi⟩:=aDn.mp hm;obtain⟨⟨hv,v⟩,he,h1,h2⟩:=cU P hi;obtain⟨j,hj,qp⟩:=ST.TJ K.len he;dsimp only at h2;have hr:=K.reach _ qp;dsimp only at hr;rw[h2]at hr;obtain⟨m,hm,em⟩:=ST.Reach.before hf (by rw[<-aAB]at hj;exact aAs hj) hr;by_cases z:m<n
   ·exact hno m z i (by rw[em];exact hj) hi
   ·obtain⟨i',gg,bc⟩:=a3 m (by lia) (by lia);have:i'=i:=by have q1:=ST.M4 K.tab gg;have q2:=ST.M4 K.tab hj;rw[em]at q1;rw[q1]at q2;injection q2
    subst this;refine bc ?_;show(es[i']?.map (·.1)).getD 0=_;rw[<-aAB,he];exact h2
  ·have ep:pm=_:=hg.symm.trans e;rw[ep];dsimp only;have hidx:i<es.size:=by
    have:=(aBX.mp hi).1;have h1:=K.len;simp at h1
    lia
   have hes:es[i]?=some es[i]:=aAG hidx;obtain⟨di,hdi,hv,hhash⟩:=J5 P (show es.toList[i]?=some es[i]by rw[aAB];exact hes);obtain⟨ys,rfl⟩:=hT di (aAs hdi);have go:wpAny (model prog w) A (do
     let some (_,y):=es[i]?|unsupported "internal:set-entry"
     let equal<-holding [y] (eqBool y<|.ref x)
     let(es',_,t')<-setState S
     if true&&equal then return .there none
     let some same:=t'.sameMemory t.moves t.mask|unsupported "set.changed-during-lookup:is-the-new-block-at-the-old-address"
     let VY<-match(if same then t'.slot (ST.n9 t.mask (o7<|.tup xs) n').j else .empty)with
      |.live i'=>match es'[i']? with
       |some (_,y')=>do pure (if<-isSame y' y then some i' else none)
       |none=>pure none
      |_=>pure none
     match VY with
     |none=>rule "set.search.anew";setSearchFrom S (.ref x) (o7<|.tup xs) true fuel none
     |some i'=>if equal then return .there (some i')else setSearchFrom S (.ref x) (o7<|.tup xs) true fuel (some<|ST.n9 t.mask (o7<|.tup xs)<|n'+1)) Q E s:=by
    rw[hes];generalize he:es[i]=en at*
    obtain⟨hn,y⟩:=en;dsimp only at hv hhash⊢;refine aAa (aAO (EW hv hx (by have:=yi _ (aAs hdi);lia) prog w E _ ?_));refine aAa (aCb ho hd (jT K) ?_);dsimp only;cases hq:w5 (.tup ys) (.tup xs)with
    |true=>rw[if_pos (show(true&&true)=true from rfl)];have:D.tup ys=.tup xs:=iQ hv.ok hx.ok hq;rw[this]at hdi;exact aAb (q1<|aAs hdi)
    |false=>
     rw[if_neg (by simp)];have hsm:t.sameMemory t.moves t.mask=some true:=by unfold SetTable.sameMemory;rw[if_pos (by simp)]
     rw[hsm];dsimp only;rw[if_pos rfl,ST.M4 K.tab hi];dsimp only;rw[hes];dsimp only;cases hv with
     |tup p r=>
      refine aAa (wpAny_isSame_ref_self ?_);refine aAa (aAb ?_);rw[if_pos rfl];dsimp only;rw[if_neg (by simp)];refine lT ho hd K hodd P hx zv yi hT hu hf q1 q2 fuel (n'+1) _ rfl (by lia) (by lia) λm hm i2 uu hz=>?_;by_cases z:m<n
      ·exact hno m z i2 uu hz
      ·by_cases z2:m=n'
       ·subst z2;have:i2=i:=by have q1:=ST.M4 K.tab uu;have q2:=ST.M4 K.tab hi;rw[q1]at q2;injection q2
        subst this;rw[hdi]at hz;have:D.tup ys=.tup xs:=aAj hz;rw[this,V9]at hq;cases hq
       ·obtain⟨i',gg,bc⟩:=a3 m (by lia) (by lia);have:i'=i2:=by have q1:=ST.M4 K.tab gg;have q2:=ST.M4 K.tab uu;rw[q1]at q2;injection q2
        subst this;obtain⟨⟨h0,v0⟩,he0,hv0,hh0⟩:=cU P hz;refine bc ?_;show(es[i']?.map (·.1)).getD 0=_;rw[<-aAB,he0];exact hh0
   refine kJ (λ_=>?_) (λ_=>go);refine aAa (YX hx zv _ (λy hy=>?_) ?_)
   ·obtain⟨e',yp,rfl⟩:=aAp.mp hy;rw[Array.toList_filter]at yp;have hm:=(aDj.mp yp).1;obtain⟨k,hk⟩:=aDn.mp hm;obtain⟨dk,hdk,hvk,_⟩:=J5 P hk;exact⟨dk,hvk,yi _ (aAs hdk)⟩
   ·rw[if_neg (by simp)];exact go
def wL (m n:Nat):Prop:=(m=7/\n<=4)\/(m=31/\n<=18)\/(m=127/\n<=76)
def wL.odd (h:wL m n):m%2=1:=by rcases h with⟨rfl,_⟩|⟨rfl,_⟩|⟨rfl,_⟩<;>rfl
def Keeps (h0 h:Heap):Prop:=∀b o,h0.get? b=some o->h.get? b=some o
structure SetAt (L:Bool)(h0 h:Heap)(S:Addr)(ds:List D):Prop where
 ex:∃(o:Obj) (es:Array (Int×Value)) (ep:Nat) (t:SetTable),h.get? S=some o/\o.cls=.type "set"/\o.dict=none/\o.slots=#[]/\o.data=.set es ep t/\ST.SOk t es.toList/\wL t.mask es.size/\Paired (EV h0) es.toList ds/\t.led=L/\t.plain=true
 nd:ds.Nodup
def dU {α β:Type}{F:α->β->Prop}:∀{l l':List α} {m:List β},l'.Perm l->Paired F l m->∃m',m'.Perm m/\Paired F l' m':=λ{l l' m} p=>by
 induction p generalizing m with
 |nil=>intro h;exact⟨m,.refl _,h⟩
 |cons x _ ih=>
  intro h;cases h with
  |cons r t=>obtain⟨m',p',q'⟩:=ih t;exact⟨_::m',p'.cons _,.cons r q'⟩
 |swap x y l=>
  intro h;cases h with
  |cons r t=>
   cases t with
   |cons r' t'=>exact⟨_,.swap _ _ _,.cons r' (.cons r t')⟩
 |trans _ _ ih1 ih2=>intro h;obtain⟨m1,p1,q1⟩:=ih2 h;obtain⟨m2,p2,q2⟩:=ih1 q1;exact⟨m2,p2.trans p1,q2⟩
theorem cP {α β:Type}{F G:α->β->Prop}(i:∀a b,F a b->G a b):∀{l:List α} {m:List β},Paired F l m->Paired G l m
 |_,_,.nil=>.nil
 |_,_,.cons r t=>.cons (i _ _ r) (cP i t)
theorem oD {α β:Type}{F:α->β->Prop}{a:α}{b:β}(r:F a b):∀{l:List α} {m:List β} (p:Nat),Paired F l m->Paired F (l.take p++a::l.drop p) (m.take p++b::m.drop p)
 |_,_,0,h=>.cons r h
 |_,_,p+1,.nil=>.cons r .nil
 |_,_,p+1,.cons r' t=>.cons r' (oD r p t)
def LB {α:Type}(a:α)(l:List α)(p:Nat):(l.take p++a::l.drop p).Perm (a::l):=by have h:=List.perm_middle (a:=a) (l₁:=l.take p) (l₂:=l.drop p);rw[aFv]at h;exact h
def xR {α β:Type}{M:Model}{Q:α->Shared->Prop}{c:Prop}[Decidable c]{a:Sem β}{k:β->Sem α}(b:β)(h1:∀Q':β->Shared->Prop,Q' b s->wpAny M A a Q' E s)(h:wpAny M A (k b) Q E s):wpAny M A (if c then a>>=k else pure b>>=k) Q E s:=
 kJ (λ_=>aAa (h1 _ h)) (λ_=>aAa (aAb h))
def lV (h:Heap)(S:Addr)(f:Obj->Obj):Heap.SameBut S h (h.update S f):=⟨by simp[Heap.size_update],λb hb=>aAA _ _ (aCh hb)⟩
def sE {h:Heap}{S:Addr}{o:Obj}{es es':Array (Int×Value)}{ep:Nat}{t t':SetTable}(ho:h.get? S=some o)(hd:o.data=.set es ep t):(h.update S (aEi es' t')).get? S=some {o with data:=.set es' (ep+1) t'}:=by
 have e:aEi es' t' o={o with data:=.set es' (ep+1) t'}:=by obtain⟨c,d,dt,sl⟩:=o;cases dt<;>simp at hd;obtain⟨rfl,rfl,rfl⟩:=hd;rfl
 rw[aAY _ ho (by rw[e];rfl),e]
def ZH {L:Bool}{h0:Heap}{Q:wN}(hS:SetAt L h0 s.heap S ds)(kp:Keeps h0 s.heap)(hx0:HV h0 (.ref x) (.tup xs))(zv:G9 (.tup xs)<8)(yi:∀e∈ds,G9 e<8)(hT:∀e∈ds,∃ys,e=.tup ys)(hu:A.units+128<cLine)(hn:ds.length<76)
  (q1:D.tup xs∈ds->∀tk,s.toks<=tk->Q false {s with toks:=tk})
  (q2:D.tup xs∉ds->∀h' tk cb,s.toks<=tk->Heap.SameBut S s.heap h'->SetAt L h0 h' S cb->cb.Perm (.tup xs::ds)->Q true {s with heap:=h',toks:=tk}):wpAny (model prog w) A (setAdd S (.ref x)) Q E s:=by
 obtain⟨⟨o,es,ep,t,ho,hc,hdct,hsl,hd,K,mk,P0,lp0⟩,nd⟩:=hS;have hx:HV s.heap (.ref x) (.tup xs):=hx0.keeps λb o e _=>kp b o e;have P:Paired (EV s.heap) es.toList ds:=cP (λe d r=>⟨r.1.keeps λb o e _=>kp b o e,r.2⟩) P0;have iu:es.size=ds.length:=by have:=gB P;simpa using this
 unfold setAdd;refine aAO (aAa (VX hx A E s _ rfl (by lia) λtk xn=>?_));unfold setAddHashed setAddHashedIn;refine aAO (aAa<|aCb (s:={s with toks:=tk}) ho hd (jT K) ?_);dsimp only;rw[show byScan (.ref x) es=false from rfl];simp only[aAt,if_false];obtain⟨n0,hf⟩:=ST.CT K.full K.room (o7<|.tup xs);refine aAa (lT (s:={s with toks:=tk}) (n0:=n0) ho hd K mk.odd P hx zv yi hT (by lia) hf (λhm=>?_) (λhm=>?_) 100000 0 none rfl (aAX _) ?_ (λm hm=>by lia))
 ·dsimp only;exact aAb (q1 hm tk xn)
 ·dsimp only;refine aAa (aCb (s:={s with toks:=tk}) ho hd (jT K) ?_);dsimp only;refine xR true (λQ' q=>oH 8 hx zv _ _ _ _ _ rfl q) ?_;rw[if_pos rfl];have ou:t.place.size+1<=t.mask:=by have:=K.len;simp at this;rcases mk with⟨m1,m2⟩|⟨m1,m2⟩|⟨m1,m2⟩<;>lia
  have K2:=ST.YK K (x:=.ref x) hf ou;have el:=ST.fP es (t.put (ST.n9 t.mask (o7<|.tup xs) n0).j).2 (o7 (.tup xs),aDb x);have lp:(t.put (ST.n9 t.mask (o7<|.tup xs) n0).j).1.led=L/\(t.put (ST.n9 t.mask (o7<|.tup xs) n0).j).1.plain=true:=lp0;have em:(t.put (ST.n9 t.mask (o7<|.tup xs) n0).j).1.mask=t.mask:=rfl;rw[<-el]at K2;have P2:Paired (EV h0) (aGg es (t.put (ST.n9 t.mask (o7<|.tup xs) n0).j).2 (o7 (.tup xs),aDb x)).toList (ds.take (t.put (ST.n9 t.mask (o7<|.tup xs) n0).j).2++.tup xs::ds.drop (t.put (ST.n9 t.mask (o7<|.tup xs) n0).j).2):=by rw[el];exact oD ⟨hx0,rfl⟩ _ P0
  have pm:=LB (D.tup xs) ds (t.put (ST.n9 t.mask (o7<|.tup xs) n0).j).2;generalize hds2:ds.take (t.put (ST.n9 t.mask (o7<|.tup xs) n0).j).2++.tup xs::ds.drop (t.put (ST.n9 t.mask (o7<|.tup xs) n0).j).2=ua at P2 pm;generalize hes2:aGg es (t.put (ST.n9 t.mask (o7<|.tup xs) n0).j).2 (o7 (.tup xs),aDb x)=qg at K2 P2⊢;generalize ht2:(t.put (ST.n9 t.mask (o7<|.tup xs) n0).j).1=t2 at K2 em lp⊢;have nd2:ua.Nodup:=pm.nodup_iff.mpr (aAM.mpr ⟨hm,nd⟩);have sz2:qg.size=es.size+1:=by
   have h1:=gB P2;have h2:=pm.length_eq;simp at h1 h2
   lia
  have fg:qg.size<=sizeLine:=by rw[sz2,aEj];lia
  refine aAa (wpAny_storeSet_of (s:={s with toks:=tk}) ho hd ?_ fg);have lu:=sE (es':=qg) (t':=t2) ho hd;have sb2:=lV s.heap S (aEi qg t2);have hfill:t2.fill=qg.size:=by have h1:=K2.len;have h2:=K2.tab.nod;unfold SetTable.fill;rw[h2];simp at h1⊢;lia
  refine kJ (λxo=>?_) (λxo=>?_)
  ·
   have qr:t2.fill*5>=t2.mask*3:=by
    have:t2.tooFull=true:=by simpa using xo
    simpa[aGm]using this
   rw[hfill,em,sz2]at qr;obtain⟨M,hM,hM1,hM2⟩:∃M,SetTable.sizeAbove (SetTable.grown<|es.size+1)=M+1/\ST.mR (M+1)/\wL M (es.size+1):=by
    rcases mk with⟨m1,m2⟩|⟨m1,m2⟩|⟨m1,m2⟩
    ·have:es.size=4:=by lia
     rw[this];exact⟨31,by decide,ST.ZC,.inr (.inl ⟨rfl,by lia⟩)⟩
    ·have:es.size=18:=by lia
     rw[this];exact⟨127,by decide,ST.TQ,.inr (.inr ⟨rfl,by lia⟩)⟩
    ·lia
   unfold setRelay;refine aAa (aAa<|aCb (s:={s with heap:=s.heap.update S (aEi qg t2),toks:=tk}) lu rfl (jT K2) ?_);dsimp only;rw[hM];refine kJ (λz=>?_) (λ_=>?_)
   ·exfalso;rcases hM2 with⟨m1,_⟩|⟨m1,_⟩|⟨m1,_⟩<;>(subst m1;exact absurd z (by rw[aEj];decide))
   obtain⟨t3,order,r1,r2,r3,r4,r5,r6,r7,r8,r9⟩:=ST.OG (finger:=t2.finger) (moves:=t2.movedTo M) (led:=t2.led) (plain:=t2.plain) hM1 qg (by rw[sz2];rcases hM2 with⟨m1,m2⟩|⟨m1,m2⟩|⟨m1,m2⟩<;>lia);have er:t2.relaid (qg.map (·.1)) (SetTable.grown<|es.size+1)=some (t3,order):=by unfold SetTable.relaid;rw[hM];exact r1
   rw[er];have hre:∀{Q':Array (Int×Value)×SetTable->Shared->Prop} {s':Shared},Q' (order.filterMap (qg[·]?),t3) s'->wpAny (model prog w) A (do
     let es':=order.filterMap (qg[·]?)
     if es'.size !=qg.size then unsupported "internal:set-table-lost-an-element"
     pure (es',t3)) Q' E s':=λ{Q' s'} qq=>by
    dsimp only;rw[if_neg (by simp[r2])];exact aAb qq
   refine aAa (hre ?_);dsimp only;generalize hes3:order.filterMap (qg[·]?)=es3 at r2 r3 r4⊢;refine wpAny_storeSet_of (s:={s with heap:=s.heap.update S (aEi qg t2),toks:=tk}) lu rfl ?_ (by rw[r2];exact fg);refine aAb ?_;have ho3:=sE (es':=es3) (t':=t3) lu rfl;have sb3:=lV (s.heap.update S<|aEi qg t2) S (aEi es3 t3);obtain⟨ds3,p3,P5⟩:=dU r3 P2;exact q2 hm _ tk ds3 xn (sb2.trans sb3) ⟨⟨_,es3,_,t3,ho3,hc,hdct,hsl,rfl,r4,by rw[r5,r2,sz2];exact hM2,P5,by rw[r7];exact lp.1,by rw[r8];exact lp.2⟩,p3.nodup_iff.mpr nd2⟩ (p3.trans pm)
  ·refine aAb ?_;refine q2 hm _ tk ua xn sb2 ⟨⟨_,qg,_,t2,lu,hc,hdct,hsl,rfl,K2,?_,P2,lp⟩,nd2⟩ pm;have qr:¬t2.fill*5>=t2.mask*3:=λz=>xo (by simp[aGm,z]);rw[hfill,em,sz2]at qr;rw[em,sz2];rcases mk with⟨m1,m2⟩|⟨m1,m2⟩|⟨m1,m2⟩
   ·exact .inl ⟨m1,by lia⟩
   ·exact .inr (.inl ⟨m1,by lia⟩)
   ·exact .inr (.inr ⟨m1,by lia⟩)
 ·have:=hf.1;have hm:t.mask<=127:=by rcases mk with⟨m1,_⟩|⟨m1,_⟩|⟨m1,_⟩<;>lia
  lia
end
section
variable{prog:Program} {w:World} {A:Around} {R:Result->Shared->Prop} {I:Addr} {fp wr:List Addr} {G:Array GenState->Array GenState->Prop} {n:Nat} {P:Nat->Value->Prop} {St:Nat->Shared->Prop} {h0:Heap}
def fw (h0:Heap)(v:Value)(d:D):Prop:=∃a xs,v=.ref a/\d=.tup xs/\G9 d<8/\HV h0 v d
def MC {L:Bool}(W:WalksS prog w A.in1 I fp wr G n P St)(S:Addr)(qh:S∉fp)(hS0:h0.get? S=none)(hw0:∀b∈wr,h0.get? b=none)
  (val:Nat->D) (hval:∀i v,P i v->fw h0 v (val i)) (hvd:∀i<n,G9 (val i)<8/\∃ys,val i=.tup ys) {U:List D} (hU:∀i<n,val i∈U) (hb:U.length<=75) (hu:A.units+200<cLine):
  ∀(k i:Nat) (s:Shared),n-i=k->i<=n->St i s->Keeps h0 s.heap->(∃ds,SetAt L h0 s.heap S ds/\∀d,d∈ds↔∃j<i,val j=d)->
   (∀s',Moved (S::wr) G s s'->(∃ds,SetAt L h0 s'.heap S ds/\∀d,d∈ds↔∃j<n,val j=d)->R (.ok (.ret .none)) s')->
   codeAny (model prog w) A (.builtin "set.update.loop" ⟨[.ref S,.ref I],[]⟩) R s:=by
 have hSw:S∉wr:=λh=>qh (W.sub _ h);have kn:∀b∈wr,b∈S::wr:=λb hb=>aAd _ hb;intro k;induction k with
 |zero=>
  intro i s hk hi jv hkp hS hR;have mn:i=n:=by omega
  subst mn;refine aBw F.entry_set_update_loop ?_;rw[aBd F.plain_set_update_loop _];show wpAny _ A.in1 (pyNext (.ref I)>>=_) _ _ s;refine aAa (W.done s _ _ jv λs' hm=>?_);show wpAny _ A.in1 (ret Value.none) _ _ s';refine aAb (hR s' (hm.mono kn) ?_);obtain⟨ds,⟨⟨o,es,ep,t,ho,r⟩,nd⟩,md⟩:=hS;exact⟨ds,⟨⟨o,es,ep,t,hm.heap S _ hSw ho,r⟩,nd⟩,md⟩
 |succ k ih=>
  intro i s hk hi jv hkp hS hR;have av:i<n:=by omega
  refine aBw F.entry_set_update_loop ?_;rw[aBd F.plain_set_update_loop _];show wpAny _ A.in1 (pyNext (.ref I)>>=_) _ _ s;refine aAa (W.item i s _ _ av jv λv s' hP mf hm=>?_);obtain⟨ds,⟨⟨o,es,ep,t,ho,r⟩,nd⟩,md⟩:=hS;have jt:SetAt L h0 s'.heap S ds:=⟨⟨o,es,ep,t,hm.heap S _ hSw ho,r⟩,nd⟩;have kp':Keeps h0 s'.heap:=λb ob e=>hm.heap b ob (λz=>by rw[hw0 b z]at e;cases e) (hkp b ob e);obtain⟨a,xs,rfl,vp,hdp,hv⟩:=hval i v hP;rw[vp]at hdp hv;show wpAny _ A.in1 (holding [aDb a] (setAdd S<|.ref a)>>=_) _ _ s';have tups:∀e∈ds,G9 e<8/\∃ys,e=.tup ys:=λe he=>by obtain⟨j,hj,ej⟩:=(md e).mp he;rw[<-ej];exact hvd j (by omega)
  refine aAa (aAO (ZH jt kp' hv hdp (λe he=>(tups e he).1) (λe he=>(tups e he).2) (by rw[u8];omega) (by letI:DecidableEq D:=λa b=>aDI _;have:=ST.Q3 (m:=U) nd (λd hd=>by obtain⟨j,hj,e⟩:=(md d).mp hd;rw[<-e];exact hU j (by omega));omega) (λmn tk xn=>?_)<|λhni h' tk cb xn hsb hS2 pm=>?_))
  ·
   refine aAb ⟨aBQ F.plain_set_update_loop _,ih (i+1) _ (by omega) av (W.frame _ s' _ _ mf xn λb hb o e=>e) kp' ⟨ds,jt,λd=>?_⟩ λs'' oa xp=>?_⟩
   ·rw[md];constructor
    ·rintro⟨j,hj,e⟩;exact⟨j,by omega,e⟩
    ·rintro⟨j,hj,e⟩;by_cases z:j=i
     ·subst z;rw[vp]at e;rw[e]at mn;exact(md d).mp mn
     ·exact⟨j,by omega,e⟩
   ·exact hR s'' (aFd W.gtrans ((hm.mono kn).then_heap xn λb o hb e=>e) oa) xp
  ·have hbS:∀b,b≠S->h'.get? b=s'.heap.get? b:=λb hb=>hsb.2 b hb;refine aAb ⟨aBQ F.plain_set_update_loop _,ih (i+1) _ (by omega) av (W.frame _ s' _ _ mf xn λb hb o e=>?_) (λb o e=>?_) ⟨cb,hS2,λd=>?_⟩ λs'' oa xp=>?_⟩
   ·rw[hbS b (λz:b=S=>qh (by rw[<-z];exact hb))];exact e
   ·show h'.get? b=some o;rw[hbS b (λz=>by subst z;rw[hS0]at e;cases e)];exact kp' b o e
   ·rw[pm.mem_iff,aAe,md];constructor
    ·rintro(rfl|⟨j,hj,e⟩)
     ·exact⟨i,by omega,vp⟩
     ·exact⟨j,by omega,e⟩
    ·rintro⟨j,hj,e⟩;by_cases z:j=i
     ·subst z;rw[vp]at e;exact .inl e.symm
     ·exact .inr ⟨j,by omega,e⟩
   ·refine hR s'' (aFd W.gtrans ((hm.mono kn).then_heap xn λb o hb e=>?_) oa) xp;rw[hbS b (λz:b=S=>hb (by rw[z];exact aAK))];exact e
end
section
variable{prog:Program} {w:World} {A:Around} {E:F1} {s:Shared}
abbrev mQ (led:Bool):Obj:={cls:=.type "set",dict:=none,data:=.set #[] 0 (.fresh 0 0 led)}
def GQ (h0 h:Heap)(S:Addr)(led:Bool)(e:h.get? S=some (mQ led)):SetAt led h0 h S []:=by
 refine⟨⟨_,#[],0,.fresh 0 0 led,e,rfl,rfl,rfl,rfl,⟨⟨λi k hi=>?_,λj hj=>?_,rfl⟩,ST.a0b,rfl,?_,λe he=>?_⟩,.inl ⟨rfl,aAX _⟩,.nil,rfl,rfl⟩,aCw⟩
 ·exact absurd hi (by show¬i<0;omega)
 ·exact absurd hj (by show¬j∈[];simp)
 ·show 0<=7;omega
 ·exact absurd he (by show¬e∈[];simp)
def yJ (a:Value){Q₁:F1}(h:Q₁ (.ref s.heap.objs.size) {s with heap:=s.heap.push (mQ (!w.params.followText "set-order"))}):
  codeAny (model prog w) A (.call (.builtin "set.__new__") ⟨[.type "set",a],[]⟩) (wants Q₁ E) s:=by
 refine codeAny_of_tree ?_;show wpAny _ A.in1 (do checkBuiltinCall "set.__new__" ⟨[.type "set",a],[]⟩;again (.builtin "set.__new__" ⟨[.type "set",a],[]⟩)) _ _ s;refine aAa (wpAny_of_eq (F.newCall_set_1 a)<|aAb ⟨aBQ F.plain_set_new _,aBw F.entry_set_new ?_⟩);rw[aBd F.plain_set_new _];unfold Builtin.«set.__new__» Builtin.Frozenset.newClass;have kn:=sub_set_self;obtain⟨hp,g,d,tk,os⟩:=s;dsimp only
 wp_walk
 refine aFi (aAb ?_);dsimp only;simp only[newObj];exact aAa (wpAny_alloc<|aAb<|aAb h)
def wU {h0:Heap}(kp0:Keeps h0 s.heap){l:Addr}{its:Array Value}{val:Nat->D}{Q:F1}(hh:A.handled=none)(hl:s.heap.IsList l its)
  (hval:∀(i:Nat) (v:Value),its[i]?=some v->fw h0 v (val i)) (hvd:∀i<its.size,G9 (val i)<8/\∃ys,val i=.tup ys) {U:List D} (hU:∀i<its.size,val i∈U) (hb:U.length<=75) (hu:A.units+300<cLine)
  (h:∀(h':Heap) (tk:Nat) (ds:List D),SetAt (!w.params.followText "set-order") h0 h' s.heap.objs.size ds->(∀d,d∈ds↔∃j<its.size,val j=d)->Keeps s.heap h'->Q (.ref s.heap.objs.size) {s with heap:=h',toks:=tk}):
  wpAny (model prog w) A (call (.type "set") [.ref l]) Q E s:=by
 obtain⟨c,tl,hmro⟩:=PySem.F.called_set.mro;have hmade:=PySem.F.called_set.made;have kn:=PySem.F.called_set.sub;refine aFz (codeAny_of_tree ?_);show wpAny _ _ (callAny (.type "set") _) _ _ _;refine aAb ⟨Code.quiet_builtin _ (by decide+kernel),aBw PySem.F.entry_type_call ?_⟩;rw[Around.under_plain (weight_type_call_type "set" [.ref l] []) rfl];have h1:=PySem.F.called_set.notType;have h2:=PySem.F.called_set.canCreate;have hct:=PySem.F.typeCall_set_1 (.ref l);repeat(any_goals(first|assumption|wp_step))
 refine aDl (yJ (.ref l) (E:=E) (Q₁:=λob ah=>∃led:Bool,led=!w.params.followText "set-order"/\ob=.ref s.heap.objs.size/\ah={s with heap:=s.heap.push (mQ led)}) ⟨_,rfl,rfl,rfl⟩) λr ah hr=>?_;cases r with
 |error e=>exact hr
 |ok fl=>
  cases fl with
  |next=>exact hr.elim
  |brk=>exact hr.elim
  |cont=>exact hr.elim
  |ret ob=>
   obtain⟨led,eL,rfl,rfl⟩:=hr;have hS:(s.heap.push<|mQ led).get? s.heap.objs.size=some (mQ led):=aAn _ rfl;have hT:Shared.TypeIs {s with heap:=s.heap.push (mQ led)} (.ref s.heap.objs.size) "set":=⟨_,hS,rfl⟩;have hli:=PySem.F.called_set.init.lookup;have hbi:=PySem.F.called_set.init.bind (.ref s.heap.objs.size);repeat(any_goals(first|assumption|wp_step))
   refine aDl (aEe (R:=wants (λr ic=>r=.none/\∃h' tk ds,ic={s with heap:=h',toks:=tk}/\SetAt (!w.params.followText "set-order") h0 h' s.heap.objs.size ds/\(∀d,d∈ds↔∃j<its.size,val j=d)/\Keeps s.heap h') E) PySem.F.called_set.init.plain PySem.F.entry_set_init<|check_set_init_1 hT ?_) λrg ic hr0=>?_
   ·obtain⟨ol,hol,qi,nl,hdl⟩:=hl;obtain⟨ocls,odict,odata,oslots⟩:=ol;simp only at qi hdl;subst qi;subst hdl;have hol':(s.heap.push<|mQ led).get? l=some {cls:=.type "list",dict:=odict,data:=.seq its nl,slots:=oslots}:=aAc _ hol;have hsls:=PySem.F.sub_list_set;have hslf:=PySem.F.sub_list_frozenset;have bc:(aCm "list"==aCm "dict")=false:=by decide
    have qt:(s.heap.push<|mQ led).IsList l its:=⟨_,hol',rfl,nl,rfl⟩;unfold Builtin.«set.__init__» noKeywords Builtin.Frozenset.updateFrom;generalize hPI:pyIter=PI
    wp_walk
    subst hPI;refine aCP qt (aAa<|wpAny_runValue ?_);have hlS:l<s.heap.objs.size:=aAf hol;have hh3:A.in1.in1.in1.handled=none:=by simp[hh]
    have hneI:l≠(s.heap.push<|mQ led).objs.size:=by rw[aBq];exact aAk (aBr hlS)
    have qh:s.heap.objs.size∉[(s.heap.push<|mQ led).objs.size,l]:=by rw[aBq];simp only[aAe,aAw,or_false,not_or];exact⟨aAk (aDy _),aDk hlS⟩
    have ph:∀b,s.heap.objs.size<=b->h0.get? b=none:=λb hb=>by
     cases e:h0.get? b with
     |none=>rfl
     |some o=>have:=kp0 b o e;rw[aEb hb]at this;cases this
    refine MC (h0:=h0) ((aGh hh3 _ l hneI its).toS) s.heap.objs.size qh (ph _<|aAh _) (λb hb=>?hw) val hval hvd hU hb (by show A.units+1+1+200<cLine;omega) (its.size-0) 0 _ (by omega) (aAX _) ⟨⟨_,aAn _ rfl,rfl,rfl⟩,(qt.push _)⟩ (λb o e=>aAc _ (aAc _<|kp0 b o e)) ⟨[],GQ _ _ _ led (aAc _ hS),λd=>?he⟩ ?hR
    case he=>exact⟨λz=>(by cases z),λ⟨j,hj,_⟩=>(by omega)⟩
    case hw=>
     have qe:b=(s.heap.push<|mQ led).objs.size:=by simpa using hb
     subst qe;rw[aBq];exact ph _ (Nat.le_succ _)
    case hR=>
     rintro⟨h',g',d',yr,os'⟩ hm ⟨ds,jt,qp⟩;have eg:g'=s.gens:=hm.gens;have ed:d'=s.drawn:=hm.drawn;have eo:os'=s.os:=hm.os;subst eg;subst ed;subst eo;refine aAb ?_;show wpAny _ _ (ret Value.none) _ _ _;refine aAb ⟨rfl,h',yr,ds,rfl,(eL▸jt),qp,λb o e=>?_⟩;have hb:=aAf e;have hb2:b≠(s.heap.push<|mQ led).objs.size:=by rw[aBq];exact aAk (aBr hb)
     exact hm.heap b o (by simp only[aAe,aAw,or_false,not_or];exact⟨aAk hb,hb2⟩) (aAc _<|aAc _ e)
   ·cases rg with
    |error e=>exact hr0
    |ok fl1=>
     cases fl1 with
     |next=>exact hr0.elim
     |brk=>exact hr0.elim
     |cont=>exact hr0.elim
     |ret r=>
      obtain⟨rfl,h',tk,ds,rfl,jt,qp,mi⟩:=hr0;repeat(any_goals(first|assumption|wp_step))
      exact h _ _ _ jt qp mi
end
end DL
namespace SI
open PySem
theorem DQ {α:Type}(next:Nat->Nat):∀(fuel k:Nat) (left:List α) (out:Array α),left.length=fuel->(aGj next fuel k left out).toList.Perm (out.toList++left)
 |0,k,left,out,h=>by have:left=[]:=List.eq_nil_of_length_eq_zero h;subst this;simp[aGj]
 |fuel+1,k,left,out,h=>by
  unfold aGj;have hp:0<left.length:=by lia
  have hi:next k%left.length<left.length:=aEU _ hp
  rw[aAi hi];dsimp only;refine(DQ next fuel (k+1) _ _ (by rw[List.length_eraseIdx_of_lt hi];lia)).trans ?_;rw[Array.toList_push,aDN];refine List.Perm.append_left _ ?_;have:∀(l:List α) (i:Nat) (h:i<l.length),(l[i]::l.eraseIdx i).Perm l:=by
   intro l;induction l with
   |nil=>intro i h;simp at h
   |cons x l ih=>
    intro i h;cases i with
    |zero=>simp
    |succ i=>
     have h':i<l.length:=by simpa using h
     rw[aFb,List.getElem_cons_succ];exact(List.Perm.swap _ _ _).trans ((ih i h').cons _)
  exact this left _ hi
def sQ {α:Type}(next:Nat->Nat)(xs:Array α):(pickOrder next xs).toList.Perm xs.toList:=by unfold pickOrder;simpa using DQ next xs.size 0 xs.toList #[] (by simp)
def walkL (w:World)(S:Addr)(es:Array (Int×Value))(ep:Nat):List (Int×Value):=if w.params.followText "set-order"=true then(pickOrder (w.params.setOrder S ep) es).toList else es.toList
def walkL_perm (w:World)(S:Addr)(es:Array (Int×Value))(ep:Nat):(walkL w S es ep).Perm es.toList:=by
 unfold walkL;split
 ·exact sQ _ _
 ·exact List.Perm.refl _
def slotAt (w:World)(t:SetTable):Nat->Nat
 |0=>0
 |i+1=>if w.params.followText "set-order"=true then 0 else t.place.getD i 0+1
def O8 (h:Heap)(w:World)(it S:Addr)(t:SetTable)(i n ep:Nat):Prop:=
 h.get? it=some {cls:=.type "set_iterator",dict:=none,data:=.fields #[rawInt (slotAt w t i),rawInt i,.ref S,rawInt n,rawInt ep],slots:=#[]}
def IsSet (h:Heap)(S:Addr)(es:Array (Int×Value))(ep:Nat)(t:SetTable):Prop:=∃o,h.get? S=some o/\o.cls=.type "set"/\o.data=.set es ep t
namespace F
def entry_set_iter:entryFor table "set.__iter__"=some Builtin.«frozenset.__iter__»:=entryFor_alias (id':= "frozenset.__iter__") (by kernel_rfl) rfl (by decide+kernel) (by kernel_rfl)
def slot_seti_next:Slot "set_iterator" "__next__" "set_iterator.__next__":=
 .of (owner:= "set_iterator") (n:= "__next__") (by rw[aDo,aCk];kernel_rfl) (by decide+kernel) (by decide+kernel) (by decide+kernel)
  (by first|exact .inl (by decide+kernel)|exact .inr (by decide+kernel)) (by rw[aEM];kernel_rfl)
def entry_seti_next:entryFor table "set_iterator.__next__"=some Builtin.«set_iterator.__next__»:=entryFor_of_tree (by kernel_rfl)
def args_seti_next (a:Value):argsOk "set_iterator.__next__" ⟨[a],[]⟩:=by unfold argsOk;kernel_rfl
def slot_seti_iter:Slot "set_iterator" "__iter__" "set_iterator.__iter__":=
 .of (owner:= "set_iterator") (n:= "__iter__") (by rw[aDo,aCk];kernel_rfl) (by decide+kernel) (by decide+kernel) (by decide+kernel)
  (by first|exact .inl (by decide+kernel)|exact .inr (by decide+kernel)) (by rw[aEM];kernel_rfl)
def entry_seti_iter:entryFor table "set_iterator.__iter__"=some Builtin.«dict_keyiterator.__iter__»:=entryFor_alias (id':= "dict_keyiterator.__iter__") (by kernel_rfl) rfl (by decide+kernel) (by kernel_rfl)
def args_seti_iter (a:Value):argsOk "set_iterator.__iter__" ⟨[a],[]⟩:=by unfold argsOk;kernel_rfl
end F
section
variable{s:Shared} {t:SetTable}
def HP {α:Type}{M:Model}{Q:α->Shared->Prop}{c:Prop}[Decidable c]{a b:Sem α}(h:c)(k:wpAny M A a Q E s):wpAny M A (if c then a else b) Q E s:=by rw[if_pos h];exact k
def xF (es:Array (Int×Value))(hp:t.plain=true):(!t.plain&&decide (es.size>1))=false:=by rw[hp];rfl
def DB {Q:wN}(h:Q (w.params.followText "set-order") s):wpAny (model prog w) A setsByText Q E s:=by unfold setsByText;exact aAa (aFi<|aAb h)
def QV {Q:F1}(hS:IsSet s.heap S es ep t)(hf:t.fits es.size=true)(hp:t.plain=true)
  (h:Q (.ref s.heap.objs.size) {s with heap:=s.heap.push {cls:=.type "set_iterator",dict:=none,data:=.fields #[rawInt (slotAt w t 0),rawInt (0:Nat),.ref S,rawInt es.size,rawInt ep],slots:=#[]}}):
  wpAny (model prog w) A (pyIter (.ref S)) Q E s:=by
 obtain⟨o,ho,hc,hd⟩:=hS;have hT:s.TypeIs (.ref S) "set":=⟨o,ho,hc⟩;refine aEX hT PySem.F.slot_set_iter (aBm PySem.F.slot_set_iter hT F.entry_set_iter ?_ (PySem.F.args_set_iter_1 _));unfold Builtin.«frozenset.__iter__»;show wpAny _ _ (aFe "__iter__" ⟨[.ref S],[]⟩>>=_) _ _ s;have e0:aFe "__iter__" ⟨[.ref S],[]⟩=pure S:=rfl;rw[e0];refine aAa (aAb ?_);unfold Builtin.Frozenset.sizeOf;refine aAa (aAa<|aEq ho hd hf<|aAb ?_);refine aAa ?_;unfold setDrawn;refine aAa (aCb ho hd hf<|aAa<|DB<|aAb ?_);show wpAny _ _ (if(!w.params.followText "set-order"&&(!t.plain&&decide (es.size>1)))=true then _ else _) _ _ s;rw[xF es hp,aFK];simp only[aAt,if_false];refine aAa (aAb<|aAa<|wpAny_setEpoch_of ho hd hf ?_);refine aAa (aBA<|aAb ⟨_,rfl, "set_iterator",_,⟨_,aAn _ rfl,rfl⟩,F.slot_seti_next.lookup,?_⟩);simpa[slotAt]using h
def AN (ha:ST.IV xs):aDw xs 0=0:=by
 obtain⟨b1,b2,b3⟩:=ST.bT ha 0;by_cases h:aDw xs 0=0
 ·exact h
 ·exact absurd (b2 0 (by lia) (by lia)) (by lia)
def BW (ha:ST.IV xs)(hi:i<xs.size):aDw xs (xs.getD i 0+1)=i+1:=by
 have e:xs.getD i 0=xs[i]:=by simp[aET,hi]
 rw[e];obtain⟨b1,b2,b3⟩:=ST.bT ha (xs[i]+1);rcases Nat.lt_trichotomy (aDw xs<|xs[i]+1) (i+1)with q|q|q
 ·have:=b3 i hi (by lia);lia
 ·exact q
 ·have h1:i+1<xs.size:=by lia
  have:=b2 (i+1) h1 q;have:=ha i (i+1) hi h1 (by lia)
  lia
def BN (t:SetTable)(ha:ST.IV t.place)(hb:¬w.params.followText "set-order"=true)(hi:i<=t.place.size):aDw t.place (slotAt w t i)=i:=by
 cases i with
 |zero=>exact AN ha
 |succ i=>show aDw t.place (if w.params.followText "set-order"=true then 0 else t.place.getD i 0+1)=i+1;rw[if_neg hb];exact BW ha (by lia)
def wP {Q:Option (Value×Nat)->Shared->Prop}(hS:IsSet s.heap S es ep t)(hf:t.fits es.size=true)(hp:t.plain=true)(hl:¬w.params.followText "set-order"=true->t.led=true)(ha:ST.IV t.place)(hi:i<=es.size)(h1:∀e,(walkL w S es ep)[i]?=some e->Q (some (e.2,slotAt w t (i+1))) s)(h2:i=es.size->Q none s):wpAny (model prog w) A (setNext S (slotAt w t i) i ep) Q E s:=by
 obtain⟨o,ho,hc,hd⟩:=hS;have iu:t.place.size=es.size:=by simp only[aFU,aAC,beq_iff_eq,decide_eq_true_eq]at hf;exact hf.1
 unfold setNext;refine aAa (aCb ho hd hf ?_);refine aAa (DB ?_);by_cases hb:w.params.followText "set-order"=true
 ·rw[if_pos hb,if_neg (by simp)];unfold setWalk;refine aAa (aAa<|aCb ho hd hf<|aAa<|DB ?_);rw[if_pos hb];refine aAa (aFi<|aAb ?_);refine aAb ?_;have ew:(walkL w S es ep)=(pickOrder (w.params.setOrder S ep) es).toList:=by unfold walkL;rw[if_pos hb]
  have es0:slotAt w t i=slotAt w t (i+1):=by
   cases i with
   |zero=>show 0=if w.params.followText "set-order"=true then 0 else _;rw[if_pos hb]
   |succ i=>show(if w.params.followText "set-order"=true then 0 else _)=if w.params.followText "set-order"=true then 0 else _;rw[if_pos hb,if_pos hb]
  rw[ew,aAB]at h1;show Q (((pickOrder (w.params.setOrder S ep) es)[i]?).map λe=>(e.2,slotAt w t i)) s;cases e:(pickOrder (w.params.setOrder S ep) es)[i]? with
  |some x=>rw[es0];exact h1 x e
  |none=>
   have hsz2:(pickOrder (w.params.setOrder S ep) es).size=es.size:=by have:=(sQ (w.params.setOrder S ep) es).length_eq;simpa using this
   have:=Array.getElem?_eq_none_iff.mp e;exact h2 (by lia)
 ·rw[if_neg hb];have d0:¬(!t.plain&&decide (es.size>1))=true:=by rw[hp];simp
  show wpAny _ _ (if(!t.plain&&decide (es.size>1))=true then _ else _) _ _ s;rw[if_neg d0];show wpAny _ _ ((if(!t.led&&!es.isEmpty)=true then _ else _)>>=_) _ _ s;rw[if_neg (by rw[hl hb];simp)];refine aAa (aAb<|aAb ?_);rw[BN t ha hb (by lia)];have ew:(walkL w S es ep)=es.toList:=by unfold walkL;rw[if_neg hb]
  rw[ew,aAB]at h1;by_cases av:i<es.size
  ·have e1:es[i]?=some es[i]:=aAG av;have hlt':i<t.place.size:=by lia
   have e2:t.place[i]?=some t.place[i]:=aAG hlt';have:=h1 _ e1;rw[e1,e2];have e3:slotAt w t (i+1)=t.place[i]+1:=by show(if w.params.followText "set-order"=true then 0 else t.place.getD i 0+1)=_;rw[if_neg hb];simp[aET,hlt']
   rw[e3]at this;exact this
  ·have e1:es[i]?=none:=aCC (by lia);rw[e1];exact h2 (by lia)
def R0 (h:O8 s.heap w it S t i n ep):s.TypeIs (.ref it) "set_iterator":=⟨_,h,rfl⟩
def KU {Q:Option Value->Shared->Prop}(hit:O8 s.heap w it S t i es.size ep)(hS:IsSet s.heap S es ep t)(hf:t.fits es.size=true)(hp:t.plain=true)(hl:¬w.params.followText "set-order"=true->t.led=true)(ha:ST.IV t.place)(hi:i<es.size)(h:∀e h',(walkL w S es ep)[i]?=some e->O8 h' w it S t (i+1) es.size ep->Heap.SameBut it s.heap h'->Q (some e.2) {s with heap:=h'}):wpAny (model prog w) A (pyNext (.ref it)) Q E s:=by
 have hT:=R0 hit;obtain⟨o,ho,hc,hd⟩:=id hS;unfold pyNext;refine aAa (aEg (aCt (name:=aCW "__next__") hT F.slot_seti_next
  (aBm F.slot_seti_next hT F.entry_seti_next ?_ (F.args_seti_next _))))
 refine aAa (aAb ?_);refine aAa (wpAny_fieldsOf hit rfl ?_);show wpAny _ _ (setEntries S>>=_) _ _ s;refine aAa (aEq ho hd hf ?_);rw[if_neg (by simp)];show wpAny _ _ (setNext S (aEr (slotAt w t i:Int)) (aEr (i:Int)) (aEr (ep:Int))>>=_) _ _ s;rw[aCx,aCx,aCx];refine aAa (wP hS hf hp hl ha (aCV hi) (λe he=>?_) λe=>by lia);show wpAny _ _ (setField (.ref it) 0 (rawInt<|slotAt w t<|i+1)>>=_) _ _ s;refine aAa (aBR hit (by simp) λh1 e1 s1=>?_);show wpAny _ _ (setField (.ref it) 1 (rawInt<|(i:Int)+1)>>=_) _ _ _;refine aAa (aBR (s:={s with heap:=h1}) e1 (by simp) λh2 e2 s2=>?_);refine aAb ⟨_,rfl,aAb (h e h2 he ?_ (s1.trans s2))⟩;have:h2.get? it=some _:=e2;unfold O8;rw[this];simp
def SU {Q:Option Value->Shared->Prop}(hh:A.handled=none)(hit:O8 s.heap w it S t es.size es.size ep)(hS:IsSet s.heap S es ep t)(hf:t.fits es.size=true)(hp:t.plain=true)(hl:¬w.params.followText "set-order"=true->t.led=true)(ha:ST.IV t.place)(h:∀h',Heap.ExtBut it s.heap h'->Q none {s with heap:=h'}):wpAny (model prog w) A (pyNext (.ref it)) Q E s:=by
 have hT:=R0 hit;obtain⟨o,ho,hc,hd⟩:=id hS;unfold pyNext;refine aAa (aEg (aCt (name:=aCW "__next__") hT F.slot_seti_next
  (aBm F.slot_seti_next hT F.entry_seti_next ?_ (F.args_seti_next _))))
 refine aAa (aAb ?_);refine aAa (wpAny_fieldsOf hit rfl ?_);show wpAny _ _ (setEntries S>>=_) _ _ s;refine aAa (aEq ho hd hf ?_);rw[if_neg (by simp)];show wpAny _ _ (setNext S (aEr (slotAt w t es.size:Int)) (aEr (es.size:Int)) (aEr (ep:Int))>>=_) _ _ s;rw[aCx,aCx,aCx];refine aAa (wP hS hf hp hl ha (aAh _) (λe he=>?_) λ_=>?_)
 ·have h1:=(walkL_perm w S es ep).length_eq;have h2:=(aAz.mp he).1;rw[h1]at h2;simp at h2
 ·show wpAny _ _ (setField (.ref it) 2 .none>>=_) _ _ s;refine aAa (wpAny_setField hit rfl (by simp) ?_);show wpAny _ _ (newExc (.type "StopIteration") []>>=_) _ _ _;refine aAa ?_;simp only[newExc,newTuple];refine aAa (aBA ?_ (by size_fits));refine aAa (m:=firstArgMember _ _) (wpAny_of_eq (a:=Value.none) (by first|rfl|(simp only[firstArgMember];rfl)) ?_);refine aBA ?_ (by size_fits);simp only[raiseNew];refine aAa (wpAny_handled ?_);rw[show A.in1.handled=none from hh];refine aAa (aAb<|wpAny_throw ?_);refine aAa (aDz (T:= "StopIteration") (b:=true) ⟨_,aAn _ rfl,rfl⟩ isSubtype_stop ?_);exact aAb (h _<|((Heap.SameBut.update ..).extBut.push _).push _)
def cZ (x:IsSet h S es ep t)(e:∀o,h.get? S=some o->h'.get? S=some o):IsSet h' S es ep t:=let⟨o,a,r⟩:=x;⟨o,e o a,r⟩
end
section
def HQ (hh:A.handled=none)(I S:Addr)(bc:S≠I)(hf:t.fits es.size=true)(hp:t.plain=true)(hl:¬w.params.followText "set-order"=true->t.led=true)(ha:ST.IV t.place):
  Walks prog w A I [I,S] [I] es.size (λi v=>∃e,(walkL w S es ep)[i]?=some e/\v=e.2) (λi h=>O8 h w I S t i es.size ep/\IsSet h S es ep t)where
 sub:=λb hb=>by simp at hb;simp[hb]
 frame:=λ_ _ _ st hk=>⟨hk I (by simp) _ st.1,cZ st.2 λo e=>hk S (by simp) o e⟩
 item:=λi s Q E hi st hQ=>KU st.1 st.2 hf hp hl ha hi λe h' he gg hs=>hQ e.2 h' s.toks ⟨e,he,rfl⟩ ⟨gg,cZ st.2 λo q=>(hs.2 S bc).trans q⟩ λb o hb q=>(hs.2 b (λz=>hb (by simp[z]))).trans q
 done:=λs Q E st hQ=>SU hh st.1 st.2 hf hp hl ha λh' hx=>hQ h' s.toks λb o hb q=>hx b o (λz=>hb (by simp[z])) q
 self:=λi s Q E st hQ=>by refine aEX (R0 st.1) F.slot_seti_iter (aBm F.slot_seti_iter (R0 st.1) F.entry_seti_iter ?_ (F.args_seti_iter _));refine aAa (aAb<|aAb ⟨_,rfl, "set_iterator",_,R0 st.1,F.slot_seti_next.lookup,hQ⟩)
def collect_set {Q:List Value->Shared->Prop}(hh:A.handled=none)(hS:IsSet s.heap S es ep t)(hf:t.fits es.size=true)(hp:t.plain=true)(hl:¬w.params.followText "set-order"=true->t.led=true)(ha:ST.IV t.place)(hn:es.size<=sizeLine)
  (hQ:∀h' tk,(∀b o,s.heap.get? b=some o->h'.get? b=some o)->Q ((walkL w S es ep).map (·.2)) {s with heap:=h',toks:=tk}):wpAny (model prog w) A (collect (.ref S)) Q E s:=by
 obtain⟨oS,hoS,hcS,hdS⟩:=id hS;have hT:s.TypeIs (.ref S) "set":=⟨oS,hoS,hcS⟩;have av:S<s.heap.objs.size:=aAf hoS;unfold collect;refine aAa (wpAny_runValue<|aBw PySem.F.entry_proto_collect ?_);rw[aBd PySem.F.plain_proto_collect _];show wpAny _ A.in1 (newList []>>=λl=>again (.builtin "list.__iadd__" ⟨[l,.ref S],[]⟩)) _ _ s;refine aAa (aBA ?_);refine aAb ⟨aBQ PySem.F.plain_list_iadd _,aBw PySem.F.entry_list_iadd ?_⟩;rw[aBd PySem.F.plain_list_iadd _];generalize hh1:s.heap.push {cls:=.type "list",data:=.seq ([]:List Value).toArray}=h1;have hk1:∀b o,s.heap.get? b=some o->h1.get? b=some o:=λb o e=>by rw[<-hh1];exact aAc _ e
 have hsz1:h1.objs.size=s.heap.objs.size+1:=by rw[<-hh1,aBq]
 have hL1:h1.get? s.heap.objs.size=some {cls:=.type "list",data:=.seq ([]:List Value).toArray}:=by rw[<-hh1];exact aAn _ rfl
 have hS1:IsSet h1 S es ep t:=cZ hS λo e=>hk1 S o e;have hT1:Shared.TypeIs {s with heap:=h1} (.ref S) "set":=⟨oS,hk1 _ _ hoS,hcS⟩;have hne1:aCU (.ref s.heap.objs.size) (.ref S)=false:=by simp[aCU,aDk av]
 show wpAny _ A.in1 (aBS (.ref s.heap.objs.size) (.ref S)<|.ref s.heap.objs.size) _ _ _;unfold aBS;refine aAa (aDB hT1 ?_);rw[if_neg (by rw[hne1];decide)];refine aAa (QV (s:={s with heap:=h1}) hS1 hf hp ?_);refine aAa (aAO ?_);generalize hh2:h1.push {cls:=.type "set_iterator",dict:=none,data:=.fields #[rawInt (slotAt w t 0),rawInt (0:Nat),.ref S,rawInt es.size,rawInt ep],slots:=#[]}=h2;have hk2:∀b o,h1.get? b=some o->h2.get? b=some o:=λb o e=>by rw[<-hh2];exact aAc _ e
 have hI2:O8 h2 w h1.objs.size S t 0 es.size ep:=by rw[<-hh2];exact aAn _ rfl
 have hS2:IsSet h2 S es ep t:=cZ hS1 λo e=>hk2 S o e;have hT2:Shared.TypeIs {s with heap:=h2} (.ref S) "set":=⟨oS,hk2 _ _ (hk1 _ _ hoS),hcS⟩;have hL2:=hk2 _ _ hL1;unfold aCz;refine aAa (aBn hT2 PySem.F.slot_set_len.lookup ?_)
 (generalize hid:("set.__len__":String)=id0;(fail_if_success (clear hid id0));wp_delta;rw[show splitId id0=some ("set", "__len__")from by subst hid;decide+kernel];subst hid)
 refine aAa (aDz (b:=true) hT2 (by rw[aEM];kernel_rfl) ?_);rw[if_neg (by decide)];refine HP (by decide+kernel) ?_
 ·refine aAa (aDB hT2<|aAb ?_);rw[if_pos (by decide)];show wpAny _ A.in1 (rule "list.extend.makes-room">>=λ_=>aFo (.ref s.heap.objs.size)>>=λ_=>again (.builtin "list.extend.loop" ⟨[.ref s.heap.objs.size,.ref h1.objs.size,.ref s.heap.objs.size],[]⟩)) _ _ _
  refine aAa (aDD ?_);refine aAa ?_;show wpAny _ A.in1 (updateSeq s.heap.objs.size (·.push .none)>>=λ_=>updateSeq s.heap.objs.size (·.pop)) _ _ _;refine aAa (aBT hL2 rfl ?_);have hL3:=aAY (aBp (·.push Value.none)) hL2 rfl;refine aBT hL3 rfl ?_;have hL4:=aAY (aBp (·.pop)) hL3 rfl;have we:∀b o,b≠s.heap.objs.size->h2.get? b=some o->((h2.update s.heap.objs.size (aBp (·.push Value.none))).update s.heap.objs.size (aBp (·.pop))).get? b=some o:=
   λb o hb e=>(aAA _ _<|aCh hb).trans ((aAA _ _<|aCh hb).trans e)
  have neI:h1.objs.size≠s.heap.objs.size:=by rw[hsz1];lia
  have W:=(HQ (prog:=prog) (w:=w) (A:=A.in1) (by simp[hh]) h1.objs.size S (by rw[hsz1];exact aAk (aBr av)) (es:=es) (ep:=ep) (t:=t) hf hp hl ha).toS;refine aAb ⟨aBQ PySem.F.plain_extend_loop _,codeAny_extend_loopS W hn _ (by simp only[aAe,aAw,or_false,not_or];exact⟨aCh neI,aDk av⟩) _ es.size 0 _ _ _ rfl (aAX _) ⟨we _ _ neI hI2,cZ hS2 λo e=>we S o (aAk av) e⟩ hL4 (ItemsOf.nil _) λs' ke c' hm jt gr=>?_⟩;show wpAny _ A (load s.heap.objs.size>>=_) _ _ s';refine aAa (wpAny_load jt ?_);refine aAb ?_;have g0:s'.gens=s.gens:=hm.gens;have d0:s'.drawn=s.drawn:=hm.drawn;have o0:s'.os=s.os:=hm.os;have ea:ke.toList=(walkL w S es ep).map (·.2):=by
   have ko:=(walkL_perm w S es ep).length_eq;apply aEW;intro i;rw[aAN,aAB];by_cases hi:i<es.size
   ·have uu:i<ke.size:=by rw[gr.1];exact hi
    obtain⟨e,he,hv⟩:=gr.2 i _ (aAG uu);rw[he,aAG uu,hv];rfl
   ·rw[aCC (by rw[gr.1];lia),List.getElem?_eq_none (by rw[ko];simp;lia)];rfl
  obtain⟨h',g',d',yr,os'⟩:=s';subst g0 d0 o0;rw[ea];refine hQ h' yr λb o e=>?_;have hb:b≠s.heap.objs.size:=aAk (aAf e);have hb2:b≠h1.objs.size:=by rw[hsz1];exact aAk (aBr<|aAf e)
  exact hm.heap b o (by simp only[aAe,aAw,or_false,not_or];exact⟨hb,hb2⟩) (we b o hb<|hk2 _ _<|hk1 _ _ e)
end
end SI
namespace TS
open PySem PyProof.Rows
abbrev tupK:Bool->SortKind:=sortPriv%PySem.Builtin.KeyKind.tuples
structure TB (f:Bool)(aa:Array Keyed)(st:SortSt):Prop where
 perm:(arrOf st).Perm aa
 kind:kindOf st=tupK f
 failed:failedOf st=none
 pend:pendingOf st=#[]
def TB.size {f:Bool}{aa:Array Keyed}{st:SortSt}(h:TB f aa st):(arrOf st).size=aa.size:=h.perm.size_eq
def TB.setArr {f:Bool}{aa:Array Keyed}{st:SortSt}(h:TB f aa st){xs:Array Keyed}(hp:xs.Perm (arrOf st)):TB f aa (PyProof.Rows.setArr st xs):=
 ⟨hp.trans h.perm,h.kind,h.failed,h.pend⟩
def VU (f:Bool)(A:Around)(s:Shared)(κ:KeyKind):Prop:=
 ∀(prog:Program) (w:World) (E:F1) (x y:Value) (a b:κ.α) {Q:wN},
  κ.keyOf x=some a->κ.keyOf y=some b->Q (κ.blt a b) s->wpAny (model prog w) A (keyLt' (tupK f) x y) Q E s
def TB.atK {f:Bool}{κ:KeyKind}{aa:Array Keyed}{st:SortSt}(h:TB f aa st)(h0:KeysOf κ aa){i:Nat}(hi:i<aa.size):∃x p a,(arrOf st)[i]?=some (x,p)/\κ.keyOf x=some a/\KK κ (arrOf st) i=a:=by
 have gg:i<(arrOf st).size:=by rw[h.size];exact hi
 obtain⟨a,ha⟩:=h0 _ ((aEy.mp h.perm).mem_iff.mp (show(arrOf st)[i]∈(arrOf st).toList by simp));have e:(arrOf st)[i]?=some (arrOf st)[i]:=getElem?_pos _ i gg;exact⟨(arrOf st)[i].1,(arrOf st)[i].2,a,by rw[e],ha,by unfold KK;rw[e];simp[ha]⟩
section
def nj (f:Bool){prog:Program}{w:World}{A:Around}{E:F1}{s:Shared}{aa:Array Keyed}{κ:KeyKind}{st:SortSt}{i j:Nat}{Q:Option Bool->SortSt->Prop}(hO:VU f A s κ)(hB:TB f aa st)(h0:KeysOf κ aa)(hi:i<aa.size)(hj:j<aa.size)
  (h:Q (some (κ.blt (KK κ (arrOf st) i) (KK κ (arrOf st) j))) st):wpS (model prog w) A E s (ltAt' i j) Q st:=by
 obtain⟨x,p,a,e1,ha,ka⟩:=hB.atK h0 hi;obtain⟨y,q,b,e2,hb,kb⟩:=hB.atK h0 hj;rw[ka,kb]at h;rw[ltAt'_eq];refine aBj (wpS_get ?_);show wpS _ _ _ _ (do let x<-elem' (arrOf st) i;let y<-elem' (arrOf st) j;lt' x y) Q st;rw[elem'_eq,elem'_eq,e1,e2];refine aBj (aCg<|aBj<|aCg ?_);rw[lt'_eq];refine aBj (wpS_get ?_);rw[hB.kind];refine aBj (wpS_lift<|aEg<|hO prog w _ x y a b ha hb ⟨rfl,?_⟩);exact aCg h
def up1 (S:SortedToK κ xs x)(h:1<=x->κ.kle (KK κ xs (x-1)) (KK κ xs x)):SortedToK κ xs (x+1):=λi j ma hj=>by
 rcases aDg (aEY hj)with av|rfl
 ·exact S i j ma av
 ·rcases aDg ma with hi|rfl
  ·exact KeyOrd.kle_trans (S i (j-1) (by lia) (by lia)) (h (by lia))
  ·exact KeyOrd.kle_refl _
def yk (S:NonIncK κ xs x)(h:1<=x->κ.kle (KK κ xs x) (KK κ xs (x-1))):NonIncK κ xs (x+1):=λi j ma hj=>by
 rcases aDg (aEY hj)with av|rfl
 ·exact S i j ma av
 ·rcases aDg ma with hi|rfl
  ·exact KeyOrd.kle_trans (h (by lia)) (S i (j-1) (by lia) (by lia))
  ·exact KeyOrd.kle_refl _
def QN (S:NonIncK κ xs x)(e:∀k,KK κ ys k=KK κ xs k):NonIncK κ ys x:=λi j ma hj=>by rw[e,e];exact S i j ma hj
def DA (κ:KeyKind)(xs:Array Keyed)(x c:Nat):Prop:=c+1<=x/\∀k,x-(c+1)<=k->k<x->KK κ xs k=KK κ xs (x-1)
def DA.one (h:1<=x):DA κ xs x 0:=⟨h,λk h1 h2=>by rw[show k=x-1 by lia]⟩
variable{st:SortSt}
def KS (hO:VU f A s κ)(h0:KeysOf κ aa)(hm:m<=aa.size)(B:TB f aa st)(ha:1<=a)(ham:a<=m)(S:SortedToK κ (arrOf st) a){Q:AscSt->SortSt->Prop}(q:∀n,a<=n->n<=m->SortedToK κ (arrOf st) n->(n<m->κ.klt (KK κ (arrOf st) n) (KK κ (arrOf st) (n-1)))->Q (none,n) st):wpS (model prog w) A E s (ascLoop a m) Q st:=by
 refine aDV (I:=λn r t=>t=st/\r=(none,n)/\SortedToK κ (arrOf st) n) (λn r t l1 l2 ⟨e1,e2,S'⟩=>?_) (λr t ⟨e1,e2,S'⟩=>?_) ⟨rfl,rfl,S⟩
 ·subst e1 e2;refine aBj (nj f hO B h0 (by lia) (by lia) ?_);cases z:κ.blt (KK κ (arrOf t) n) (KK κ (arrOf t)<|n-1)with
  |true=>exact aCg (q n l1 (by lia) S' λ_=>z)
  |false=>exact aCg ⟨rfl,rfl,up1 S' λ_=>z⟩
 ·subst e1 e2;have e:max a m=m:=Nat.max_eq_right ham;rw[e]at S'⊢;exact q m ham (aAh _) S' λz=>absurd z (aBc _)
abbrev Told (f:Bool)(κ:KeyKind)(aa:Array Keyed)(m:Nat)(Q:Option Nat->SortSt->Prop):Prop:=∀n t,TB f aa t->1<=n->n<=m->SortedToK κ (arrOf t) n->Q (some n) t
def yV (hO:VU f A s κ)(h0:KeysOf κ aa)(hm:m<=aa.size)(B:TB f aa st)(h1:1<=n)(hn:n<=m)(S:NonIncK κ (arrOf st) n){Q:Option Nat->SortSt->Prop}(q:Told f κ aa m Q):
  wpS (model prog w) A E s (tail3 n m) Q st:=by
 have B2:=B.setArr (aFO (arrOf st) 0 n<|(n-0)/2);have hz:n<=(arrOf st).size:=by rw[B.size];exact aAr hn hm
 refine aBj (aFP<|aBj<|KS hO h0 hm B2 h1 hn (λi j ma hj=>?_) λk k1 k2 S' _=>aCg (q k _ B2 (aAr h1 k1) k2 S'));have e:∀k,k<n->KK κ (arrOf<|setArr st<|mirror (arrOf st) 0 n<|(n-0)/2) k=KK κ (arrOf st) (0+n-1-k):=λk hk=>(KK_mirror hz k).trans (if_pos ⟨aAX _,hk⟩);rw[e i (by lia),e j hj];exact S _ _ (by lia) (by lia)
def ND (hO:VU f A s κ)(h0:KeysOf κ aa)(hm:m<=aa.size)(B:TB f aa st)(h1:1<=n)(hn:n<=m)(S:NonIncK κ (arrOf st) n){Q:DescSt->SortSt->Prop}(q:∀k c t,TB f aa t->1<=k->k<=m->NonIncK κ (arrOf t) k->DA κ (arrOf t) k c->Q (none,k,c) t):wpS (model prog w) A E s (descLoop n m) Q st:=by
 refine aDV (I:=λk r t=>∃c,r=(none,k,c)/\TB f aa t/\NonIncK κ (arrOf t) k/\DA κ (arrOf t) k c) (λk r t l1 l2 ⟨c,e,B',S',F'⟩=>?_) (λr t ⟨c,e,B',S',F'⟩=>?_) ⟨0,rfl,B,S,DA.one h1⟩
 ·subst e;have hz:k<=(arrOf t).size:=by rw[B'.size];lia
  dsimp only;refine aBj (nj f hO B' h0 (by lia) (by lia) ?_);cases z:κ.blt (KK κ (arrOf t) k) (KK κ (arrOf t)<|k-1)with
  |true=>
   have S2:NonIncK κ (arrOf t) (k+1):=yk S' λ_=>KeyOrd.kle_of_klt z;show wpS _ _ _ _ (if c>0 then _ else _) _ t;by_cases hc:c>0
   ·rw[if_pos hc];exact aBj (aFP (aCg ⟨0,rfl,B'.setArr (aFO _ _ _ _),QN S2 (aFw hz F'.2),DA.one (by lia)⟩))
   ·rw[if_neg hc];exact aCg ⟨0,rfl,B',S2,DA.one (by lia)⟩
  |false=>
   dsimp only;simp only[aAt,if_false];refine aBj (nj f hO B' h0 (by lia) (by lia) ?_);cases z2:κ.blt (KK κ (arrOf t)<|k-1) (KK κ (arrOf t) k)with
   |true=>exact aCg (q k c t B' (by lia) (by lia) S' F')
   |false=>
    have e:KK κ (arrOf t) k=KK κ (arrOf t) (k-1):=KeyOrd.kle_antisymm z2 z;refine aCg ⟨c+1,rfl,B',yk S' λ_=>by rw[e];exact KeyOrd.kle_refl _,by have:=F'.1;lia,λi i1 i2=>?_⟩;show KK κ (arrOf t) i=KK κ (arrOf t) k;rcases aDg (aEY i2)with hi|rfl
    ·rw[e];exact F'.2 i (by lia) hi
    ·rfl
 ·subst e;have e:max n m=m:=Nat.max_eq_right hn;rw[e]at S' F'⊢;exact q m c t B' (aAr h1 hn) (aAh _) S' F'
def zA (hO:VU f A s κ)(h0:KeysOf κ aa)(hm:m<=aa.size)(B:TB f aa st)(hn:n+1<=m)(S:NonIncK κ (arrOf st) (n+1)){Q:Option Nat->SortSt->Prop}(q:Told f κ aa m Q):
  wpS (model prog w) A E s (descPart n m) Q st:=by
 refine aBj (wpS_lift<|aDD ⟨rfl,aBj (ND hO h0 hm B (aGk n) hn S λk c t B' k1 k2 S' F'=>?_)⟩);have hz:k<=(arrOf t).size:=by rw[B'.size];lia
 show wpS _ _ _ _ (if c>0 then _ else _) _ t;by_cases hc:c>0
 ·rw[if_pos hc];exact aBj (aFP<|yV hO h0 hm (B'.setArr<|aFO _ _ _ _) k1 k2 (QN S'<|aFw hz F'.2) q)
 ·rw[if_neg hc];exact yV hO h0 hm B' k1 k2 S' q
def JG (hO:VU f A s κ)(h0:KeysOf κ aa)(hm:m<=aa.size)(h1:1<=m)(B:TB f aa st){Q:Option Nat->SortSt->Prop}(q:Told f κ aa m Q):wpS (model prog w) A E s (countRun' 0 m) Q st:=by
 rw[countRun0_eq];refine aBj (KS hO h0 hm B (aAh 1) h1 (up1 (λ_ _ _ z=>absurd z (aFx _)) λz=>absurd z (by decide)) λn n1 n2 S av=>?_);show wpS _ _ _ _ (if(n==m)=true then _ else _) _ st;by_cases hn:n=m
 ·rw[if_pos (beq_iff_eq.mpr hn)];exact aCg (q n st B n1 n2 S)
 ·rw[if_neg λz=>hn (beq_iff_eq.mp z)];have lt:=av (by lia);by_cases hg:n>1
  ·rw[if_pos hg];refine aBj (nj f hO B h0 (by lia) (by lia) ?_);cases z:κ.blt (KK κ (arrOf st) 0) (KK κ (arrOf st)<|n-1)with
   |true=>exact aCg (q n st B n1 n2 S)
   |false=>
    have hz:n<=(arrOf st).size:=by rw[B.size];lia
    have same:∀k,0<=k->k<n->KK κ (arrOf st) k=KK κ (arrOf st) (n-1):=λk _ hk=>KeyOrd.kle_antisymm (S k (n-1) (by lia) (by lia)) (KeyOrd.kle_trans z<|S 0 k (aAX _) hk);have S2:NonIncK κ (arrOf st) n:=λi j ma hj=>by rw[same i (aAX _) (by lia),same j (aAX _) hj];exact KeyOrd.kle_refl _
    exact aBj (aFP (zA hO h0 hm (B.setArr<|aFO _ _ _ _) (by lia) (QN (yk S2 λ_=>KeyOrd.kle_of_klt lt)<|aFw hz same) q))
  ·rw[if_neg hg];obtain rfl:n=1:=by lia
   exact zA hO h0 hm B (by lia) (yk (yk (λ_ _ _ z=>absurd z (aFx _)) λz=>absurd z (by decide)) λ_=>KeyOrd.kle_of_klt lt) q
def oM (hO:VU f A s κ)(h0:KeysOf κ aa)(hn:n<=aa.size)(hk:k<=n)(B:TB f aa st)(S:SortedToK κ (arrOf st) k){Q:Bool->SortSt->Prop}(q:∀t,TB f aa t->SortedToK κ (arrOf t) n->Q true t):
  wpS (model prog w) A E s (binarySort' 0 n k) Q st:=by
 rw[binarySort'_eq];simp only[aFu];have S0:SortedToK κ (arrOf st) (min (max k 1) n):=λi j ma hj=>by
  rcases Nat.eq_or_lt_of_le ma with rfl|av
  ·exact KeyOrd.kle_refl _
  ·exact S i j ma (by lia)
 refine aBj (wpS_mono (Q:=λr t=>r=(none,())/\TB f aa t/\SortedToK κ (arrOf t) n) (aDV (I:=λx r t=>r=(none,())/\TB f aa t/\SortedToK κ (arrOf t) (min x n)) (λx r t l1 l2 ⟨e,B',S'⟩=>?step) (λr t ⟨e,B',S'⟩=>⟨e,B',?fin⟩) ⟨rfl,B,S0⟩) λr t ⟨e,B',S'⟩=>?post)
 case step=>
  subst e;rw[aDJ (aCV l2)]at S';have hx:x<aa.size:=by lia
  let Low (l:Nat):Prop:=∀i,i<l->κ.kle (KK κ (arrOf t) i) (KK κ (arrOf t) x)
  let Top (r:Nat):Prop:=∀i,r<=i->i<x->κ.klt (KK κ (arrOf t) x) (KK κ (arrOf t) i)
  refine aBj (wpS_mono (Q:=λd u=>u=t/\∃l r,d=(none,l,r)/\l<=x/\Low l/\Top l) (aDV (I:=λy d u=>u=t/\∃l r,d=(none,l,r)/\l<=r/\r<=x/\r-l<=x-y/\Low l/\Top r) (λy d u _ y2 ⟨e,l,r,e2,lr,rx,far,lo,hi⟩=>?istep) (λd u ⟨e,l,r,e2,lr,rx,far,lo,hi⟩=>?ifin)
   ⟨rfl,0,x,rfl,aAX _,aAh _,aAh _,λ_ z=>absurd z (aFx _),λi a b=>absurd (aCH a b) (aBc _)⟩) λd u ⟨e,l,r,e2,lx,lo,hi⟩=>?ipost)
  case istep=>
   subst e e2;show wpS _ _ _ _ (if l>=r then _ else _) _ u;by_cases hlr:l>=r
   ·rw[if_pos hlr];obtain rfl:l=r:=Nat.le_antisymm lr hlr;exact aCg ⟨rfl,l,l,rfl,rx,lo,hi⟩
   ·rw[if_neg hlr];dsimp only;refine aBj (nj f hO B' h0 hx (by lia) ?_);cases z:κ.blt (KK κ (arrOf u) x) (KK κ (arrOf u)<|(l+r)/2)with
    |true=>exact aCg ⟨rfl,l,(l+r)/2,rfl,by lia,by lia,by lia,lo,λi a b=>KeyOrd.klt_of_klt_of_kle z (S' _ i a b)⟩
    |false=>exact aCg ⟨rfl,(l+r)/2+1,r,rfl,by lia,by lia,by lia,λi a=>KeyOrd.kle_trans (S' i ((l+r)/2) (by lia) (by lia)) z,hi⟩
  case ifin=>
   subst e e2;obtain rfl:l=r:=by lia
   exact⟨rfl,l,l,rfl,rx,lo,hi⟩
  case ipost=>
   subst e e2;have hz:x<(arrOf u).size:=by rw[B'.size];exact hx
   show wpS _ _ _ _ (do moveDown' x l;pure (aCj (none,()))) _ u;rw[moveDown'_eq];refine aBj (wpS_modify<|aCg ⟨rfl,B'.setArr (bubble_perm _ _ _),λi j ma hj=>?_⟩);have e:∀k,KK κ (arrOf<|setArr u<|bubble (arrOf u) x<|x-l) k=if k=l then KK κ (arrOf u) x else if l<k/\k<=x then KK κ (arrOf u) (k-1)else KK κ (arrOf u) k:=λk=>by have:=KK_bubble (κ:=κ) hz (Nat.sub_le x l) k;rw[show x-(x-l)=l by lia]at this;exact this
   have hj:j<x+1:=by lia
   rw[e,e];by_cases c1:i=l
   ·rw[if_pos c1];by_cases c2:j=l
    ·rw[if_pos c2];exact KeyOrd.kle_refl _
    ·rw[if_neg c2,if_pos ⟨by lia,by lia⟩];exact KeyOrd.kle_of_klt (hi _ (by lia) (by lia))
   ·rw[if_neg c1];by_cases c2:j=l
    ·rw[if_pos c2,if_neg λz=>by lia];exact lo i (by lia)
    ·rw[if_neg c2];by_cases c3:l<i/\i<=x
     ·rw[if_pos c3,if_pos ⟨by lia,by lia⟩];exact S' _ _ (by lia) (by lia)
     ·rw[if_neg c3];by_cases c4:l<j/\j<=x
      ·rw[if_pos c4];exact S' _ _ (by lia) (by lia)
      ·rw[if_neg c4];exact S' _ _ ma (by lia)
 case fin=>rw[show min (max (max k 1) n) n=n by lia]at S';exact S'
 case post=>subst e;exact aCg (q t B' S')
def mU (f:Bool)(hO:VU f A s κ)(h0:KeysOf κ aa)(B:TB f aa st)(h2:2<=aa.size)(h64:aa.size<64){Q:Unit->SortSt->Prop}(q:∀t,(arrOf t).Perm aa->failedOf t=none->SortedToK κ (arrOf t) aa.size->Q () t):wpS (model prog w) A E s sortRuns' Q st:=by
 have e1:minRun' aa.size aa.size 0=aa.size:=by
  generalize hN:aa.size=N at*
  cases N with
  |zero=>lia
  |succ N=>rw[minRun'_succ,if_pos h64]
 let Done (t:SortSt):Prop:=(arrOf t).Perm aa/\failedOf t=none/\pendingOf t=#[(0,aa.size,0)]/\SortedToK κ (arrOf t) aa.size
 have done:∀t,TB f aa t->SortedToK κ (arrOf t) aa.size->Done (setPending t<|(pendingOf t).push (0,aa.size,0)):=λt B' S'=>⟨B'.perm,B'.failed,(congrArg (·.push (0,aa.size,0)) B'.pend),S'⟩;rw[sortRuns'_eq];refine aBj (wpS_get ?_);dsimp only;simp only[B.size,e1];refine aBj (wpS_mono (Q:=λr t=>r=(none,aa.size)/\Done t) (aDV (I:=λx r t=>(x=0/\r=(none,0)/\TB f aa t)\/(0<x/\r=(none,aa.size)/\Done t)) (λx r t _ l2 I=>?step) (λr t I=>?fin)<|.inl ⟨rfl,rfl,B⟩) λr t ⟨e,D⟩=>?post)
 case step=>
  rcases I with⟨rfl,rfl,B'⟩|⟨x0,rfl,D⟩
  ·show wpS _ _ _ _ (if 0>=aa.size then _ else _) _ t;rw[if_neg (by lia)];simp only[Nat.sub_zero,Nat.min_self,aFu];have fin:∀u,TB f aa u->(pendingOf u).back?=none:=λu B2=>by rw[B2.pend];rfl
   refine aBj (JG hO h0 (aAh _) (by lia) B' λn u B2 n1 n2 S2=>?_);show wpS _ _ _ _ (if n<aa.size then _ else _) _ u;by_cases hn:n<aa.size
   ·rw[if_pos hn];refine aBj (wpS_lift<|aDD ⟨rfl,aBj (oM hO h0 (aAh _) n2 B2 S2 λv B3 S3=>?_)⟩);simp only[aDq,aAt,if_false];refine aBj (wpS_get ?_);rw[fin v B3];exact aBj (wpS_modify<|aCg<|.inr ⟨aGk _,rfl,done v B3 S3⟩)
   ·rw[if_neg hn];obtain rfl:n=aa.size:=by lia
    refine aBj (wpS_get ?_);rw[fin u B2];exact aBj (wpS_modify<|aCg<|.inr ⟨aGk _,rfl,done u B2 S2⟩)
  ·show wpS _ _ _ _ (if aa.size>=aa.size then _ else _) _ t;rw[if_pos (aAh _)];exact aCg ⟨rfl,D⟩
 case fin=>
  rcases I with⟨z,_⟩|⟨_,e,D⟩
  ·lia
  ·exact⟨e,D⟩
 case post=>
  subst e;refine aBj (wpS_mono (Q:=λr u=>u=t/\r=(none,())) (aDV (I:=λ_ r u=>u=t/\r=(none,())) (λ_ r u _ _ ⟨e,e2⟩=>?istep) (λ_ _ z=>z) ⟨rfl,rfl⟩) λr u ⟨e,e2⟩=>?ipost)
  case istep=>subst e e2;refine aBj (wpS_get ?_);rw[if_pos (by rw[D.2.2.1];exact aAh 1)];exact aCg ⟨rfl,rfl⟩
  case ipost=>subst e e2;exact aCg (q _ D.1 D.2.1 D.2.2.2)
end
end TS
namespace TS
open PySem PyProof.Rows
section
def gz (a:Addr)(s s6:Shared):Prop:=∀b o,b≠a->s.heap.get? b=some o->s6.heap.get? b=some o
def zT {P:Fin->Shared->Prop}(ho:s.heap.get? a=some (seqObj "list" vs.toArray n))(h0:KeysOf κ (pairsOf vs))(hO:∀s6,gz a s s6->VU f A s6 κ)(hkk:2<=vs.length->∀s6,gz a s s6->∀{Q:SortKind->Shared->Prop},Q (tupK f) s6->wpAny (model prog w) A (keyKind' vs.toArray) Q E s6)(h64:vs.length<64)(h:∀st':SortSt,(arrOf st').Perm (pairsOf vs)->SortedToK κ (arrOf st') (pairsOf vs).size->P (.done (.ret .none)) {s with heap:=sortedHeap s.heap a vs ((arrOf st').map (·.2))}):
  wpAny (model prog w) A (Builtin.«list.sort» ⟨[.ref a],[]⟩) P E s:=by
 rw[list_sort_plain];have ha:a<s.heap.objs.size:=aAf ho;refine aAa (aDW ho rfl ?_);refine aAa (listUpdate_at ho rfl ?_);obtain⟨e1,ho1⟩:∃e1,(s.heap.update a<|aBp λ_=>#[]).get? a=some (seqObj "list" #[] e1):=⟨_,get?_update_seq ho _⟩;refine aAa (seqEpoch_at ho1 rfl<|aAa<|aFM<|aAa<|wpAny_newList<|aAO ?_);have ne1:a≠(s.heap.update a<|aBp λ_=>#[]).objs.size:=by rw[Heap.size_update];exact aAk ha
 have bar:gz a s {s with heap:=((s.heap.update a<|aBp λ_=>#[]).push (seqObj "tuple" vs.toArray 0)).push (seqObj "list" #[] 0)}:=λb o hb e=>aAc _ (aAc _<|(aAA _ _<|aCh hb).trans e)
 have ho6:(((s.heap.update a<|aBp λ_=>#[]).push (seqObj "tuple" vs.toArray 0)).push (seqObj "list" #[] 0)).get? a=some (seqObj "list" #[] e1):=aAc _ (aAc _ ho1);show wpAny (model prog w) A _ P E {s with heap:=((s.heap.update a<|aBp λ_=>#[]).push (seqObj "tuple" vs.toArray 0)).push (seqObj "list" #[] 0)};dsimp only;have iu:vs.toArray.size=vs.length:=by simp
 have fin:=h;by_cases h2:vs.toArray.size<2
 ·rw[if_pos h2,if_pos h2];refine aAa (aAb ?_);rw[StateT.run_pure];refine aAa (aAb ?_);dsimp only;refine aAa (seqEpoch_at ho6 rfl (aAa (listUpdate_at ho6 rfl ?_ (hsz2:=by rw[Array.size_map];show(pairsOf vs).size<=_;rw[aEJ,aEj];lia))));simp only[bne_self_eq_false,aAt,if_false];refine aAb (fin (SortSt.mk' general' (vs.toArray.zip vs.toArray) #[] 7 none) (aGo _) λi j ma hj=>?_);have:i=j:=by rw[aEJ]at hj;lia
  subst this;exact KeyOrd.kle_refl _
 ·rw[if_neg h2,if_neg h2];refine aAa (hkk (by lia) _ bar ?_);refine aAa (aBG (mU f (κ:=κ) (hO _ bar) (aa:=pairsOf vs) (st:=SortSt.mk' (tupK f) (vs.toArray.zip vs.toArray) #[] 7 none) (Q:=λ_ st'=>(arrOf st').Perm (pairsOf vs)/\failedOf st'=none/\SortedToK κ (arrOf st') (pairsOf vs).size)
   h0 ⟨aGo _,rfl,rfl,rfl⟩ (by rw[aEJ];lia) (by rw[aEJ];exact h64) λst' a1 a2 a3=>⟨a1,a2,a3⟩) ?_ λ_ _ e=>e)
  rintro⟨⟨⟩,st'⟩ s' ⟨rfl,hp,hf,hs⟩;dsimp only;refine aAa (seqEpoch_at ho6 rfl (aAa (listUpdate_at ho6 rfl ?_ (hsz2:=by refine aAr (aDT<|(Array.size_map ..).trans (hp.size_eq.trans<|aEJ _)) ?_;rw[aEj];lia))));rw[hf];simp only[bne_self_eq_false,aAt,if_false];exact aAb (fin st' hp hs)
end
end TS
namespace TS
open PySem PyProof.Rows HT
def sM (f:Bool)(x y:Value):keyLt' (tupK f) x y=(do
 let xs<-aCD x;let ys<-aCD y
 for ((p,q),i)in(xs.toList.zip ys.toList).zipIdx do
  if !(<-eqBool p q)then return<-oneLt' (f&&i==0) p q
 return decide (xs.size<ys.size)):=rfl
def QU:Value->Sem (Option Value):=sortPriv%PySem.Builtin.firstOfTuple?
def QZ:Array Value->Sem (Option Value):=sortPriv%PySem.Builtin.oneTypeOnly
def GT (v:Value):QU v=(do
 if(<-typeOf v) !=.type "tuple"then return none
 return (<-aCD v)[0]?):=rfl
def KE (vs:Array Value):QZ vs=(do
 let ts<-vs.mapM typeOf
 match ts[0]? with
 |some t=>return if ts.all (· ==t)then some t else none
 |none=>return none):=rfl
def AZ (ks:Array Value):keyKind' ks=(do
 let firsts<-ks.mapM QU
 if firsts.all (·.isSome)then
  rule "list.sort.keys-are-tuples"
  return tupK ((<-QZ (firsts.filterMap id)).any (· !=.type "tuple"))
 if(firsts[0]?.bind id).isSome then return general'
 return if(<-QZ ks).isSome then oneType' else general'):=rfl
section
def JU {Q:wN}(f:Bool)(h:Q (decide (a<b)) s):wpAny (model prog w) A (oneLt' f (.int a t) (.int b u)) Q E s:=by
 cases f with
 |true=>exact oneLt_int h
 |false=>rw[oneLt'_eq];simp only[aAt,if_false];exact aAa (xZ A s a t b u prog w _ _<|aBe h)
def lt_ints (f:Bool){Q:wN}(hl:IsTup s.heap l items)(hb:IsTup s.heap b bf)(hi:IntsAre items.toList ns)(hj:IntsAre bf.toList ms)(h:Q (HT.lexLt ns ms) s):wpAny (model prog w) A (keyLt' (tupK f) (.ref l) (.ref b)) Q E s:=by
 obtain⟨o,ho,hc,n,hd⟩:=hl;obtain⟨o2,lu,ki,n2,hd2⟩:=hb;have z1:items.size=ns.length:=by rw[<-hi.length];simp
 have z2:bf.size=ms.length:=by rw[<-hj.length];simp
 rw[sM];refine aAa (aDW ho hd<|aAa<|aDW lu hd2 ?_);refine aAa (aCp _ (λrest b s'=>b.1=none/\s'=s/\∃(k:Nat) (vs ws:List Value) (ui vo:List Int),rest=(vs.zip ws).zipIdx k/\IntsAre vs ui/\IntsAre ws vo/\ui.length+bf.size=vo.length+items.size/\Q (HT.lexLt ui vo) s)
  (λb s'=>s'=s/\(∀c,b.1=some c->Q c s)/\(b.1=none->Q (decide (items.size<bf.size)) s)) ?turn ?fin _ _ ⟨rfl,rfl,0,items.toList,bf.toList,ns,ms,rfl,hi,hj,by lia,h⟩|>λz=>aBG z ?post λ_ _ e=>e)
 case post=>
  rintro⟨b1,b2⟩ s' ⟨rfl,q1,q2⟩;cases b1 with
  |none=>exact aAb (q2 rfl)
  |some c=>exact aAb (q1 c rfl)
 case fin=>
  rintro⟨b1,b2⟩ s' ⟨qe,rfl,k,vs,ws,ui,vo,hz,vp,ze,hlen,hR⟩;refine⟨rfl,λc e=>(by rw[qe]at e;cases e),λ_=>?_⟩;cases vp with
  |nil=>
   cases ze with
   |nil=>rw[Y9]at hR;simp only[aBO]at hlen;rw[decide_eq_false (by lia)];exact hR
   |cons c u hw=>rw[N0]at hR;simp only[aBO,aAv]at hlen;rw[decide_eq_true (by lia)];exact hR
  |cons a t hv=>
   cases ze with
   |nil=>rw[C4]at hR;simp only[aBO,aAv]at hlen;rw[decide_eq_false (by lia)];exact hR
   |cons c u hw=>rw[aBN,aDZ]at hz;cases hz
 case turn=>
  rintro⟨⟨y,x⟩,i⟩ rest b s' ⟨qe,rfl,k,vs,ws,ui,vo,hz,vp,ze,hlen,hR⟩;cases vp with
  |nil=>rw[List.zip_nil_left,aEs]at hz;cases hz
  |cons a t hvi'=>
   cases ze with
   |nil=>rw[List.zip_nil_right,aEs]at hz;cases hz
   |cons c u hwi'=>
    rw[aBN,aDZ]at hz;injection hz with hyx ar;injection hyx with hyx hik;injection hyx with hy hx;subst hy hx hik;rw[I0]at hR;simp only[aAv]at hlen;obtain⟨e,he,xa⟩:=zU A s' a t c u;refine aAa (he prog w _ _ ?_);cases e with
    |true=>rw[if_pos (xa.mp rfl)]at hR;exact aAb ⟨rfl,rfl,_,_,_,_,_,ar,hvi',hwi',by lia,hR⟩
    |false=>rw[if_neg (λq=>absurd (xa.mpr q) aAL)]at hR;exact aAa (JU _ (aAb ⟨rfl,λc e=>(by cases e;exact hR),λe=>(by cases e)⟩))
end
end TS
namespace TS
open PySem PyProof.Rows HT
section
theorem ER {α β:Type}{M:Model}{f:α->Sem β}(g:α->β):∀(xs:List α) {Q:List β->Shared->Prop},(∀x∈xs,∀{Q:β->Shared->Prop},Q (g x) s->wpAny M A (f x) Q E s)->Q (xs.map g) s->wpAny M A (xs.mapM f) Q E s
 |[],Q,_,q=>by rw[List.mapM_nil];exact aAb q
 |x::xs,Q,h,q=>by rw[List.mapM_cons];exact aAa (h x (.head _) (aAa (ER g xs (λy hy=>h y (.tail _ hy)) (aAb q))))
def EF {α β:Type}{M:Model}{f:α->Sem β}(g:α->β)(xs:List α){Q:Array β->Shared->Prop}(h:∀x∈xs,∀{Q:β->Shared->Prop},Q (g x) s->wpAny M A (f x) Q E s)(q:Q (xs.map g).toArray s):wpAny M A (xs.toArray.mapM f) Q E s:=by rw[List.mapM_toArray];show wpAny M A (List.toArray<$>xs.mapM f) Q E s;rw[map_eq_pure_bind];exact aAa (ER g xs h<|aAb q)
def kind_tuples {vs:List Value}{f:Bool}{T:String}{Q:SortKind->Shared->Prop}(gf:Value->Value)(h:∀x∈vs,∃a items,x=.ref a/\IsTup s.heap a items/\items[0]?=some (gf x)/\s.TypeIs (gf x) T)(bc:vs≠[])(hf:f=(aCm T !=aCm "tuple"))
  (q:Q (tupK f) s):wpAny (model prog w) A (keyKind' vs.toArray) Q E s:=by
 rw[AZ];refine aAa (EF (λx=>some (gf x)) vs (λx hx {Q} q'=>?_) ?_)
 ·obtain⟨a,items,rfl,⟨o,ho,hc,n,hd⟩,h0,_⟩:=h x hx;rw[GT];refine aAa (aDB (T:= "tuple") ⟨o,ho,hc⟩ ?_);rw[if_neg (by simp)];refine aAa (aDW ho hd ?_);rw[h0];exact aAb q'
 ·have e1:((vs.map λx=>some (gf x)).toArray.all λx=>x.isSome)=true:=by simp
  have e2:(vs.map λx=>some (gf x)).toArray.filterMap id=(vs.map gf).toArray:=by
   rw[List.filterMap_toArray,aDf];congr 1;induction vs with
   |nil=>rfl
   |cons v vs ih=>simp
  simp only[e1,if_true,e2];refine aAa (aDD ?_);refine aAa ?_;rw[KE];refine aAa (EF (λ_=>aCm T) (vs.map gf) (λx hx {Q} q'=>?_) ?_)
  ·obtain⟨y,hy,rfl⟩:=aAp.mp hx;obtain⟨_,_,_,_,_,ht⟩:=h y hy;exact aDB ht q'
  ·cases vs with
   |nil=>exact absurd rfl bc
   |cons v vs=>
    simp only[aAu,aBx];have e3:((aCm T::aCY ((λ_=>aCm T)∘gf) vs).toArray.all λx=>x==aCm T)=true:=by simp
    simp only[aCl,aCX,e3,if_true];refine aAb (aAb ?_);rw[hf]at q;exact q
end
end TS
namespace TS
open PySem PyProof.Rows HT
theorem lex_irrefl:∀a:List Int,HT.lexLt a a=false
 |[]=>rfl
 |x::xs=>by rw[I0,if_pos rfl];exact lex_irrefl xs
theorem lex_total:∀a b:List Int,HT.lexLt a b=false->HT.lexLt b a=false->a=b
 |[],[],_,_=>rfl
 |[],_::_,h,_=>by rw[N0]at h;cases h
 |_::_,[],_,h=>by rw[N0]at h;cases h
 |x::xs,y::ys,h1,h2=>by
  rw[I0]at h1 h2;by_cases e:x=y
  ·subst e;rw[if_pos rfl]at h1 h2;rw[lex_total xs ys h1 h2]
  ·rw[if_neg e]at h1;rw[if_neg (aCh e)]at h2;have:=of_decide_eq_false h1;have:=of_decide_eq_false h2;omega
theorem lex_trans:∀a b c:List Int,HT.lexLt a b=true->HT.lexLt b c=true->HT.lexLt a c=true
 |[],[],_,h,_=>by rw[Y9]at h;cases h
 |[],_::_,[],_,h=>by rw[C4]at h;cases h
 |[],_::_,_::_,_,_=>rfl
 |_::_,[],_,h,_=>by rw[C4]at h;cases h
 |_::_,_::_,[],_,h=>by rw[C4]at h;cases h
 |x::xs,y::ys,z::zs,h1,h2=>by
  rw[I0]at h1 h2⊢;by_cases e:x=y
  ·subst e;rw[if_pos rfl]at h1;by_cases e2:x=z
   ·subst e2;rw[if_pos rfl]at h2⊢;exact lex_trans xs ys zs h1 h2
   ·rw[if_neg e2]at h2⊢;exact h2
  ·rw[if_neg e]at h1;have a1:=of_decide_eq_true h1;by_cases e2:y=z
   ·subst e2;rw[if_neg e];exact h1
   ·rw[if_neg e2]at h2;have a2:=of_decide_eq_true h2;rw[if_neg (by omega)];exact decide_eq_true (by omega)
theorem DM:∀a b c:List Int,HT.lexLt a c=true->HT.lexLt a b=true\/HT.lexLt b c=true
 |[],[],_,h=>.inr h
 |[],_::_,_,_=>.inl rfl
 |_::_,_,[],h=>by rw[C4]at h;cases h
 |_::_,[],_::_,_=>.inr rfl
 |x::xs,y::ys,z::zs,h=>by
  rw[I0]at h;rw[I0,I0];by_cases e:x=y
  ·subst e;rw[if_pos rfl];by_cases e2:x=z
   ·subst e2;rw[if_pos rfl]at h⊢;exact DM xs ys zs h
   ·rw[if_neg e2]at h⊢;exact .inr h
  ·rw[if_neg e];by_cases l:x<y
   ·exact .inl (decide_eq_true l)
   ·refine .inr ?_;by_cases e2:x=z
    ·subst e2;rw[if_neg (aCh e)];exact decide_eq_true (by omega)
    ·rw[if_neg e2]at h;have:=of_decide_eq_true h;rw[if_neg (by omega)];exact decide_eq_true (by omega)
open Classical in
def kV (vs:List Value) (key:Value->List Int):KeyKind where
 α:=List Int
 blt:=HT.lexLt
 irrefl:=lex_irrefl
 trans:=lex_trans
 negTrans:=DM
 total:=lex_total
 keyOf:=λv=>if v∈vs then some (key v)else none
 dflt:=[]
open Classical in
def WZ (h:v∈vs):(kV vs key).keyOf v=some (key v):=if_pos h
open Classical in
def WU (e:(kV vs key).keyOf v=some l):v∈vs/\key v=l:=by
 have e':(if v∈vs then some (key v)else none)=some l:=e;split at e'
 ·rename_i h;cases e';exact⟨h,rfl⟩
 ·cases e'
def pV (vs:List Value):(pairsOf vs).toList=vs.map λv=>(v,v):=by
 unfold pairsOf;rw[List.zip_toArray];show vs.zip vs=_;induction vs with
 |nil=>rfl
 |cons v vs ih=>rw[aBN,aAu,ih]
section
def HN {a:Addr}{vs:List Value}{n:Nat}{f:Bool}{key:Value->List Int}{P:Fin->Shared->Prop}(ho:s.heap.get? a=some (seqObj "list" vs.toArray n))
  (av:∀s6,gz a s s6->∀x∈vs,∀y∈vs,∀(prog:Program) (w:World) (E:F1) {Q:wN},Q (HT.lexLt (key x) (key y)) s6->wpAny (model prog w) A (keyLt' (tupK f) x y) Q E s6)
  (om:2<=vs.length->∀s6,gz a s s6->∀{Q:SortKind->Shared->Prop},Q (tupK f) s6->wpAny (model prog w) A (keyKind' vs.toArray) Q E s6) (h64:vs.length<64)
  (h:∀ja:List Value,ja.Perm vs->ja.Pairwise (λx y=>HT.lexLt (key y) (key x)=false)->P (.done (.ret .none)) {s with heap:=sortedHeap s.heap a vs ja.toArray}):
  wpAny (model prog w) A (Builtin.«list.sort» ⟨[.ref a],[]⟩) P E s:=by
 refine zT (κ:=kV vs key) (f:=f) ho (λp xh=>?_) (λs6 hb prog w E x y k l Q hx hy q=>?_) (λh2 s6 hb {Q} q=>om h2 s6 hb q) h64 λst' hperm hs=>?_
 ·rw[pV]at xh;obtain⟨v,hv,rfl⟩:=aAp.mp xh;exact⟨key v,WZ hv⟩
 ·obtain⟨m1,e1⟩:=WU hx;obtain⟨m2,e2⟩:=WU hy;subst e1 e2;exact av s6 hb x m1 y m2 prog w E q
 ·have bh:(arrOf st').toList.Perm (vs.map λv=>(v,v)):=by rw[<-pV];exact aEy.mp hperm
  have same:∀p∈(arrOf st').toList,p.1=p.2/\p.2∈vs:=λp xh=>by obtain⟨v,hv,rfl⟩:=aAp.mp (bh.mem_iff.mp xh);exact⟨rfl,hv⟩
  have ea:(arrOf st').map (·.2)=((arrOf st').toList.map (·.2)).toArray:=by apply Array.ext';simp
  rw[ea];refine h _ ?_ ?_
  ·have:=bh.map (·.2);rw[aBx,show((λx:Value×Value=>x.2)∘λv=>(v,v))=id from rfl,List.map_id]at this;exact this
  ·rw[aCf];intro i j hi hj ma;have gg:i<(arrOf st').size:=by simpa using hi
   have wc:j<(arrOf st').size:=by simpa using hj
   have iu:(arrOf st').size=(pairsOf vs).size:=hperm.size_eq;have q:=hs i j (aCV ma) (by rw[<-iu];exact wc);have kk:∀k (hk:k<(arrOf st').size),KK (kV vs key) (arrOf st') k=key (arrOf st')[k].2:=λk hk=>by unfold KK;rw[getElem?_pos _ k hk];obtain⟨e1,e2⟩:=same (arrOf st')[k] (by simp);show((kV vs key).keyOf (arrOf st')[k].1).getD _=_;rw[e1,WZ e2];rfl
   rw[kk i gg,kk j wc]at q;rw[aEa,aEa,aFI,aFI];exact q
def sorted_keys {x:Value}{vs:List Value}{f:Bool}{key:Value->List Int}{Q:F1}{C:Shared->Prop}(hc:∀{Q':List Value->Shared->Prop},(∀s',C s'->Q' vs s')->wpAny (model prog w) A.in1 (collect x) Q' E s)
  (av:∀s',C s'->∀s6,(∀b o,s'.heap.get? b=some o->s6.heap.get? b=some o)->∀x∈vs,∀y∈vs,∀(prog:Program) (w:World) (A':Around) (E:F1) (hA:A'.units<=A.units+5) {Q:wN},Q (HT.lexLt (key x) (key y)) s6->wpAny (model prog w) A' (keyLt' (tupK f) x y) Q E s6)
  (om:2<=vs.length->∀s',C s'->∀s6,(∀b o,s'.heap.get? b=some o->s6.heap.get? b=some o)->∀(A:Around) {Q:SortKind->Shared->Prop},Q (tupK f) s6->wpAny (model prog w) A (keyKind' vs.toArray) Q E s6) (h64:vs.length<64)
  (h:∀(s':Shared) (ja:List Value) (h':Heap) (l:Addr),C s'->ja.Perm vs->ja.Pairwise (λx y=>HT.lexLt (key y) (key x)=false)->(∀b o,s'.heap.get? b=some o->h'.get? b=some o)->s'.heap.objs.size<=l->(∃n,h'.get? l=some (seqObj "list" ja.toArray n))->Q (.ref l) {s' with heap:=h'}):
  wpAny (model prog w) A (call (.builtin "sorted") [x]) Q E s:=by
 refine Calls.call_function_entry kind_sorted plain_sorted entry_sorted (args_sorted1 _) ?_;unfold Builtin.«sorted»;refine aAa (m:=checkCount "sorted" 1 1 _) (aAb ?_);refine aAa (hc λs' cs=>?_);refine aAa (wpAny_newList ?_);have hoL:(s'.heap.push<|seqObj "list" vs.toArray 0).get? s'.heap.objs.size=some (seqObj "list" vs.toArray 0):=aAn _ rfl;have kp:∀s6,gz s'.heap.objs.size {s' with heap:=s'.heap.push (seqObj "list" vs.toArray 0)} s6->∀b o,s'.heap.get? b=some o->s6.heap.get? b=some o:=λs6 hb b o e=>hb b o (aAk<|aAf e) (aAc _ e);refine aAa (aAO (aBm slot_list_sort ⟨_,hoL,rfl⟩ entry_list_sort (HN (key:=key) (f:=f) hoL (λs6 hb x hx y hy prog w E {Q} q=>av s' cs s6 (kp s6 hb) x hx y hy prog w _ E (by simp) q) (λh2 s6 hb {Q} q=>om h2 s' cs s6 (kp s6 hb) _ q) h64 λja hp hs=>⟨_,rfl,?_⟩)<|args_list_sort _));refine aAb ⟨_,rfl,h s' ja _ _ cs hp hs (λb o e=>?_) (aAh _) (sortedHeap_at hoL)⟩;rw[sortedHeap_old (aAk<|aAf e) (by rw[aBq];exact aBr (aAf e))];exact aAc _ e
end
end TS
namespace DL
open PySem PySem.Spec L2
open PyProof.Rows hiding St
def LJ:D->Bool
 |.int _=>true
 |_=>false
def cF:D->Bool
 |.tup xs=>!xs.isEmpty&&xs.all LJ
 |_=>false
def intD:D->Int
 |.int i=>i
 |_=>0
def D5:D->List Int
 |.tup xs=>xs.map intD
 |_=>[]
theorem NZ:∀{xs:List D},xs.all LJ=true->xs=(xs.map intD).map D.int
 |[],_=>rfl
 |x::xs,h=>by
  simp only[aEf,aAC]at h;cases x with
  |int i=>show D.int i::xs=D.int i::(xs.map intD).map D.int;rw[<-NZ h.2]
  |_=>cases h.1
def bJ (h:cF d=true):D5 d≠[]/\d=.tup ((D5 d).map .int):=by
 cases d with
 |tup xs=>simp only[cF,aAC,Bool.not_eq_true',List.isEmpty_eq_false_iff]at h;refine⟨by simpa[D5]using h.1,?_⟩;show D.tup xs=D.tup ((xs.map intD).map D.int);rw[<-NZ h.2]
 |_=>cases h
def yL (h:cF d=true)(h':cF e=true)(q:D5 d=D5 e):d=e:=by rw[(bJ h).2,(bJ h').2,q]
theorem rQ:∀l:List Int,gC (l.map D.int)=true
 |[]=>rfl
 |i::l=>by show(true&&gC (l.map D.int))=true;rw[rQ l];rfl
def V0 (h:cF d=true):qM d=true:=by rw[(bJ h).2];exact rQ _
def uE (h:cF d=true):G9 d<8:=by
 rw[(bJ h).2];have:∀l:List Int,K6 (l.map D.int)=0:=λl=>by
  induction l with
  |nil=>rfl
  |cons i l ih=>show max 0 (K6<|l.map D.int)=0;rw[ih];rfl
 show K6 _+1<8;rw[this];lia
def qS (d:D):List D->List D
 |[]=>[d]
 |x::xs=>if D5 d=D5 x then x::xs else if HT.lexLt (D5 d) (D5 x)=true then d::x::xs else x::qS d xs
def aX (ds:List D):List D:=ds.foldr qS []
def RE (ds:List D):Prop:=ds.Pairwise λx y=>HT.lexLt (D5 x) (D5 y)=true
theorem iX:∀{xs:List D},e∈qS d xs->e=d\/e∈xs
 |[],h=>by rcases aAe.mp h with h|h;exact .inl h;cases h
 |x::xs,h=>by
  unfold qS at h;split at h
  ·exact .inr h
  ·split at h
   ·rcases aAe.mp h with h|h
    ·exact .inl h
    ·exact .inr h
   ·rcases aAe.mp h with h|h
    ·exact .inr (by rw[h];exact .head _)
    ·rcases iX h with h|h
     ·exact .inl h
     ·exact .inr (.tail _ h)
theorem wT:∀{xs:List D},e∈xs->e∈qS d xs
 |x::xs,h=>by
  unfold qS;split
  ·exact h
  ·split
   ·exact .tail _ h
   ·rcases aAe.mp h with h|h
    ·rw[h];exact .head _
    ·exact .tail _ (wT h)
theorem wY (hd:cF d=true):∀{xs:List D},(∀x∈xs,cF x=true)->d∈qS d xs
 |[],_=>.head _
 |x::xs,h=>by
  unfold qS;split
  ·rename_i q;rw[yL hd (h x (.head _)) q];exact .head _
  ·split
   ·exact .head _
   ·exact .tail _ (wY hd λy hy=>h y (.tail _ hy))
theorem yW:∀{xs:List D},RE xs->RE (qS d xs)
 |[],_=>aDG _ _
 |x::xs,h=>by
  have h1:=aAy.mp h;unfold qS;split
  ·exact h
  ·rename_i ne;split
   ·rename_i lt;refine aAy.mpr ⟨λy hy=>?_,h⟩;rcases aAe.mp hy with rfl|hy
    ·exact lt
    ·exact TS.lex_trans _ _ _ lt (h1.1 y hy)
   ·rename_i nlt;refine aAy.mpr ⟨λy hy=>?_,yW h1.2⟩;rcases iX hy with rfl|hy
    ·cases q:HT.lexLt (D5 x) (D5 y)with
     |true=>rfl
     |false=>exact absurd (TS.lex_total _ _ (by simpa using nlt) q) ne
    ·exact h1.1 y hy
theorem fA:∀ds:List D,RE (aX ds)
 |[]=>.nil
 |_::ds=>yW (fA ds)
theorem xS:∀{ds:List D},(∀d∈ds,cF d=true)->∀d∈aX ds,cF d=true
 |[],_,d,h=>by cases h
 |e::ds,h,d,hd=>by
  rcases iX hd with rfl|hd
  ·exact h _ (.head _)
  ·exact xS (λd hd=>h d (.tail _ hd)) d hd
theorem O9:∀{ds:List D},(∀d∈ds,cF d=true)->∀d,d∈aX ds↔d∈ds
 |[],_,d=>Iff.rfl
 |e::ds,h,d=>by
  have h':∀d∈ds,cF d=true:=λd hd=>h d (.tail _ hd);constructor
  ·intro q;rcases iX q with rfl|q
   ·exact .head _
   ·exact .tail _ ((O9 h' d).mp q)
  ·intro q;rcases aAe.mp q with rfl|q
   ·exact wY (h _<|.head _) (xS h')
   ·exact wT ((O9 h' d).mpr q)
theorem qF:∀{xs ys:List D},RE xs->RE ys->(∀d,d∈xs↔d∈ys)->xs=ys
 |[],[],_,_,_=>rfl
 |[],y::ys,_,_,h=>by have:=(h y).mpr (.head _);cases this
 |x::xs,[],_,_,h=>by have:=(h x).mp (.head _);cases this
 |x::xs,y::ys,h1,h2,h=>by
  have a1:=aAy.mp h1;have a2:=aAy.mp h2;have irr:∀d:D,HT.lexLt (D5 d) (D5 d)≠true:=λd q=>by rw[TS.lex_irrefl]at q;cases q
  have exy:x=y:=by
   rcases aAe.mp ((h x).mp (.head _))with q|q
   ·exact q
   ·rcases aAe.mp ((h y).mpr (.head _))with q2|q2
    ·exact q2.symm
    ·exact absurd (TS.lex_trans _ _ _ (a2.1 x q)<|a1.1 y q2) (irr y)
  subst exy;congr 1;refine qF a1.2 a2.2 λd=>?_;constructor
  ·intro q;rcases aAe.mp ((h d).mp (.tail _ q))with z|z
   ·subst z;exact absurd (a1.1 d q) (irr d)
   ·exact z
  ·intro q;rcases aAe.mp ((h d).mpr (.tail _ q))with z|z
   ·subst z;exact absurd (a2.1 d q) (irr d)
   ·exact z
def HI (h:RE xs):xs.Nodup:=h.imp λ{x y} q z=>by subst z;rw[TS.lex_irrefl]at q;cases q
def wz:D->R (List D)
 |.lst ds=>if ds.all cF=true/\(aX ds).length<=63 then .ok (aX ds)else .bad
 |_=>.bad
section
mutual
theorem dN (I:Inv X pins σ H s):∀{v:V} {d:D} {u:Value},Rep X.K H O v d->qM d=true->RelV v u->HV s.heap u d
 |_,_,_,.non,e,_=>by cases e
 |_,_,_,.bl,e,_=>by cases e
 |_,_,_,.str,e,_=>by cases e
 |_,_,_,.lst _ _ _,e,_=>by cases e
 |_,_,_,.dct _ _ _,e,_=>by cases e
 |_,_,_,.int,_,r=>by obtain⟨t,rfl⟩:=r;exact .int _ t
 |_,_,_,.tup h r,e,ru=>by cases ru;obtain⟨its,rv,p,_⟩:=I.tuple h;exact .tup p (DX I r e rv)
theorem DX (I:Inv X pins σ H s):∀{v:List V} {d:List D} {u:List Value},Reps X.K H O v d->gC d=true->l8 v u->HVs s.heap u d
 |_,_,_,.nil,_,.nil=>.nil
 |_,_,_,.cons r t,e,.cons ru tu=>by have e':(qM _&&gC _)=true:=e;rw[aAC]at e';exact .cons (dN I r e'.1 ru) (DX I t e'.2 tu)
end
end
variable [Tabs]
def zy (w:World)(o:Obj)(es:List Value):Prop:=o.ExactSet/\∃ea ep t,o.data=.set ea ep t/\t.fits ea.size=true/\t.plain=true/\t.led=!w.params.followText "set-order"/\ST.IV t.place/\ea.toList.map (·.2)=es
abbrev A0 (K:PySem.W.Frag)(H:Hp)(O:Addr->Prop):List Value->List D->Prop:=Paired λu d=>∃v,RelV v u/\Rep K H O v d
theorem A0.of {K:PySem.W.Frag}{H:Hp}{O:Addr->Prop}:∀{vs:List V} {us:List Value} {ds:List D},l8 vs us->Reps K H O vs ds->A0 K H O us ds
 |_,_,_,.nil,.nil=>.nil
 |_,_,_,.cons r t,.cons q u=>.cons ⟨_,r,q⟩ (A0.of t u)
theorem A0.ac5 {K:PySem.W.Frag}{H:Hp}{O:Addr->Prop}:∀{us:List Value} {ds:List D},A0 K H O us ds->∃vs,l8 vs us/\Reps K H O vs ds
 |_,_,.nil=>⟨[],.nil,.nil⟩
 |_,_,.cons ⟨v,r,q⟩ t=>let⟨vs,r',q'⟩:=A0.ac5 t;⟨v::vs,.cons r r',.cons q q'⟩
def A0.same {K:PySem.W.Frag}{H H':Hp}{O:Addr->Prop}(s:Same H H'){us:List Value}{ds:List D}(h:A0 K H O us ds):A0 K H' O us ds:=cP (λ_ _ ⟨v,r,q⟩=>⟨v,r,q.same s⟩) h
theorem A0.get {K:PySem.W.Frag}{H:Hp}{O:Addr->Prop}:∀{us:List Value} {ds:List D} {u:Value},A0 K H O us ds->u∈us->∃d∈ds,∃v,RelV v u/\Rep K H O v d
 |_,_,_,.cons r t,h=>by
  rcases aAe.mp h with rfl|h
  ·exact⟨_,.head _,r⟩
  ·obtain⟨d,hd,q⟩:=A0.get t h;exact⟨d,.tail _ hd,q⟩
open Classical in
def P9 (K:PySem.W.Frag) (H:Hp) (h:Heap):Heap:=PySem.W.hideAll h ((aBL h.objs.size).filter λa=>decide (¬∃xs,X7 K H a xs))
def aE (K:PySem.W.Frag)(H:Hp)(h:Heap):Keeps (P9 K H h) h:=λb o e=>PySem.W.of_hideAll _ e
open Classical in
def yU {K:PySem.W.Frag}{H:Hp}{h:Heap}{b:Addr}{o:Obj}{xs:List V}(e:h.get? b=some o)(q:X7 K H b xs):(P9 K H h).get? b=some o:=PySem.W.hideAll_get _ e λhm=>by have:=(aDj.mp hm).2;exact(of_decide_eq_true this) ⟨xs,q⟩
open Classical in
def BB {K:PySem.W.Frag}{H:Hp}{h:Heap}{b:Addr}{o:Obj}(e:(P9 K H h).get? b=some o):∃xs,X7 K H b xs:=by refine Classical.byContradiction λn=>?_;have e':=aE K H h b o e;have:(P9 K H h).get? b=none:=PySem.W.hideAll_none _ (aDj.mpr ⟨aCc.mpr (aAf e'),decide_eq_true n⟩);rw[this]at e;cases e
section
mutual
theorem LN (I:Inv X pins σ H s):∀{v:V} {d:D} {u:Value},Rep X.K H O v d->qM d=true->RelV v u->HV (P9 X.K H s.heap) u d
 |_,_,_,.non,e,_=>by cases e
 |_,_,_,.bl,e,_=>by cases e
 |_,_,_,.str,e,_=>by cases e
 |_,_,_,.lst _ _ _,e,_=>by cases e
 |_,_,_,.dct _ _ _,e,_=>by cases e
 |_,_,_,.int,_,r=>by obtain⟨t,rfl⟩:=r;exact .int _ t
 |_,_,_,.tup h r,e,ru=>by cases ru;obtain⟨its,rv,⟨o,g,c,n,d⟩,_⟩:=I.tuple h;exact .tup ⟨o,yU g h,c,n,d⟩ (ET I r e rv)
theorem ET (I:Inv X pins σ H s):∀{v:List V} {d:List D} {u:List Value},Reps X.K H O v d->gC d=true->l8 v u->HVs (P9 X.K H s.heap) u d
 |_,_,_,.nil,_,.nil=>.nil
 |_,_,_,.cons r t,e,.cons ru tu=>by have e':(qM _&&gC _)=true:=e;rw[aAC]at e';exact .cons (LN I r e'.1 ru) (ET I t e'.2 tu)
end
mutual
theorem QX (I:Inv X pins σ H s):∀{u:Value} {d:D},HV (P9 X.K H s.heap) u d->∃v,RelV v u/\Rep X.K H O v d
 |_,_,.int i t=>⟨.int i,⟨t,rfl⟩,.int⟩
 |_,_,.tup (a:=a) ⟨o,g,c,n,dd⟩ r=>by obtain⟨xs,q⟩:=BB g;obtain⟨vs,r1,r2⟩:=A0.ac5 (EH I r);obtain⟨its,rv,⟨o',g',_,n',d'⟩,_⟩:=I.tuple q;rw[aE _ _ _ _ _ g]at g';cases g';rw[dd]at d';injection d' with d1 _;subst d1;have:vs=xs:=r1.inj (by simpa using rv);subst this;exact⟨.ref a,rfl,.tup q r2⟩
theorem EH (I:Inv X pins σ H s):∀{u:List Value} {d:List D},HVs (P9 X.K H s.heap) u d->A0 X.K H O u d
 |_,_,.nil=>.nil
 |_,_,.cons r t=>.cons (QX I r) (EH I t)
end
end
section
def yx (X:Cx)(f:Ev->R D):TE:=λσ H Q=>∃Ha O0 O ρ,EnvOk X.K Ha O0 H O σ ρ/\match f ρ with
 |.ok (.lst ds)=>(ds.all cF=true/\(aX ds).length<=63)/\∀S o es cb H1,Same H H1->H1 S=none->zy X.w o es->A0 X.K H1 O es cb->cb.Nodup->(∀d,d∈cb↔d∈ds)->Q (.ref S) (upd H1 S<|.frz o (.own S))
 |.ex x=>∀H',Same H H'->XW X x H'
 |_=>False
def RZ (ha:PB X e f)(hh:X.calm=true)(hu:X.A.units+300<cLine)(hg:Gl X "set":=by rfl)(hm:X.mg "set"=none:=by assumption)(hv:bootBuiltins "set"=some (.type "set"):=by decide+kernel)(he:starEach [e] X.env=(false,eval e X.env)::starEach [] X.env:=by rfl)(bh:(backTo pos (starEach [] X.env)).any (·.1)=false:=by rfl):
  PE X (.Call (.Name "set" p) [e] [] pos) (yx X f):=by
 refine qO λpins s σ H Q I Ha O0 O ρ E q=>?_;refine aAP (P6 I hg hm hv ?_ (by decide) (by decide));have tf:PA X [e] _:=J8 ha cC he;refine aBf (D4 (tf pos pins s σ H (λvs H1=>∃v ds,vs=[v]/\f ρ=.ok (.lst ds)/\Same H H1/\C0 X.K H1 O v (.lst ds)) I ⟨Ha,O0,O,ρ,E,?_⟩) λus s1 ⟨vs,H1,I1,r1,v,ds,ev,ef,sm,rb⟩=>?_) he bh
 ·cases e1:f ρ with
  |ex z=>rw[e1]at q;exact q
  |bad=>rw[e1]at q;exact q.elim
  |ok d=>
   rw[e1]at q;cases d with
   |lst ds=>exactλv H1 s1 r1=>⟨v,ds,rfl,rfl,s1,r1⟩
   |_=>exact q.elim
 ·subst ev;rw[ef]at q;obtain⟨⟨hp,h63⟩,q⟩:=q;obtain⟨a,ws,rfl,hS,rr⟩:=rb.aa4;obtain⟨u,rfl,ru⟩:=vals1 r1;cases ru;obtain⟨its,rv,⟨oL,nL,gL,cL,dL,sL⟩,zL⟩:=I1.list hS;have pt:∀d∈ds,cF d=true:=aBz.mp hp;have hlen:its.toArray.size=ds.length:=by rw[aAl,<-rv.length,rr.length]
  have st:A0 X.K H1 O its ds:=A0.of rv rr;have goes:∀(i:Nat) (v:Value),its.toArray[i]?=some v->fw (P9 X.K H1 s1.heap) v (ds.getD i .non):=λi v hi=>by
   rw[aCl]at hi;obtain⟨d,hd,w,ud,rp⟩:=J5 st hi;have mh:ds.getD i .non=d:=by rw[aAo,hd];rfl
   rw[mh];have hpt:=pt d (aAs hd);have hv:=LN I1 rp (V0 hpt) ud;rw[(bJ hpt).2]at hv⊢;cases hv with
   |tup p r=>exact⟨_,_,rfl,rfl,by have:=uE hpt;rw[(bJ hpt).2]at this;exact this,.tup p r⟩
  have vd:∀i<its.toArray.size,G9 (ds.getD i .non)<8/\∃ys,ds.getD i .non=.tup ys:=λi hi=>by
   have gg:i<ds.length:=by rw[<-hlen];exact hi
   have e1:ds.getD i .non=ds[i]:=by rw[aAo,aAi gg];rfl
   rw[e1];exact⟨uE (pt _<|aBV gg),_,(bJ<|pt _<|aBV gg).2⟩
  refine wU (aE X.K H1 s1.heap) (val:=λi=>ds.getD i .non) (U:=aX ds) (I1.ok.hd hh) ⟨oL,gL,cL,nL,sL⟩ goes vd (λi hi=>?_) (by lia) hu λh' tk cb jt qp kp=>?_
  ·have gg:i<ds.length:=by rw[<-hlen];exact hi
   rw[O9 pt];have e1:ds.getD i .non=ds[i]:=by rw[aAo,aAi gg];rfl
   show ds.getD i .non∈ds;rw[e1];exact aBV gg
  ·obtain⟨⟨o,es,ep,t,ho,hc,hdct,hsl,hd,sok,msk,pr,led,pl⟩,nd⟩:=jt;have mem:∀d,d∈cb↔d∈ds:=λd=>by
    rw[qp];constructor
    ·rintro⟨j,hj,e1⟩;have wc:j<ds.length:=by rw[<-hlen];exact hj
     have e2:ds.getD j .non=ds[j]:=by rw[aAo,aAi wc];rfl
     rw[<-e1,e2];exact aBV wc
    ·intro hd;obtain⟨j,hj,e1⟩:=aBi hd;refine⟨j,by rw[hlen];exact hj,?_⟩;show ds.getD j .non=d;rw[aAo,aAi hj,<-e1];rfl
   have I2:=I1.laid (a:=s1.heap.objs.size) (o:=.frz o (.own s1.heap.objs.size)) (h':=h') (t':=tk) kp (aAh _) ⟨ho,o,ho⟩;refine⟨.ref s1.heap.objs.size,_,I2,rfl,q s1.heap.objs.size o (es.toList.map (·.2)) cb H1 sm (I1.hok.fresh<|aAh _) ⟨⟨hc,hdct,hsl⟩,es,ep,t,hd,?_,pl,led,sok.tab.asc,rfl⟩ ?_ nd mem⟩
   ·have h1:=sok.len;have h2:=sok.room;simp only[aFU,aAC,beq_iff_eq,decide_eq_true_eq];exact⟨by simpa using h1,by show t.place.size+t.dummies.size<=t.mask;rw[sok.tab.nod];simpa using h2⟩
   ·have:∀{es:List (Int×Value)} {ds:List D},Paired (EV<|P9 X.K H1 s1.heap) es ds->A0 X.K H1 O (es.map (·.2)) ds:=λ{es ds} p=>by
     induction p with
     |nil=>exact .nil
     |cons r _ ih=>exact .cons (QX I1 r.1) ih
    exact this pr
def UX (h:Heap) (v:Value):List Int:=open Classical in if p:∃d,cF d=true/\HV h v d then D5 p.choose else[]
def uK (hp:cF d=true)(hv:HV h v d):UX h v=D5 d:=by unfold UX;have q:∃d,cF d=true/\HV h v d:=⟨d,hp,hv⟩;rw[dif_pos q,HV.inj q.choose_spec.2 hv]
def bG (hp:cF d=true)(hv:HV h v d):∃b items,v=.ref b/\IsTup h b items/\IntsAre items.toList (D5 d):=by
 rw[(bJ hp).2]at hv;cases hv with
 |tup p r=>
  refine⟨_,_,rfl,p,?_⟩;have:∀{vs:List Value} {l:List Int},HVs h vs (l.map D.int)->IntsAre vs l:=λ{vs l} r=>by
   induction l generalizing vs with
   |nil=>cases r;exact .nil
   |cons i l ih=>
    cases r with
    |cons r t=>cases r;exact .cons _ _ (ih t)
  exact this r
def bx {prog:Program}{w:World}{A:Around}{E:F1}{s:Shared}{x y:Value}{d e:D}{f:Bool}{Q:wN}(hd:cF d=true)(he:cF e=true)(hx:HV s.heap x d)(hy:HV s.heap y e)(q:Q (HT.lexLt (D5 d) (D5 e)) s):wpAny (model prog w) A (keyLt' (TS.tupK f) x y) Q E s:=by obtain⟨b,its,rfl,t1,i1⟩:=bG hd hx;obtain⟨b',its',rfl,t2,i2⟩:=bG he hy;exact TS.lt_ints f t1 t2 i1 i2 q
def NH {prog:Program}{w:World}{A:Around}{E:F1}{s:Shared}{vs:List Value}{Q:SortKind->Shared->Prop}(h:∀x∈vs,∃d,cF d=true/\HV s.heap x d)(h2:2<=vs.length)(q:Q (TS.tupK true) s):wpAny (model prog w) A (keyKind' vs.toArray) Q E s:=by
 obtain⟨gf,hgf⟩:∃gf:Value->Value,∀x∈vs,∃b items k t,x=.ref b/\IsTup s.heap b items/\items[0]?=some (gf x)/\gf x=.int k t:=by
  refine⟨λx=>open Classical in if z:∃p,∃b items k t,x=.ref b/\IsTup s.heap b items/\items[0]?=some p/\p=aGn k t then z.choose else .none,λx hx=>?_⟩;obtain⟨d,hp,hv⟩:=h x hx;obtain⟨b,items,rfl,ht,hi⟩:=bG hp hv;have hn:=(bJ hp).1;have z:∃p,∃b' items k t,aDb b=.ref b'/\IsTup s.heap b' items/\items[0]?=some p/\p=aGn k t:=by
   cases e:items.toList with
   |nil=>rw[e]at hi;generalize D5 d=l at hi hn;cases hi;exact absurd rfl hn
   |cons p ps=>
    rw[e]at hi;generalize D5 d=l at hi;cases hi with
    |cons k t h'=>exact⟨_,b,items,k,t,rfl,ht,by rw[<-aAB,e];rfl,rfl⟩
  dsimp only;rw[dif_pos z];obtain⟨b',xr,k,t,q1,q2,q3,q4⟩:=z.choose_spec;exact⟨b',xr,k,t,q1,q2,q3,q4⟩
 refine TS.kind_tuples (T:= "int") gf (λx hx=>?_) (λz=>by rw[z]at h2;simp at h2) (by decide) q;obtain⟨b,items,k,t,q1,q2,q3,q4⟩:=hgf x hx;exact⟨b,items,q1,q2,q3,by rw[q4];exact typeIs_int s k t⟩
def uM {K:PySem.W.Frag}{H:Hp}{O:Addr->Prop}{us us':List Value}{ds:List D}{key:Value->List Int}(st:A0 K H O us ds)(hp:us'.Perm us)(hs:us'.Pairwise λx y=>HT.lexLt (key y) (key x)=false)(hk:∀u d,(∃v,RelV v u/\Rep K H O v d)->d∈ds->key u=D5 d)(pt:∀d∈ds,cF d=true)(nd:ds.Nodup):
  ∃cb,A0 K H O us' cb/\cb.Perm ds/\RE cb:=by
 obtain⟨cb,p',st'⟩:=dU hp st;refine⟨cb,st',p',?_⟩;have nd':cb.Nodup:=p'.nodup_iff.mpr nd;have yu:∀d∈cb,cF d=true:=λd hd=>pt d (p'.mem_iff.mp hd);have mi:∀u d,(∃v,RelV v u/\Rep K H O v d)->d∈cb->key u=D5 d:=λu d h hd=>hk u d h (p'.mem_iff.mp hd);clear hp p' st nd pt hk;induction st' with
 |nil=>exact .nil
 |@cons u d us ds r t ih=>
  have h1:=aAy.mp hs;have n1:=aAM.mp nd';refine aAy.mpr ⟨λe he=>?_,ih h1.2 n1.2 (λd hd=>yu d (.tail _ hd)) λu d h hd=>mi u d h (.tail _ hd)⟩;have:∃u'∈us,∃v,RelV v u'/\Rep K H O v e:=by
   clear ih hs h1 n1 nd' yu mi r;induction t with
   |nil=>cases he
   |cons r t ih=>
    rcases aAe.mp he with rfl|he
    ·exact⟨_,.head _,r⟩
    ·obtain⟨u',hu,q⟩:=ih he;exact⟨u',.tail _ hu,q⟩
  obtain⟨u',hu,q⟩:=this;have l:=h1.1 u' hu;rw[mi u' e q (.tail _ he),mi u d r (.head _)]at l;cases z:HT.lexLt (D5 d) (D5 e)with
  |true=>rfl
  |false=>have:=yL (yu _<|.head _) (yu _<|.tail _ he) (TS.lex_total _ _ z l);subst this;exact absurd he n1.1
def iL {p p2 ib:Pos}{f:Ev->R D}(ha:PB X e f)(hh:X.calm=true)(hu:X.A.units+300<cLine)(hg:Gl X "set":=by rfl)(hm:X.mg "set"=none:=by assumption)(hg2:Gl X "sorted":=by rfl)(md:X.mg "sorted"=none:=by assumption)
  (hv:bootBuiltins "set"=some (.type "set"):=by decide+kernel) (hv2:bootBuiltins "sorted"=some (.builtin "sorted"):=by decide+kernel)
  (he:starEach [e] X.env=(false,eval e X.env)::starEach [] X.env:=by rfl) (bh:(backTo ib (starEach [] X.env)).any (·.1)=false:=by rfl)
  (jr:starEach [.Call (.Name "set" p2) [e] [] ib] X.env=(false,eval (.Call (.Name "set" p2) [e] [] ib) X.env)::starEach [] X.env:=by rfl) (xt:(backTo pos (starEach [] X.env)).any (·.1)=false:=by rfl):
  PF X (.Call (.Name "sorted" p) [.Call (.Name "set" p2) [e] [] ib] [] pos) (λρ=>(f ρ).bind wz):=by
 refine qO λpins s σ H Q I Ha O0 O ρ E q=>?_;dsimp only at q;refine aAP (P6 I hg2 md hv2 ?_ (by decide) (by decide));have tf:PA X [.Call (.Name "set" p2) [e] [] ib] _:=J8 (RZ (p:=p2) ha hh hu hg hm hv he bh) cC jr;refine aBF (D4 (tf pos pins s σ H (λvs H2=>∃S o es cb ds H1,vs=[.ref S]/\H2=upd H1 S (.frz o (.own S))/\f ρ=.ok (.lst ds)/\(ds.all cF=true/\(aX ds).length<=63)/\Same H H1/\H1 S=none/\zy X.w o es/\A0 X.K H1 O es cb/\cb.Nodup/\(∀d,d∈cb↔d∈ds)) I ⟨Ha,O0,O,ρ,E,?_⟩)
  λus s1 z=>?_) jr xt
 ·cases e1:f ρ with
  |ex z=>rw[e1]at q;exact q
  |bad=>rw[e1]at q;exact q.elim
  |ok d=>
   rw[e1,R.aa0]at q;cases d with
   |lst ds=>
    simp only[wz]at q;by_cases hc:ds.all cF=true/\(aX ds).length<=63
    ·exact⟨hc,λS o es cb H1 sm hS so st nd mem=>⟨S,o,es,cb,ds,H1,rfl,rfl,rfl,hc,sm,hS,so,st,nd,mem⟩⟩
    ·rw[if_neg hc]at q;exact q.elim
   |_=>exact q.elim
 ·obtain⟨vs,H2,I2,r1,S,o,es,cb,ds,H1,ev,eH,ef,⟨hp,h63⟩,sm,hS1,so,st,nd,mem⟩:=z;subst ev eH;obtain⟨u,rfl,ru⟩:=vals1 r1;cases ru;rw[ef,R.aa0]at q;simp only[wz]at q;rw[if_pos ⟨hp,h63⟩]at q;have pt:∀d∈ds,cF d=true:=aBz.mp hp;have yu:∀d∈cb,cF d=true:=λd hd=>pt d ((mem d).mp hd);have s12:Same H1 (upd H1 S<|.frz o (.own S)):=j4 hS1 _;have lh:=st.same s12;obtain⟨hc,ea,ep,t,hd,hf,hpln,led,asc,ees⟩:=so;have goS:=(I2.hok S _ i9).1;have hS2:SI.IsSet s1.heap S ea ep t:=⟨o,goS,hc.1,hd⟩;have hsl:(aX ds).Perm cb:=by
   letI:DecidableEq D:=λa b=>aDI _
   exact(aDs (HI<|fA ds) nd).mpr λd=>by rw[O9 pt,mem]
  have iu:ea.size=cb.length:=by have:=st.length;rw[<-ees]at this;simpa using this
  have h63':cb.length<=63:=by rw[<-hsl.length_eq];exact h63
  have wp:=SI.walkL_perm X.w S ea ep;have wpv:((SI.walkL X.w S ea ep).map (·.2)).Perm es:=by rw[<-ees];exact wp.map _
  have each:∀u∈(SI.walkL X.w S ea ep).map (·.2),∃d,d∈cb/\cF d=true/\HV s1.heap u d:=λu hu=>by obtain⟨d,hd,v,rv,rp⟩:=lh.get (wpv.mem_iff.mp hu);exact⟨d,hd,yu d hd,dN I2 rp (V0<|yu d hd) rv⟩
  refine TS.sorted_keys (vs:=(SI.walkL X.w S ea ep).map (·.2)) (f:=true) (key:=UX s1.heap) (C:=λs'=>∃h' tk,s'={s1 with heap:=h',toks:=tk}/\∀b o,s1.heap.get? b=some o->h'.get? b=some o)
   (λ{Q'} hq=>SI.collect_set (by simp[I2.ok.hd hh]) hS2 hf hpln (λnb=>by rw[led];simpa using nb) asc (by rw[iu];exact aAr h63' (by decide)) λh' tk k=>hq _ ⟨h',tk,rfl,k⟩)
   (λs' ⟨h',tk,es',k⟩ s6 k6 x hx y hy prog w A E hA {Q} qq=>?_) (λh2 s' ⟨h',tk,es',k⟩ s6 k6 A {Q} qq=>?_) (by rw[aAm,wp.length_eq,aAW,iu];lia) λs' ja h' l ⟨h1,tk,es',k⟩ pm srt k2 hl ⟨n,gl⟩=>?_
  ·subst es';obtain⟨d,_,pd,hvd⟩:=each x hx;obtain⟨d',_,pd',hvd'⟩:=each y hy;rw[uK pd hvd,uK pd' hvd']at qq;exact bx pd pd' (hvd.keeps λb o e _=>k6 b o (k b o e)) (hvd'.keeps λb o e _=>k6 b o (k b o e)) qq
  ·subst es';refine NH (λx hx=>?_) h2 qq;obtain⟨d,_,pd,hvd⟩:=each x hx;exact⟨d,pd,hvd.keeps λb o e _=>k6 b o (k b o e)⟩
  ·subst es';obtain⟨ua,st3,p2,srt2⟩:=uM (key:=UX s1.heap) lh (pm.trans wpv) srt (λu d ⟨v,rv,rp⟩ hd=>uK (yu d hd) (dN I2 rp (V0<|yu d hd) rv)) yu nd;have e2:ua=aX ds:=qF srt2 (fA ds) λd=>by rw[p2.mem_iff,mem,O9 pt]
   subst e2;obtain⟨wv,ud,rr⟩:=st3.ac5;have I2':=I2.kept (h':=h1) (t':=tk) k;have I3:=I2'.laid (a:=l) (o:=.lst wv) (h':=h') (t':=tk) k2 hl ⟨by rw[rr.length];exact aAr h63 (by decide),ja,n,ud,gl⟩;exact⟨.ref l,_,I3,rfl,q wv _ l (sm.trans s12) (I2'.hok.fresh hl) rr⟩
end
end DL
namespace SZ
open PySem
abbrev Zs (h:Heap)(z TI TO:Addr)(f0 f1:Value):Prop:=h.get? z=some {cls:=.type "zip",dict:=none,data:=.fields #[f0,f1,.bool false,.ref TI,.ref TO],slots:=#[]}
def sJ (f0:Value):Prop:=f0=.none\/∃a:Nat,f0=rawInt a
section
def alive {Q:Option Obj->Shared->Prop}(h:Q (s.heap.get? c) s):wpAny (model prog w) A (loadIfAlive c) Q E s:=λΓ p _=>by unfold loadIfAlive;rw[Sem.wp_loadIfAlive];simpa using h
def nI {Q:wN}(hz:Zs s.heap z TI TO f0 f1)(ho:sJ f0)(q1:Q true s)(q2:∀h' f1',Zs h' z TI TO f0 f1'->Heap.SameBut z s.heap h'->Q false {s with heap:=h'}):wpAny (model prog w) A (aBK (.ref z)) Q E s:=by
 unfold aBK;refine aAa (aCL hz rfl (x:=f0) rfl ?_);rcases ho with rfl|⟨a,rfl⟩
 ·exact aAb q1
 ·show wpAny _ _ (loadIfAlive (aEr (a:Int))>>=_) _ _ _;refine aAa (alive ?_);by_cases hn:(s.heap.get?<|aEr (a:Int)).isNone=true
  ·rw[if_pos hn];exact aAb q1
  ·rw[if_neg hn];refine aAa (aCL hz rfl (x:=f1) rfl ?_);by_cases hb:(f1 !=aCE true)=true
   ·rw[if_pos hb];refine aAa (aBR hz (by simp) λh' e' s'=>aAb (q2 h' (.bool true) e' s'))
   ·rw[if_neg hb];exact aAb (q2 s.heap f1 hz ⟨rfl,λ_ _=>rfl⟩)
def PL {Q:F1}(D:ZipApart z TI TO i1 i2 l1 l2)(hz:Zs s.heap z TI TO f0 f1)(ho:sJ f0)(wg:IsPair s.heap TI (.ref i1) (.ref i2))(va:IsPair s.heap TO a b)(h1:s.heap.IsListIter i1 l1 k)(h2:s.heap.IsListIter i2 l2 k)(qt:s.heap.IsList l1 xs)(ko:s.heap.IsList l2 ys)(hx:xs[k]?=some x)(hy:ys[k]?=some y)(hQ:∀h' T f0' f1' a' b',Zs h' z TI TO f0' f1'->sJ f0'->IsPair h' TO a' b'->h'.IsListIter i1 l1 (k+1)->h'.IsListIter i2 l2 (k+1)->s.heap.objs.size<=T->IsPair h' T x y->
   (∀c o,c≠z->c≠TO->c≠i1->c≠i2->s.heap.get? c=some o->h'.get? c=some o)->Q (.ref T) {s with heap:=h'}):
  wpAny (model prog w) A (Builtin.«zip.__next__» ⟨[.ref z],[]⟩) (λfin s'=>∃v,fin=.done (.ret v)/\Q v s') E s:=by
 show wpAny _ _ (field (.ref z) 2>>=_) _ _ _;refine aAa (aCL hz rfl (x:=.bool false) rfl ?_);show wpAny _ _ (field (.ref z) 3>>=_) _ _ _;refine aAa (aCL hz rfl (x:=.ref TI) rfl ?_);refine aAa (aBH wg rfl ?_);show wpAny _ _ (aBK (.ref z)>>=_) _ _ _;refine aAa (nI hz ho ?_ λh₁ f1' yv jl=>?_)
 ·simp only[if_true];refine aAa (aDD ?_);refine aAa (aCL hz rfl (x:=.ref TO) rfl ?_);refine aAa (aBR hz (by simp) λh₁ yv jl=>?_);replace yv:Zs h₁ z TI TO .ellipsis f1:=yv;refine aAa ?_;simp only[aDZ,aEs,aCS,aDQ];refine aAa (aAa<|wpAny_onRaise ?_);show wpAny _ _ (aBI (.ref i1)>>=_) _ _ _;refine aAa (aDe (h1.extBut jl.extBut D.i1z) (qt.extBut jl.extBut D.l1z) hx λjm h11 ml=>aAb ?_);have hTO3:IsPair jm TO a b:=ml.extBut _ _ D.TOi1 (jl.extBut _ _ D.TOz va);refine aAa (aBH hTO3 rfl ?_);refine aAa (wpAny_updateSeq_pair hTO3 λaB hTO2 hs6=>?_);replace hTO2:IsPair aB TO x b:=hTO2;refine aAa (aDO<|aAb ?_);refine aAa (aAa<|wpAny_onRaise ?_);show wpAny _ _ (aBI (.ref i2)>>=_) _ _ _;refine aAa (aDe (((h2.extBut jl.extBut D.i2z).extBut ml.extBut D.i12.symm).extBut hs6.extBut D.TOi2.symm)
   (((ko.extBut jl.extBut D.l2z).extBut ml.extBut D.l2i1).extBut hs6.extBut D.l2TO) hy λaA h20 xu=>aAb ?_)
  have hTO0:IsPair aA TO x b:=xu.extBut _ _ D.TOi2 hTO2;refine aAa (aBH hTO0 rfl ?_);refine aAa (wpAny_updateSeq_pair hTO0 λhV hTO1 hs7=>?_);replace hTO1:IsPair hV TO x y:=hTO1;refine aAa (aDO<|aAb<|aAb ?_);refine aAa (aBH hTO1 rfl ?_);refine aAa (aFM ?_);have iu:hV.objs.size=s.heap.objs.size:=by rw[hs7.1,xu.1,hs6.1,ml.1,jl.1]
  have hz3:Zs hV z TI TO .ellipsis f1:=hs7.extBut _ _ D.TOz.symm (xu.extBut _ _ D.i2z.symm<|hs6.extBut _ _ D.TOz.symm<|ml.extBut _ _ D.i1z.symm yv);have hk4:∀c o,c≠z->c≠TO->c≠i1->c≠i2->s.heap.get? c=some o->hV.get? c=some o:=λc o c1 c2 c3 c4 e=>hs7.extBut _ _ c2 (xu.extBut _ _ c4<|hs6.extBut _ _ c2<|ml.extBut _ _ c3<|jl.extBut _ _ c1 e)
  have h13:hV.IsListIter i1 l1 (k+1):=((h11.extBut hs6.extBut D.TOi1.symm).extBut xu.extBut D.i12).extBut hs7.extBut D.TOi1.symm;have h21:hV.IsListIter i2 l2 (k+1):=h20.extBut hs7.extBut D.TOi2.symm;have hzlt:z<hV.objs.size:=aAf hz3;show wpAny _ _ (aDx (.ref z) (.ref hV.objs.size)>>=_) _ _ _;refine aAa ?_;unfold aDx;have hz5:Zs (hV.push {cls:=.type "tuple",data:=.seq #[x,y]}) z TI TO .ellipsis f1:=aAc _ hz3;refine aAa (aBR hz5 (by simp) λaD hz1 hs8=>?_);replace hz1:Zs aD z TI TO (rawInt hV.objs.size) f1:=hz1;refine aBR hz1 (by simp) λaC hz2 hs9=>?_;replace hz2:Zs aC z TI TO (rawInt hV.objs.size) (.bool false):=hz2;have up:∀c o,c≠z->hV.get? c=some o->aC.get? c=some o:=λc o c1 e=>hs9.extBut _ _ c1 (hs8.extBut _ _ c1<|aAc _ e);have hT0:IsPair aC hV.objs.size x y:=hs9.extBut _ _ (aDk hzlt) (hs8.extBut _ _ (aDk hzlt)<|aAn _ rfl);refine aAb ⟨_,rfl,?_⟩;exact hQ aC hV.objs.size _ _ x y hz2 (.inr ⟨_,rfl⟩) (up _ _ D.TOz hTO1) (h13.at λo e=>up _ o D.i1z e) (h21.at λo e=>up _ o D.i2z e) (aDT iu.symm) hT0 λc o c1 c2 c3 c4 e=>up c o c1 (hk4 c o c1 c2 c3 c4 e)
 ·simp only[aAt,if_false];refine aAa ?_;show wpAny _ _ (forIn (#[.ref i1,.ref i2]:Array Value) _ _) _ _ _;rw[<-aCo];simp only[aCS,aDQ];refine aAa (aAa<|aAO ?_);show wpAny _ _ (aBI (.ref i1)>>=_) _ _ _;refine aAa (aDe (h1.extBut jl.extBut D.i1z) (qt.extBut jl.extBut D.l1z) hx λjm h11 ml=>aAb ?_);refine aAb ?_;refine aAa (aAa<|aAO ?_);show wpAny _ _ (aBI (.ref i2)>>=_) _ _ _;refine aAa (aDe ((h2.extBut jl.extBut D.i2z).extBut ml.extBut D.i12.symm) ((ko.extBut jl.extBut D.l2z).extBut ml.extBut D.l2i1) hy λaA h20 xu=>aAb ?_);refine aAb (aAb ?_);have iu:aA.objs.size=s.heap.objs.size:=by rw[xu.1,ml.1,jl.1]
  have hz6:Zs aA z TI TO f0 f1':=xu.extBut _ _ D.i2z.symm (ml.extBut _ _ D.i1z.symm yv);have hTO0:IsPair aA TO a b:=xu.extBut _ _ D.TOi2 (ml.extBut _ _ D.TOi1<|jl.extBut _ _ D.TOz va);have h15:aA.IsListIter i1 l1 (k+1):=h11.extBut xu.extBut D.i12;show wpAny _ _ (newTuple [x,y]>>=_) _ _ _;refine aAa (aFM ?_);refine aAb ⟨_,rfl,?_⟩;exact hQ _ aA.objs.size _ _ a b (aAc _ hz6) ho (aAc _ hTO0) (h15.at λo e=>aAc _ e) (h20.at λo e=>aAc _ e) (aDT iu.symm) (aAn _ rfl)
   λc o c1 c2 c3 c4 e=>aAc _ (xu.extBut _ _ c4<|ml.extBut _ _ c3<|jl.extBut _ _ c1 e)
def VI {Q:Fin->Shared->Prop}(hh:A.handled=none)(D:ZipApart z TI TO i1 i2 l1 l2)(hz:Zs s.heap z TI TO f0 f1)(ho:sJ f0)(wg:IsPair s.heap TI (.ref i1) (.ref i2))(va:IsPair s.heap TO a b)
  (h1:s.heap.IsListIter i1 l1 k) (h2:s.heap.IsListIter i2 l2 k) (qt:s.heap.IsList l1 xs) (ko:s.heap.IsList l2 ys) (hx:xs[k]?=none)
  (hE:∀h' e,(∀c o,c≠z->c≠TO->c≠i1->c≠i2->s.heap.get? c=some o->h'.get? c=some o)->(∃o,h'.get? e=some o/\o.cls=.type "StopIteration")->E (.ref e) {s with heap:=h'}):
  wpAny (model prog w) A (Builtin.«zip.__next__» ⟨[.ref z],[]⟩) Q E s:=by
 show wpAny _ _ (field (.ref z) 2>>=_) _ _ _;refine aAa (aCL hz rfl (x:=.bool false) rfl ?_);show wpAny _ _ (field (.ref z) 3>>=_) _ _ _;refine aAa (aCL hz rfl (x:=.ref TI) rfl ?_);refine aAa (aBH wg rfl ?_);show wpAny _ _ (aBK (.ref z)>>=_) _ _ _;refine aAa (nI hz ho ?_ λh₁ f1' yv jl=>?_)
 ·simp only[if_true];refine aAa (aDD ?_);refine aAa (aCL hz rfl (x:=.ref TO) rfl ?_);refine aAa (aBR hz (by simp) λh₁ yv jl=>?_);replace yv:Zs h₁ z TI TO .ellipsis f1:=yv;refine aAa ?_;simp only[aDZ,aEs,aCS,aDQ];refine aAa (aAa<|wpAny_onRaise ?_);show wpAny _ _ (aBI (.ref i1)>>=_) _ _ _;refine aAa (wpAny_nextOf_list_end hh (h1.extBut jl.extBut D.i1z) (qt.extBut jl.extBut D.l1z) hx λjm e ml he=>?_);obtain⟨oe,hoe,hce⟩:=he;have hz4:Zs jm z TI TO .ellipsis f1:=ml _ _ D.i1z.symm yv;have hez:e≠z:=λx=>by subst x;rw[hz4]at hoe;cases hoe;simp at hce
  exact aBR hz4 (by simp) λaB _ hs6=>hE aB e (λc o c1 _ c3 _ x=>hs6.extBut _ _ c1 (ml _ _ c3<|jl.extBut _ _ c1 x)) ⟨oe,hs6.extBut _ _ hez hoe,hce⟩
 ·simp only[aAt,if_false];refine aAa ?_;show wpAny _ _ (forIn (#[.ref i1,.ref i2]:Array Value) _ _) _ _ _;rw[<-aCo];simp only[aCS,aDQ];refine aAa (aAa<|aAO ?_);show wpAny _ _ (aBI (.ref i1)>>=_) _ _ _;exact aAa (wpAny_nextOf_list_end hh (h1.extBut jl.extBut D.i1z) (qt.extBut jl.extBut D.l1z) hx λjm e ml he=>hE jm e (λc o c1 _ c3 _ x=>ml _ _ c3 (jl.extBut _ _ c1 x)) he)
end
def LQ (z TI TO i1 i2 l1 l2:Addr)(xs ys:Array Value)(i:Nat)(h:Heap):Prop:=
 (∃f0 f1,Zs h z TI TO f0 f1/\sJ f0)/\IsPair h TI (.ref i1) (.ref i2)/\(∃a b,IsPair h TO a b)/\h.IsListIter i1 l1 i/\h.IsListIter i2 l2 i/\h.IsList l1 xs/\h.IsList l2 ys
section
variable{s:Shared}
def LQ.type (h:LQ z TI TO i1 i2 l1 l2 xs ys i s.heap):s.TypeIs (.ref z) "zip":=by obtain⟨⟨f0,f1,hz,_⟩,_⟩:=h;exact⟨_,hz,rfl⟩
def LQ.keeps (x:LQ z TI TO i1 i2 l1 l2 xs ys i h)(k:∀b o,b∈[z,TI,TO,i1,i2,l1,l2]->h.get? b=some o->h'.get? b=some o):LQ z TI TO i1 i2 l1 l2 xs ys i h':=by obtain⟨⟨f0,f1,hz,ho⟩,wg,⟨a,b,va⟩,h1,h2,qt,ko⟩:=x;exact⟨⟨f0,f1,k z _ (by simp) hz,ho⟩,k TI _ (by simp) wg,⟨a,b,k TO _ (by simp) va⟩,h1.at λo e=>k i1 o (by simp) e,h2.at λo e=>k i2 o (by simp) e,qt.at λo e=>k l1 o (by simp) e,ko.at λo e=>k l2 o (by simp) e⟩
def OX {Q:Option Value->Shared->Prop}(D:ZipApart z TI TO i1 i2 l1 l2)(hl:xs.size=ys.size)(st:LQ z TI TO i1 i2 l1 l2 xs ys i s.heap)(hi:i<xs.size)(hQ:∀h' T x y,xs[i]?=some x->ys[i]?=some y->LQ z TI TO i1 i2 l1 l2 xs ys (i+1) h'->s.heap.objs.size<=T->IsPair h' T x y->(∀c o,c∉[z,TO,i1,i2]->s.heap.get? c=some o->h'.get? c=some o)->Q (some (.ref T)) {s with heap:=h'}):
  wpAny (model prog w) A (pyNext (.ref z)) Q E s:=by
 have hT:=st.type;obtain⟨⟨f0,f1,hz,ho⟩,wg,⟨a,b,va⟩,h1,h2,qt,ko⟩:=st;have hx:xs[i]?=some xs[i]:=aAG hi;have hy:ys[i]?=some (ys[i]'(by lia)):=aAG (by lia);unfold pyNext;refine aAa (aEg (aCt (name:=aCW "__next__") hT aDK
  (aBm aDK hT F.entry_zip_next (PL D hz ho wg va h1 h2 qt ko hx hy λh' T f0' f1' a' b' e1 e2 e3 e4 e5 e6 e7 kp=>aAb ?_)<|F.args_zip_next_1 _)))
 refine hQ h' T _ _ hx hy ⟨⟨f0',f1',e1,e2⟩,kp _ _ D.TIz D.TITO D.TIi1 D.TIi2 wg,⟨a',b',e3⟩,e4,e5,qt.at λo e=>kp _ o D.l1z D.l1TO D.l1i1 D.l1i2 e,ko.at λo e=>kp _ o D.l2z D.l2TO D.l2i1 D.l2i2 e⟩ e6 e7 λc o hc e=>?_;simp only[aAe,aAw,or_false,not_or]at hc;exact kp c o hc.1 hc.2.1 hc.2.2.1 hc.2.2.2 e
def MF {Q:Option Value->Shared->Prop}(hh:A.handled=none)(D:ZipApart z TI TO i1 i2 l1 l2)(st:LQ z TI TO i1 i2 l1 l2 xs ys xs.size s.heap)
  (hQ:∀h',(∀c o,c∉[z,TO,i1,i2]->s.heap.get? c=some o->h'.get? c=some o)->Q none {s with heap:=h'}):wpAny (model prog w) A (pyNext (.ref z)) Q E s:=by
 have hT:=st.type;obtain⟨⟨f0,f1,hz,ho⟩,wg,⟨a,b,va⟩,h1,h2,qt,ko⟩:=st;unfold pyNext;refine aAa (aEg (aCt (name:=aCW "__next__") hT aDK
  (aBm aDK hT F.entry_zip_next (VI (by simpa using hh) D hz ho wg va h1 h2 qt ko (aCC<|aAh _) λh' e kp he=>?_)<|F.args_zip_next_1 _)))
 obtain⟨o,vh,hc⟩:=he;refine aAa (aDz (T:= "StopIteration") (b:=true) ⟨o,vh,hc⟩ isSubtype_stop ?_);refine aAb (hQ _ λc o hc e=>?_);simp only[aAe,aAw,or_false,not_or]at hc;exact kp c o hc.1 hc.2.1 hc.2.2.1 hc.2.2.2 e
def Pairs (h0:Heap)(xs ys acc:Array Value)(i:Nat)(h:Heap)(off:List Addr):Prop:=acc.size=i/\∀(j:Nat) (v:Value),acc[j]?=some v->∃T x y,v=.ref T/\xs[j]?=some x/\ys[j]?=some y/\IsPair h T x y/\T∉off/\h0.get? T=none
def PP (hh:A.handled=none)(D:ZipApart z TI TO i1 i2 l1 l2)(hl:xs.size=ys.size)(hn:xs.size<=sizeLine)(S:Addr)(qh:S∉[z,TI,TO,i1,i2,l1,l2])(res:Value)(h0:Heap):
  ∀(k i:Nat) (s:Shared) (acc:Array Value) (c:Nat),xs.size-i=k->i<=xs.size->(∀b o,b∉[z,TO,i1,i2,S]->h0.get? b=some o->s.heap.get? b=some o)->LQ z TI TO i1 i2 l1 l2 xs ys i s.heap->s.heap.get? S=some {cls:=.type "list",dict:=none,data:=.seq acc c,slots:=#[]}->Pairs h0 xs ys acc i s.heap [z,TO,i1,i2,S]->
  (∀h' ke c',(∀b o,b∉[z,TO,i1,i2,S]->s.heap.get? b=some o->h'.get? b=some o)->h'.get? S=some {cls:=.type "list",dict:=none,data:=.seq ke c',slots:=#[]}->Pairs h0 xs ys ke xs.size h' [z,TO,i1,i2,S]->R (.ok (.ret res)) {s with heap:=h'})->
  codeAny (model prog w) A (.builtin "list.extend.loop" ⟨[.ref S,.ref z,res],[]⟩) R s:=by
 have hS4:S∉[z,TO,i1,i2]:=λh=>qh (by simp only[aAe,aAw,or_false]at h⊢;rcases h with h|h|h|h<;>simp[h]);have to5:∀b,b∉[z,TO,i1,i2,S]->b∉[z,TO,i1,i2]:=λb h q=>h (by simp only[aAe,aAw,or_false]at q⊢;rcases q with q|q|q|q<;>simp[q]);intro k;induction k with
 |zero=>
  intro i s acc c hk hi h0k jv hS gr hR;have mn:i=xs.size:=by lia
  subst mn;refine aBw F.entry_extend_loop ?_;rw[aBd aCZ _];show wpAny _ A.in1 (pyNext (.ref z)>>=_) _ _ s;refine aAa (MF (by simpa using hh) D jv λh' kp=>?_);refine aAb (hR h' acc c (λb o hb e=>kp b o (to5 b hb) e) (kp S _ hS4 hS) ⟨gr.1,λj v hv=>?_⟩);obtain⟨T,x,y,e1,e2,e3,e4,e5,e6⟩:=gr.2 j v hv;exact⟨T,x,y,e1,e2,e3,kp T _ (to5 T e5) e4,e5,e6⟩
 |succ k ih=>
  intro i s acc c hk hi h0k jv hS gr hR;have av:i<xs.size:=by lia
  refine aBw F.entry_extend_loop ?_;rw[aBd aCZ _];show wpAny _ A.in1 (pyNext (.ref z)>>=_) _ _ s;refine aAa (OX D hl jv av λh' T x y hx hy mf hT hP kp=>?_);have jt:=kp S _ hS4 hS;have Tne:∀b o,s.heap.get? b=some o->T≠b:=λb o e q=>absurd (aAq (aAf e) hT) (by rw[q];exact aBc _);obtain⟨⟨f0,f1,hz,_⟩,_,⟨a,b,va⟩,⟨o1,g1,_⟩,⟨o2,g2,_⟩,_⟩:=id jv;have hTo:T∉[z,TO,i1,i2,S]:=by simp only[aAe,aAw,or_false,not_or];exact⟨Tne _ _ hz,Tne _ _ va,Tne _ _ g1,Tne _ _ g2,Tne _ _ hS⟩
  show wpAny _ A.in1 (updateSeq S (·.push (.ref T))>>=_) _ _ _;refine aAa ?_;have we:∀b o,b≠S->h'.get? b=some o->(h'.update S (aBp (·.push (.ref T)))).get? b=some o:=λb o hb e=>(aAA _ _<|aCh hb).trans e;have neS:∀b,b∈[z,TI,TO,i1,i2,l1,l2]->b≠S:=λb hb q=>qh (q▸hb);refine aBT jt rfl (aAb ⟨aBQ aCZ _,ih (i+1) _ (acc.push<|.ref T) _ (by lia) av (λb o hb e=>we b o (λq=>hb (by simp[q])) (kp b o (to5 b hb)<|h0k b o hb e)) (mf.keeps λb o hb e=>we b o (neS b hb) e) (aAY _ jt rfl) ⟨by rw[Array.size_push,gr.1],λj v hv=>?_⟩ λh'' ke c' kp' xp hacc'=>?_⟩)
   (by rw[gr.1];lia) (by show(acc.push<|.ref T).size<=sizeLine+1;rw[Array.size_push,gr.1];lia)
  ·rw[Array.getElem?_push]at hv;split at hv
   ·rename_i q;cases hv;rw[gr.1]at q;subst q;refine⟨T,x,y,rfl,hx,hy,we T _ (Tne _ _ hS) hP,hTo,?_⟩;cases q0:h0.get? T with
    |none=>rfl
    |some o=>exact absurd rfl (Tne T o<|h0k T o hTo q0)
   ·obtain⟨T',x',y',e1,e2,e3,e4,e5,e6⟩:=gr.2 j v hv;have n5:T'≠S:=λq=>e5 (by simp[q]);exact⟨T',x',y',e1,e2,e3,we T' _ n5 (kp T' _ (to5 T' e5) e4),e5,e6⟩
  ·refine hR h'' ke c' (λb o hb e=>kp' b o hb (we b o (λq=>hb (by simp[q]))<|kp b o (to5 b hb) e)) xp hacc'
end
section
def dH {Q:F1}(St:Heap->Prop)(hT:∀s1:Shared,St s1.heap->s1.TypeIs (.ref I) T)(fr:∀h h',St h->(∀b o,b≠s.heap.objs.size->h.get? b=some o->h'.get? b=some o)->St h')(hIS:I≠s.heap.objs.size)
  (n1:(aCm T==aCm "list")=false) (n2:(aCm T==aCm "tuple")=false) (n3:∀{M:Model} {A:Around} {E:F1} {s:Shared} {Q:Fin->Shared->Prop} {a b:Sem Fin},(room=true->wpAny M A a Q E s)->(room=false->wpAny M A b Q E s)->wpAny M A (if(room||["set", "frozenset", "dict", "dict_keys", "dict_values", "dict_items"].any (aCm T==aCm ·))=true then a else b) Q E s)
  (self:∀(s1:Shared) (Q:F1) (E:F1),St s1.heap->Q (.ref I) s1->wpAny (model prog w) A.in1.in1 (pyIter (.ref I)) Q E s1)
  (hint:∀(s1:Shared) (Q:wN) (E:F1),St s1.heap->Q room s1->wpAny (model prog w) A.in1.in1 (aCz (.ref I)) Q E s1) (jv:St s.heap)
  (loop:∀(h1:Heap) (c:Nat) (R:Result->Shared->Prop),(∀b o,s.heap.get? b=some o->h1.get? b=some o)->St h1->h1.get? s.heap.objs.size=some {cls:=.type "list",dict:=none,data:=.seq #[] c,slots:=#[]}->(∀s',Q (.ref s.heap.objs.size) s'->R (.ok (.ret .none)) s')->
   codeAny (model prog w) A.in1 (.builtin "list.extend.loop" ⟨[.ref s.heap.objs.size,.ref I,.none],[]⟩) R {s with heap:=h1}):
  wpAny (model prog w) A (call (.type "list") [.ref I]) Q E s:=by
 refine callType_codes (Q₁:=λobj ah=>obj=.ref s.heap.objs.size/\ah={s with heap:=s.heap.push {cls:=.type "list",data:=.seq #[]}}) F.called_list (F.typeCall_list_1 _) F.entry_list_init
  (code_list_new _ ⟨rfl,rfl⟩) λobj ah h₁=>?_
 obtain⟨rfl,rfl⟩:=h₁;have hS:(s.heap.push {cls:=.type "list",data:=.seq #[]}).get? s.heap.objs.size=some {cls:=.type "list",data:=.seq #[]}:=aAn _ rfl;have ks:∀b o,s.heap.get? b=some o->b≠s.heap.objs.size:=λb o e=>aAk (aAf e);refine⟨⟨_,hS,rfl⟩,F.args_list_init_2 _ _,?_⟩;show wpAny _ A.in1.in1 (do let old<-aCD (.ref s.heap.objs.size);Builtin.List.listUpdate (.ref s.heap.objs.size) (λ_=>#[]);letGo old.toList.reverse;aBS (.ref s.heap.objs.size) (.ref I) .none) _ _ _;refine aAa ?_;unfold aCD;refine aAa (aBH hS rfl<|aAb ?_);show wpAny _ A.in1.in1 (updateSeq s.heap.objs.size (λ_=>#[])>>=λ_=>letGo (#[]:Array Value).toList.reverse>>=λ_=>aBS (.ref s.heap.objs.size) (.ref I) .none) _ _ _;refine aAa (aBT hS rfl ?_);have hS3:=aAY (aBp<|λ_=>(#[]:Array Value)) hS rfl;refine aAa (aDO ?_);generalize hh2:(s.heap.push {cls:=.type "list",data:=.seq #[]}).update s.heap.objs.size (aBp<|λ_=>(#[]:Array Value))=h2 at*
 have k2:∀b o,s.heap.get? b=some o->h2.get? b=some o:=λb o e=>by rw[<-hh2];exact(aAA _ _<|aCh<|ks b o e).trans (aAc _ e)
 have lh:St h2:=fr s.heap h2 jv λb o _ e=>k2 b o e;have hSI:aCU (.ref s.heap.objs.size) (.ref I)=false:=by simp[aCU,aCh hIS]
 have hT2:Shared.TypeIs {s with heap:=h2} (.ref I) T:=hT {s with heap:=h2} lh;unfold aBS;refine aAa (aDB hT2 ?_);simp only[hSI,n1,n2,Bool.or_false,aAt,if_false];refine aAa (self _ _ _ lh ?_);refine aAa (aAO<|hint _ _ _ lh ?_);refine n3 (λ_=>?_) (λ_=>?_)
 ·show wpAny _ A.in1.in1 (rule "list.extend.makes-room">>=λ_=>aFo (.ref s.heap.objs.size)>>=λ_=>again (.builtin "list.extend.loop" ⟨[.ref s.heap.objs.size,.ref I,.none],[]⟩)) _ _ _;refine aAa (aDD ?_);refine aAa ?_;show wpAny _ A.in1.in1 (updateSeq s.heap.objs.size (·.push .none)>>=λ_=>updateSeq s.heap.objs.size (·.pop)) _ _ _;refine aAa (aBT hS3 rfl ?_);have hS5:=aAY (aBp (·.push Value.none)) hS3 rfl;refine aBT (hz:=by seq_fits) hS5 rfl ?_;have hS6:=aAY (aBp (·.pop)) hS5 rfl;have we:∀b o,b≠s.heap.objs.size->h2.get? b=some o->((h2.update s.heap.objs.size (aBp (·.push Value.none))).update s.heap.objs.size (aBp (·.pop))).get? b=some o:=
   λb o hb e=>(aAA _ _<|aCh hb).trans ((aAA _ _<|aCh hb).trans e)
  exact aAb ⟨aBQ aCZ _,loop _ _ _ (λb o e=>we b o (ks b o e) (k2 b o e)) (fr h2 _ lh we) hS6 λs' q=>⟨rfl,q⟩⟩
 ·exact aAb ⟨aBQ aCZ _,loop _ _ _ k2 lh hS3 λs' q=>⟨rfl,q⟩⟩
def IM:typeLookup (.type "zip") "__len__"=pure none:=by rw[aDo,aCk];kernel_rfl
def CW:typeLookup (.type "zip") "__length_hint__"=pure none:=by rw[aDo,aCk];kernel_rfl
def QC {Q:F1}(hh:A.handled=none)(D:ZipApart z TI TO i1 i2 l1 l2)(hl:xs.size=ys.size)(hn:xs.size<=sizeLine)(st:LQ z TI TO i1 i2 l1 l2 xs ys 0 s.heap)(hQ:∀h' acc c,(∀b o,b∉[z,TO,i1,i2]->s.heap.get? b=some o->h'.get? b=some o)->h'.get? s.heap.objs.size=some {cls:=.type "list",dict:=none,data:=.seq acc c,slots:=#[]}->Pairs s.heap xs ys acc xs.size h' [z,TO,i1,i2,s.heap.objs.size]->Q (.ref s.heap.objs.size) {s with heap:=h'}):
  wpAny (model prog w) A (call (.type "list") [.ref z]) Q E s:=by
 have lt:∀b∈[z,TI,TO,i1,i2,l1,l2],b≠s.heap.objs.size:=λb hb=>by
  obtain⟨⟨f0,f1,hz,_⟩,wg,⟨a,b',va⟩,⟨o1,g1,_⟩,⟨o2,g2,_⟩,⟨o3,g3,_⟩,⟨o4,g4,_⟩⟩:=st;simp only[aAe,aAw,or_false]at hb;rcases hb with rfl|rfl|rfl|rfl|rfl|rfl|rfl
  ·exact aAk (aAf hz)
  ·exact aAk (aAf wg)
  ·exact aAk (aAf va)
  ·exact aAk (aAf g1)
  ·exact aAk (aAf g2)
  ·exact aAk (aAf g3)
  ·exact aAk (aAf g4)
 refine dH (T:= "zip") (room:=true) (LQ z TI TO i1 i2 l1 l2 xs ys 0) (λs1 h=>h.type) (λh h' x k=>x.keeps λb o hb e=>k b o (lt b hb) e) (lt z (by simp)) (by decide) (by decide) (λh1 h2=>by rw[if_pos (by decide)];exact h1 rfl)
  (λs1 Q E x q=>?_) (λs1 Q E x q=>?_) st λh1 c R k1 st1 hS hR=>?_
 ·obtain⟨⟨f0,f1,hz,_⟩,_⟩:=id x;refine aEX x.type F.slot_zip_iter (aBm F.slot_zip_iter x.type F.entry_zip_iter ?_ (F.args_zip_iter_1 _));show wpAny _ _ (ret<|.ref z) _ _ s1;exact aAb ⟨_,rfl, "zip",_,x.type,aDK.lookup,q⟩
 ·unfold aCz;refine aAa (aBn x.type IM ?_);show wpAny _ _ (specialOf (aDb z) (aCW "__length_hint__")>>=_) _ _ _;exact aAa (aBn x.type CW<|aAb q)
 ·refine PP (by simpa using hh) D hl hn s.heap.objs.size (λh=>lt _ h rfl) .none s.heap xs.size 0 _ #[] c (by lia) (aAX _) (λb o _ e=>k1 b o e) st1 hS ⟨rfl,λj v h=>by simp at h⟩ λh' ke c' kp jt hP=>hR _ (hQ h' ke c' (λb o hb e=>kp b o ?_ (k1 b o e)) jt hP);have:=aAk (aAf e);simp only[aAe,aAw,or_false,not_or]at hb⊢;exact⟨hb.1,hb.2.1,hb.2.2.1,hb.2.2.2,this⟩
def IQ:typeLookup (.type "list_reverseiterator") "__len__"=pure none:=by rw[aDo,aCk];kernel_rfl
def QL:typeLookup (.type "list_reverseiterator") "__length_hint__"=pure (some (.builtin "list_reverseiterator.__length_hint__")):=by rw[aDo,aCk];kernel_rfl
def NQ {Q:F1}(hh:A.handled=none)(bc:l≠r)(hn:xs.size<=sizeLine)(hr:s.heap.IsRevIter r l ((xs.size:Int)-1))(hl:s.heap.IsList l xs)(hQ:∀h' tk c,(∀b o,b≠r->s.heap.get? b=some o->h'.get? b=some o)->h'.get? s.heap.objs.size=some {cls:=.type "list",dict:=none,data:=.seq xs.reverse c,slots:=#[]}->Q (.ref s.heap.objs.size) {s with heap:=h',toks:=tk}):
  wpAny (model prog w) A (call (.type "list") [.ref r]) Q E s:=by
 have lr:r≠s.heap.objs.size:=by obtain⟨o,g,_⟩:=hr;exact aAk (aAf g)
 have ll:l≠s.heap.objs.size:=by obtain⟨o,g,_⟩:=hl;exact aAk (aAf g)
 refine dH (T:= "list_reverseiterator") (room:=false) (λh=>h.IsRevIter r l ((xs.size:Int)-1)/\h.IsList l xs) (λs1 h=>h.1.typeIs) (λh h' x k=>⟨x.1.at λo e=>k r o lr e,x.2.at λo e=>k l o ll e⟩) lr (by decide) (by decide)
  (λh1 h2=>by rw[if_neg (by decide)];exact h2 rfl) (λs1 Q E x q=>wpAny_pyIter_revIter x.1 q) (λs1 Q E x q=>?_) ⟨hr,hl⟩ λh1 c R k1 st1 hS hR=>?_
 ·have hT:=x.1.typeIs;unfold aCz;refine aAa (aBn hT IQ ?_);show wpAny _ _ (specialOf (aDb r) (aCW "__length_hint__")>>=_) _ _ _;refine aAa (aBn hT QL ?_)
  (generalize hid:("list_reverseiterator.__length_hint__":String)=id0;(fail_if_success (clear hid id0));wp_delta;rw[show splitId id0=some ("list_reverseiterator", "__length_hint__")from by subst hid;decide+kernel];subst hid)
  refine aAa (aDz (b:=true) hT (by rw[aEM];kernel_rfl) ?_);exact aAb q
 ·have W:=(Walks.listRev (prog:=prog) (w:=w) (A:=A.in1.in1) (by simp[hh]) r l bc xs).toS;refine codeAny_extend_loopS W hn s.heap.objs.size (by simp only[aAe,aAw,or_false,not_or];exact⟨aCh lr,aCh ll⟩) .none xs.size 0 _ #[] c (by lia) (aAX _) ⟨aAX _,by simpa using st1.1,st1.2⟩ hS (ItemsOf.nil _) λs' ke c' hm jt gr=>hR _ ?_;have ea:ke=xs.reverse:=by
   apply Array.ext';apply aEW;intro i;rw[aAB,aAB];by_cases hi:i<xs.size
   ·have uu:i<ke.size:=by rw[gr.1];exact hi
    have:=gr.2 i _ (aAG uu);rw[aAG uu,Array.getElem?_reverse hi,this]
   ·rw[aCC (by rw[gr.1];lia),aCC (by simp;lia)]
  subst ea;have g0:s'.gens=s.gens:=hm.gens;have d0:s'.drawn=s.drawn:=hm.drawn;have o0:s'.os=s.os:=hm.os;obtain⟨h',g',d',yr,os'⟩:=s';subst g0 d0 o0;refine hQ h' yr c' (λb o hb e=>?_) jt;exact hm.heap b o (by simp only[aAe,aAw,or_false,not_or];exact⟨aAk (aAf e),hb⟩) (k1 b o e)
end
end SZ
namespace DL
open PySem PySem.Spec L2
open PyProof.Rows hiding St
variable [Tabs]
def PY (P:Program)(w:World):OK:=λouter H s E e s'=>∃(a:Addr) (cls a0:Value) (B:Heap) (H':Hp),e=.ref a/\s'.os=s.os/\AllBare s'.gens/\Heap.FlyingW B outer a cls a0 s'.heap/\
 Un (W4 outer) [] H H' s.heap s'.heap/\aM P w H' s'.heap/\(∀b o,s.heap.get? b=some o->H b=none->b∉W4 outer->B.get? b=some o)/\
 (∀b o,s.heap.get? b=some o->b∉W4 outer->∃u,B.get? b=some u)/\(∀b u,H' b=some u->∃o,B.get? b=some o)/\E cls none H'
structure LeavesBy (X:Cx)(E:XK):Prop where
 xe:∀e s',wpAny (model X.prog X.w) X.A (leaving X.env e) (λ_ s''=>PY X.prog X.w X.outer X.Ha X.se E e s'') (λe' s''=>PY X.prog X.w X.outer X.Ha X.se E e' s'') s'->X.xe e s'
 stk:X.stack=X.env::X.outer
 fr:X.env.frame=some X.env.locals
 ex:X.ex=[]
def _root_.L2.ObjOk.live (x:ObjOk P w H h a o):h.get? a≠none:=by
 intro z;have key:∀{u:Obj},h.get? a=some u->False:=λq=>by rw[z]at q;cases q
 cases o with
 |lst xs=>obtain⟨_,_,_,_,e⟩:=x;exact key e
 |tup xs=>obtain⟨_,_,_,o,e,_⟩:=x;exact key e
 |dK kvs=>obtain⟨_,_,_,_,o,_,_,e,_⟩:=x;exact key e
 |dT kvs=>obtain⟨_,_,_,_,o,_,_,e,_⟩:=x;exact key e
 |set S n=>obtain⟨o,_,_,_,e,_⟩:=x;exact key e
 |ins C dx fs=>obtain⟨_,_,_,e,_⟩:=x;exact key e
 |own y=>obtain⟨_,e⟩:=x;exact key e
 |xd fs=>obtain⟨_,⟨_,_,_,e,_⟩,_⟩:=x;exact key e
 |rng lo hi=>obtain⟨_,_,_,e⟩:=x;exact key e
 |frz ob u=>obtain⟨e,_⟩:=x;exact key e
 |tbl tb=>obtain⟨_,e,_⟩:=x;exact key e
 |met f y=>exact key (show h.get? a=some _ from x)
 |ext φ=>obtain⟨_,⟨_,e⟩,_⟩:=x;exact key e
def aM.over {P:Program}{w:World}{H:Hp}{h h' B:Heap}(x:aM P w H h)(b1:B.StaysIn h)(b2:B.StaysIn h')(t:∀b u,H b=some u->∃o,B.get? b=some o):aM P w H h':=λa o e=>
 (x a o e).ab4 (λb u hb q=>by
  have:∃o,B.get? b=some o:=by
   rcases hb with rfl|hb
   ·exact t _ _ e
   ·exact t _ _ hb
  obtain⟨o',z⟩:=this;have:=b1 b o' z;rw[q]at this;cases this;exact b2 b _ z) (λ_ q=>q) λ_ _ _ q=>q
section
def DY (L:LeavesBy X E):W4 X.stack=X.env.locals::W4 X.outer:=by rw[L.stk];unfold W4;rw[aBZ,L.fr]
def EY (L:LeavesBy X E)(I:Inv X pins σ H s){h2 h3 B:Heap}(U:Un (W4 X.stack) [] H H' s.heap h2)(k:aM X.prog X.w H' h2)(b2:B.StaysIn h2)(b3:B.StaysIn h3)(us:h2.UpToSlots h3)
  (c1:∀b o,s.heap.get? b=some o->H b=none->b∉W4 X.stack->B.get? b=some o) (c2:∀b o,s.heap.get? b=some o->b∉W4 X.stack->∃u,B.get? b=some u) (c3:∀b u,H' b=some u->∃o,B.get? b=some o):
  Un (W4 X.outer) [] X.Ha H' X.se.heap h3/\aM X.prog X.w H' h3/\(∀b o,X.se.heap.get? b=some o->X.Ha b=none->b∉W4 X.outer->B.get? b=some o)/\
   (∀b o,X.se.heap.get? b=some o->b∉W4 X.outer->∃u,B.get? b=some u):=by
 have U0:Un (W4 X.outer) [] X.Ha H X.se.heap s.heap:=by have:=I.base;rw[L.ex]at this;exact this
 have nx:∀b:Addr,b∉([]:List Addr):=λb=>aAw;have ns:∀b o,X.se.heap.get? b=some o->b∉W4 X.outer->b∉W4 X.stack:=λb o q n=>by
  rw[DY L];intro z;rcases aAe.mp z with z|z
  ·exact absurd (aAf q) (Nat.not_lt_of_le (by rw[z];exact I.ok.above))
  ·exact n z
 have d1:∀b o,X.se.heap.get? b=some o->X.Ha b=none->b∉W4 X.outer->B.get? b=some o:=λb o q n hb=>c1 b o (U0.keep b o q n hb<|nx b) (U0.free b o q n<|nx b) (ns b o q hb);have d2:∀b o,X.se.heap.get? b=some o->b∉W4 X.outer->∃u,B.get? b=some u:=λb o q hb=>by obtain⟨o',q'⟩:=U0.there b o q (nx b);exact c2 b o' q' (ns b o q hb)
 have sl:∀b o,X.se.heap.get? b=some o->b∈W4 X.outer->∃sl,h3.get? b=some {o with slots:=sl}:=λb o q hb=>by have n:=I.ok.frf b hb;obtain⟨_,o',ho,hd⟩:=I.ok.funs.mem hb;rw[q]at ho;cases ho;obtain⟨s1,e1⟩:=U0.slot b o q n hb (nx b);obtain⟨s2,e2⟩:=U.slot b _ e1 (U0.free b o q n<|nx b) (by rw[DY L];exact aAd _ hb) (nx b);obtain⟨s3,e3⟩:=us b _ e2 hd;exact⟨s3,e3⟩
 refine⟨⟨λb o q n hb _=>b3 b o (d1 b o q n hb),λb o q n hb _=>sl b o q hb,λb o q n _=>?_,λb o q _=>?_,λb xs q=>U.tups b xs (U0.tups b xs q),λb o u q=>U.frzs b o u (U0.frzs b o u q),λb ps q=>?_⟩,aM.over k b2 b3 c3,d1,d2⟩
 ·obtain⟨o',q'⟩:=U0.there b o q (nx b);exact U.free b o' q' (U0.free b o q n<|nx b) (nx b)
 ·by_cases hb:b∈W4 X.outer
  ·obtain⟨s3,e3⟩:=sl b o q hb;exact⟨_,e3⟩
  ·obtain⟨u,z⟩:=d2 b o q hb;exact⟨u,b3 b u z⟩
 ·exact U.tbls b ps (U0.tbls b ps q)
def KW (L:LeavesBy X E):oN (PY X.prog X.w) X E:=λpins σ H s e s' I ⟨a,cls,a0,B,H',e1,os,bare,fl,U,k,c1,c2,c3,w⟩=>by subst e1;refine L.xe _ _ (wpAny_leaves_onW (by rw[I.ok.frames,L.stk]) L.fr (by rw[<-L.stk];exact fl) λh' fl' us=>?_);obtain⟨q1,q2,q3,q4⟩:=EY L I U k fl.1 fl'.1 us c1 c2 c3;exact⟨a,cls,a0,B,H',rfl,os.trans I.os,bare,fl',q1,q2,q3,q4,c3,w⟩
def HZ (L:LeavesBy X E)(I:Inv X pins σ H s){h':Heap}{e:Addr}{cls:Value}{args:List Value}(hx:Heap.MadeExcOf s.heap h' e cls args)(w:E cls none H):X.xe (.ref e) {s with heap:=h'}:=by
 have ff:s.heap.FunFrames (PySem.W.hideAll s.heap<|W4 X.stack) X.stack:=PySem.W.funFrames_hide I.stack λenv he b hb=>aBE.mpr ⟨env,he,hb⟩;have st:(PySem.W.hideAll s.heap<|W4 X.stack).StaysIn s.heap:=λb o q=>PySem.W.of_hideAll _ q;refine L.xe _ _ (wpAny_leaves_madeW (base:=PySem.W.hideAll s.heap (W4 X.stack)) (h:=s.heap) (by rw[I.ok.frames,L.stk]) L.fr st (by rw[<-L.stk];exact ff) hx λh'' t fl _ _ us=>?_);have c3:∀b u,H b=some u->∃o,(PySem.W.hideAll s.heap<|W4 X.stack).get? b=some o:=λb u q=>by
  have hn:b∉W4 X.stack:=λz=>by rw[I.ab7 b z]at q;cases q
  have:∃o,s.heap.get? b=some o:=by
   cases z:s.heap.get? b with
   |some o=>exact⟨o,rfl⟩
   |none=>exact absurd z (I.hok b u q).live
  obtain⟨o,z⟩:=this;exact⟨o,PySem.W.hideAll_get _ z hn⟩
 obtain⟨q1,q2,q3,q4⟩:=EY (H':=H) L I Un.refl I.hok st fl.1 ((Heap.UpToSlots.of_keeps hx.keeps).trans us) (λb o q _ n=>PySem.W.hideAll_get _ q n) (λb o q n=>⟨o,PySem.W.hideAll_get _ q n⟩) c3;exact⟨e,cls,.ref t,_,H,rfl,I.os,I.bare,fl,q1,q2,q3,q4,c3,w⟩
end
end DL
namespace DL
open PySem PySem.Spec L2
open PyProof.Rows hiding St
variable [Tabs]
section
def a0a:D->R (List D)
 |.lst xs=>.ok xs.reverse
 |_=>.bad
def CB (ha:PB X e f)(hh:X.calm=true)(hg:Gl X "reversed":=by rfl)(hm:X.mg "reversed"=none:=by assumption)(hg2:Gl X "list":=by rfl)(md:X.mg "list"=none:=by assumption)(hv:bootBuiltins "reversed"=some (.type "reversed"):=by decide+kernel)(hv2:bootBuiltins "list"=some (.type "list"):=by decide+kernel)(he:starEach [e] X.env=(false,eval e X.env)::starEach [] X.env:=by rfl)(bh:(backTo ib (starEach [] X.env)).any (·.1)=false:=by rfl)(jr:starEach [.Call (.Name "reversed" p2) [e] [] ib] X.env=(false,eval (.Call (.Name "reversed" p2) [e] [] ib) X.env)::starEach [] X.env:=by rfl)(xt:(backTo pos (starEach [] X.env)).any (·.1)=false:=by rfl)(hnl:backTo pos (starEach [] X.env)=[]:=by rfl):
  PF X (.Call (.Name "list" p) [.Call (.Name "reversed" p2) [e] [] ib] [] pos) (λρ=>(f ρ).bind a0a):=by
 refine qO λpins s σ H Q I Ha O0 O ρ E q=>?_;dsimp only at q;refine aAP (P6 I hg2 md hv2 ?_ (by decide) (by decide));refine aBf ?_ jr xt;rw[jr];show wpAny _ _ (spliced ((false,eval (.Call (.Name "reversed" p2) [e] [] ib) X.env)::backTo pos (starEach [] X.env))) _ _ s;refine aEC (aAP (P6 I hg hm hv ?_ (by decide) (by decide)));have tf:PA X [e] _:=J8 ha cC he;refine aBf (D4 (tf ib pins s σ H (λvs H1=>∃v ds,vs=[v]/\f ρ=.ok (.lst ds)/\Same H H1/\C0 X.K H1 O v (.lst ds)) I ⟨Ha,O0,O,ρ,E,?_⟩) λus s1 ⟨vs,H1,I1,r1,v,ds,ev,ef,sm,rb⟩=>?_) he bh
 ·cases e1:f ρ with
  |ex z=>rw[e1]at q;exact q
  |bad=>rw[e1]at q;exact q.elim
  |ok d=>
   rw[e1,R.aa0]at q;cases d with
   |lst ds=>exactλv H1 s1 r1=>⟨v,ds,rfl,rfl,s1,r1⟩
   |_=>exact aAg q
 ·subst ev;rw[ef,R.aa0]at q;obtain⟨a,ws,rfl,hS,rr⟩:=rb.aa4;obtain⟨u,rfl,ru⟩:=vals1 r1;cases ru;obtain⟨its,rv,⟨oL,nL,gL,cL,dL,sL⟩,zL⟩:=I1.list hS;have hl:s1.heap.IsList a its.toArray:=⟨oL,gL,cL,nL,sL⟩;refine call_reversed_list hl ?_;rw[hnl];refine aEQ ?_;have ge:a≠s1.heap.objs.size:=aAk (aAf gL);have I2:=I1.kept (h':=s1.heap.push (revObj a<|(its.toArray.size:Int)-1)) (t':=s1.toks) λb u e=>aAc _ e;refine SZ.NQ (s:={s1 with heap:=s1.heap.push (revObj a<|(its.toArray.size:Int)-1)}) (I1.ok.hd hh) ge (by rw[aAl,<-rv.length];exact zL) ⟨_,aAn _ rfl,rfl,rfl⟩ (hl.push _) λh' tk c kp gl=>?_;have kk:∀b u,s1.heap.get? b=some u->h'.get? b=some u:=λb u e=>kp b u (aAk<|aAf e) (aAc _ e);have hle:s1.heap.objs.size<=(s1.heap.push<|revObj a<|(its.toArray.size:Int)-1).objs.size:=by rw[aBq];lia
  have vrev:l8 ws.reverse its.reverse:=by
   have:∀{vs:List V} {us:List Value},l8 vs us->l8 vs.reverse us.reverse:=λ{vs us} r=>by
    induction r with
    |nil=>exact .nil
    |cons r t ih=>rw[aAQ,aAQ];exact ih.append (.cons r .nil)
   exact this rv
  have I3:=I1.laid (a:=(s1.heap.push<|revObj a<|(its.toArray.size:Int)-1).objs.size) (o:=.lst ws.reverse) (h':=h') (t':=tk) kk hle ⟨by rw[aCA];exact zL,its.reverse,c,vrev,by rw[gl];simp⟩;exact⟨.ref _,_,I3,rfl,q ws.reverse H1 _ sm (I1.hok.fresh hle) rr.reverse⟩
def _root_.L2.Inv.ad8 (I:Inv X pins σ H s)(k:∀b u,s.heap.get? b=some u->h'.get? b=some u)(sm:Same H Hn)(km:∀b u,H b=none->Hn b=some u->s.heap.get? b=none/\ObjOk X.prog X.w Hn h' b u):
  Inv X pins σ Hn {s with heap:=h',toks:=t'}:=by
 refine I.un ⟨λb o e _ _ _=>k b o e,λb o e _ _ _=>⟨o.slots,k b o e⟩,λb o e n _=>?_,λb o e _=>⟨o,k b o e⟩,λb xs e=>sm _ _ e,λb o u e=>sm _ _ e,λb tb e=>sm _ _ e⟩ λb u e=>?_
 ·cases q:Hn b with
  |none=>rfl
  |some u=>rw[(km b u n q).1]at e;cases e
 ·cases q:H b with
  |none=>exact(km b u q e).2
  |some u'=>have:=sm b u' q;rw[e]at this;cases this;exact(I.hok b u q).ab4 (λc v _ z=>k c v z) (λc z=>sm _ _ z) λc u _ z=>sm _ _ z
def kC (xs ys:List D):List D:=List.zipWith (λa b=>D.tup [a,b]) xs ys
def SR:List D->R (List D)
 |[.lst xs,.lst ys]=>if xs.length=ys.length then .ok (kC xs ys)else .bad
 |_=>.bad
def GK {K:PySem.W.Frag}{H1:Hp}{O:Addr->Prop}{h0 h':Heap}{l:Addr}(hf:∀b,h0.get? b=none->H1 b=none):∀{xs ys:List D} {ux uy acc:List Value},A0 K H1 O ux xs->A0 K H1 O uy ys->xs.length=ys.length->
  (∀(j:Nat) (v:Value),acc[j]?=some v->∃T x y,v=.ref T/\ux[j]?=some x/\uy[j]?=some y/\IsPair h' T x y/\T≠l/\h0.get? T=none)->acc.length=xs.length->
  ∃(vs:List V) (Hn:Hp),l8 vs acc/\Same H1 Hn/\(∀b u,H1 b=none->Hn b=some u->h0.get? b=none/\b≠l/\∃ws its,u=.tup ws/\ws.length<=2/\l8 ws its/\IsTup h' b its.toArray)/\Reps K Hn O vs (kC xs ys):=by
 intro xs ys ux uy acc;induction acc generalizing xs ys ux uy with
 |nil=>
  intro sx sy hl _ hz;cases xs with
  |nil=>cases ys with
   |nil=>exact⟨[],H1,.nil,Same.refl _,λb u n q=>(by rw[n]at q;cases q),.nil⟩
   |cons _ _=>cases hl
  |cons _ _=>cases hz
 |cons v acc ih=>
  intro sx sy hl hP hz;cases sx with
  |nil=>cases hz
  |@cons u d ux xs rx sx=>
   cases sy with
   |nil=>cases hl
   |@cons u' d' uy ys ry sy=>
    obtain⟨T,x,y,rfl,ex,ey,hp,nl,h0T⟩:=hP 0 v rfl;cases ex;cases ey;obtain⟨vs,Hn,r1,sm,km,rr⟩:=ih sx sy (by simpa using hl) (λj v hj=>by obtain⟨T,x,y,e1,e2,e3,e4⟩:=hP (j+1) v (by simpa using hj);exact⟨T,x,y,e1,by simpa using e2,by simpa using e3,e4⟩) (by simpa using hz)
    obtain⟨vx,rvx,repx⟩:=rx;obtain⟨vy,rvy,repy⟩:=ry;have v2:l8 [vx,vy] [u,u']:=.cons rvx (.cons rvy .nil);cases q:Hn T with
    |none=>
     have s2:Same Hn (upd Hn T<|.tup [vx,vy]):=j4 q _;refine⟨.ref T::vs,upd Hn T (.tup [vx,vy]),.cons rfl r1,sm.trans s2,λb w n qb=>?_,.cons (.tup (X7.of i9) (.cons ((repx.same sm).same s2) (.cons ((repy.same sm).same s2) .nil))) (rr.same s2)⟩;by_cases hb:b=T
     ·subst hb;rw[i9]at qb;cases qb;exact⟨h0T,nl,_,_,rfl,by simp,v2,⟨_,hp,rfl,0,rfl⟩⟩
     ·rw[j7 hb]at qb;exact km b w n qb
    |some w=>
     obtain⟨_,_,ws,its,rfl,_,vw,⟨o,g,_,n,dd⟩⟩:=km T w (hf T h0T) q;have xh:h'.get? T=some {cls:=.type "tuple",data:=.seq #[u,u']}:=hp;rw[xh]at g;cases g;have e2:its=[u,u']:=by have:=congrArg (λd=>match d with|Data.seq a _=>a.toList|_=>[]) dd;simpa using this.symm
     subst e2;have:ws=[vx,vy]:=vw.inj v2;subst this;exact⟨.ref T::vs,Hn,.cons rfl r1,sm,km,.cons (.tup (X7.of q) (.cons (repx.same sm) (.cons (repy.same sm) .nil))) rr⟩
def CA {e1 e2:Expr}{p p2 ib:Pos}{f1 f2:Ev->R D}(ha1:PB X e1 f1)(ha2:PB X e2 f2)(hh:X.calm=true)(hg:Gl X "zip":=by rfl)(hm:X.mg "zip"=none:=by assumption)(hg2:Gl X "list":=by rfl)(md:X.mg "list"=none:=by assumption)
  (hv:bootBuiltins "zip"=some (.type "zip"):=by decide+kernel) (hv2:bootBuiltins "list"=some (.type "list"):=by decide+kernel)
  (he1:starEach [e2] X.env=(false,eval e2 X.env)::starEach [] X.env:=by rfl) (he:starEach [e1,e2] X.env=(false,eval e1 X.env)::starEach [e2] X.env:=by rfl) (bh:(backTo ib (starEach [e2] X.env)).any (·.1)=false:=by rfl)
  (jr:starEach [.Call (.Name "zip" p2) [e1,e2] [] ib] X.env=(false,eval (.Call (.Name "zip" p2) [e1,e2] [] ib) X.env)::starEach [] X.env:=by rfl) (xt:(backTo pos (starEach [] X.env)).any (·.1)=false:=by rfl) (hnl:backTo pos (starEach [] X.env)=[]:=by rfl):
  PF X (.Call (.Name "list" p) [.Call (.Name "zip" p2) [e1,e2] [] ib] [] pos) (λρ=>(k8 f1 (k8 f2 M7) ρ).bind SR):=by
 refine qO λpins s σ H Q I Ha O0 O ρ E q=>?_;dsimp only at q;refine aAP (P6 I hg2 md hv2 ?_ (by decide) (by decide));refine aBf ?_ jr xt;rw[jr];show wpAny _ _ (spliced ((false,eval (.Call (.Name "zip" p2) [e1,e2] [] ib) X.env)::backTo pos (starEach [] X.env))) _ _ s;refine aEC (aAP (P6 I hg hm hv ?_ (by decide) (by decide)));have tf:cz X [e1,e2] (k8 f1<|k8 f2 M7):=u6 ha1 (u6 ha2 K0 he1) he;refine aBf (D4 (tf ib pins s σ H (λvs H1=>∃v1 v2 xs ys,vs=[v1,v2]/\k8 f1 (k8 f2 M7) ρ=.ok [.lst xs,.lst ys]/\xs.length=ys.length/\Same H H1/\C0 X.K H1 O v1 (.lst xs)/\C0 X.K H1 O v2 (.lst ys)) I ⟨Ha,O0,O,ρ,E,?_⟩) λus s1 ⟨vs,H1,I1,r1,v1,v2,xs,ys,ev,ef,hxy,sm,rb1,rb2⟩=>?_) he bh
 ·cases e1:k8 f1 (k8 f2 M7) ρ with
  |ex z=>rw[e1]at q;exact q
  |bad=>rw[e1]at q;exact q.elim
  |ok ds=>
   rw[e1,R.aa0]at q;match ds,q with
   |[.lst xs,.lst ys],q=>
    simp only[SR]at q;by_cases hc:xs.length=ys.length
    ·intro vs H1 s1 r1;cases r1 with
     |cons ra r1=>cases r1 with
      |cons rb r1=>cases r1 with
       |nil=>exact⟨_,_,xs,ys,rfl,rfl,hc,s1,ra,rb⟩
    ·rw[if_neg hc]at q;exact aAg q
 ·subst ev;rw[ef,R.aa0]at q;simp only[SR]at q;rw[if_pos hxy]at q;obtain⟨a,wx,rfl,hSx,rx⟩:=rb1.aa4;obtain⟨b,wy,rfl,hSy,ry⟩:=rb2.aa4;obtain⟨u1,u2,rfl,ru1,ru2⟩:=vals2 r1;cases ru1;cases ru2;obtain⟨itx,rvx,⟨oX,nX,gX,cX,dX,sX⟩,zX⟩:=I1.list hSx;obtain⟨ity,rvy,⟨oY,nY,gY,cY,dY,sY⟩,zY⟩:=I1.list hSy;have hlx:s1.heap.IsList a itx.toArray:=⟨oX,gX,cX,nX,sX⟩;have hly:s1.heap.IsList b ity.toArray:=⟨oY,gY,cY,nY,sY⟩;refine call_zip_2 hlx hly λh1 z1 z2 z3 z4 z5 zsz k1=>?_;rw[hnl];refine aEQ ?_;have lx:itx.length=xs.length:=by rw[<-rvx.length,rx.length]
  have ly:ity.length=ys.length:=by rw[<-rvy.length,ry.length]
  have I2:=I1.kept (h':=h1) (t':=s1.toks) k1;have D:=zipApart_new (n:=s1.heap.objs.size) (aAf gX) (aAf gY);refine SZ.QC (s:={s1 with heap:=h1}) (I1.ok.hd hh) D (by rw[aAl,aAl,lx,ly,hxy]) (by rw[aAl,<-rvx.length];exact zX) ⟨⟨_,_,z1,.inl rfl⟩,z2,⟨_,_,z3⟩,z4,z5,hlx.at λo e=>k1 _ o e,hly.at λo e=>k1 _ o e⟩ λh' acc c kp gl hP=>?_;have k12:∀b u,s1.heap.get? b=some u->h'.get? b=some u:=λb u e=>kp b u (by have hb:=aAf e;simp only[aAe,aAw,or_false,not_or];exact⟨aAk (aAq hb<|aCq _ _),aAk (aAq hb<|aCq _ _),aAk hb,aAk (aAq hb<|aCq _ _)⟩) (k1 b u e)
  have sx:A0 X.K H1 O itx xs:=A0.of rvx rx;have sy:A0 X.K H1 O ity ys:=A0.of rvy ry;obtain⟨vs,Hn,rva,smn,km,rr⟩:=GK (h0:=h1) (h':=h') (l:=h1.objs.size) (λb hb=>by
   cases q:H1 b with
   |none=>rfl
   |some u=>exact absurd hb ((I2.hok b u q).live)) (acc:=acc.toList) sx sy hxy (λj v hj=>by
   obtain⟨T,x,y,e1,e2,e3,e4,e5,e6⟩:=hP.2 j v (by rw[<-aAB];exact hj);exact⟨T,x,y,e1,by simpa using e2,by simpa using e3,e4,λz=>e5 (by simp[z]),e6⟩) (by rw[aAW,hP.1,aAl,lx])
  have hls:Hn h1.objs.size=none:=by
   cases q:Hn h1.objs.size with
   |none=>rfl
   |some u=>have:=(km _ u (I2.hok.fresh<|aAh _) q).2.1;exact absurd rfl this
  have hlen:vs.length<=sizeLine:=by rw[rva.length,aAW,hP.1,aAl,<-rvx.length];exact zX
  have s3:Same Hn (upd Hn h1.objs.size<|.lst vs):=j4 hls _;have I3:=I1.ad8 (Hn:=upd Hn h1.objs.size (.lst vs)) (h':=h') (t':=s1.toks) k12 (smn.trans s3) (λb u n qb=>by
   by_cases hb:b=h1.objs.size
   ·subst hb;rw[i9]at qb;cases qb;refine⟨aEb (by rw[zsz];lia),hlen,acc.toList,c,rva,by rw[gl]⟩
   ·rw[j7 hb]at qb;obtain⟨h0b,_,ws,its,rfl,l2,vw,tt⟩:=km b u n qb;refine⟨?_,aAr l2 (by decide),its,vw,tt⟩;cases z:s1.heap.get? b with
    |none=>rfl
    |some o=>rw[k1 b o z]at h0b;cases h0b)
  exact⟨.ref _,_,I3,rfl,q vs Hn _ (sm.trans smn) hls rr⟩
end
mutual
def lK:D->Nat
 |.tup xs=>L7 xs+1
 |_=>1
def L7:List D->Nat
 |[]=>0
 |x::xs=>lK x+L7 xs
end
theorem cW:∀xs ys:List D,L7 (xs++ys)=L7 xs+L7 ys
 |[],ys=>by simp[L7]
 |x::xs,ys=>by rw[aBo,L7,L7,cW xs ys];lia
section
variable{prog:Program} {w:World}
def PHe (prog:Program)(w:World)(h:Heap)(v:Value)(d:D):Prop:=∀(A:Around) (E:F1) (s:Shared) (Q:Int->Shared->Prop),s.heap=h->A.units+8*G9 d<cLine->Q (o7 d) {s with toks:=s.toks+lK d}->wpAny (model prog w) A (pyHash v) Q E s
mutual
theorem JP:∀{v:Value} {d:D},HV h v d->PHe prog w h v d
 |_,_,.int i t=>λA E s Q hs hu q=>(intKind prog w).pyHash (k:=i) (intKind_is _ _ _ _) q
 |_,_,.tup (a:=a) (items:=items) (ds:=ds) p r=>λA E s Q hs hu q=>by
  have fs:=EZ r;subst hs;obtain⟨o,ho,hc,n,hd⟩:=p;have hT:s.TypeIs (.ref a) "tuple":=⟨o,ho,hc⟩;have hu0:A.units<cLine:=by lia
  rw[G9]at hu;unfold pyHash;first|unfold pyHashByItsType|skip
  first|refine aAa (wpAny_cRoomFor_or (.inr hu0) ?_)|skip
  refine aAa (aBn hT PySem.F.slot_tuple_hash.lookup ?_);show wpAny _ _ (if(some (aDp "tuple.__hash__")==some Value.none)=true then _ else _) Q E s;rw[if_neg (by rw[aFh];exact aAL)];refine aAa (aBn hT PySem.F.slot_tuple_hash.lookup ?_);show wpAny _ _ (callSpecialIfBoundUnlessNone? (.ref a) "__hash__" _>>=_) Q E s;refine aAa (aDi hT PySem.F.slot_tuple_hash<|aBm PySem.F.slot_tuple_hash hT PySem.F.entry_tuple_hash ?_ (PySem.F.args_tuple_hash_1 _));show wpAny _ _ (aDr (.ref a)>>=_) _ _ s;refine aAa (wpAny_tupleItemsOf ho hd ?_);refine aAa ?_;rw[<-aCo];refine aCp _
   (λrest (b:Array Int) s'=>∃done left,ds=done++left/\Paired (PHe prog w s.heap) rest left/\b.toList=done.map o7/\s'={s with toks:=s.toks+L7 done})
   _ ?_ ?_ _ _ ⟨[],ds,rfl,fs,rfl,rfl⟩
  ·rintro x rest b s' ⟨done,left,e1,hl,hb,rfl⟩;cases hl with
   |@cons _ d _ left' h1 jb=>
    refine aAa (h1 _ _ _ _ rfl ?_ ?_)
    ·have:G9 d<=K6 ds:=by rw[e1];exact uS (j:=done.length) (by simp)
     rw[u8];lia
    have e3:s.toks+L7 done+lK d=s.toks+L7 (done++[d]):=by rw[cW];simp[L7];lia
    first
     |exact aAb ⟨done++[d],left',by simp[e1],jb,by simp[hb],by rw[<-e3]⟩
     |exact aAa (aAb (aAb ⟨done++[d],left',by simp[e1],jb,by simp[hb],by rw[<-e3]⟩))
  ·rintro b s' ⟨done,left,e1,hl,hb,rfl⟩;cases hl;rw[aBu]at e1;subst e1;show wpAny _ _ (retInt<|aAJ b.toList) _ _ _;rw[hb];refine wpAny_ret_mkInt ?_;show wpAny _ _ (if(decide (-(2:Int)^63<=aAJ (ds.map o7))&&decide (aAJ (ds.map o7)<2^63))=true then _ else _) Q E _;have q':=q;rw[o7,gD,lK]at q';unfold reduceHash at q';by_cases hr:(decide (-(2:Int)^63<=aAJ (ds.map o7))&&decide (aAJ (ds.map o7)<2^63))=true
   ·rw[if_pos hr];rw[if_pos hr]at q';exact aAb q'
   ·rw[if_neg hr];rw[if_neg hr]at q';exact aAa (aDD<|aAb q')
theorem EZ:∀{v:List Value} {d:List D},HVs h v d->Paired (PHe prog w h) v d
 |_,_,.nil=>.nil
 |_,_,.cons r t=>.cons (JP r) (EZ t)
end
end
theorem nN:∀{n:Nat} {d:D},R9 n d=true->qM d=true/\G9 d<=n
 |n,.int i,_=>⟨rfl,by simp[G9]⟩
 |0,.tup xs,h=>by simp[R9]at h
 |n+1,.tup xs,h=>by
  have h':xs.all (R9 n)=true:=by simpa[R9]using h
  have key:∀ys:List D,ys.all (R9 n)=true->gC ys=true/\K6 ys<=n:=λys=>by
   induction ys with
   |nil=>intro _;exact⟨rfl,aAX _⟩
   |cons y ys ih=>intro hy;simp only[aEf,aAC]at hy;obtain⟨a1,a2⟩:=nN hy.1;obtain⟨b1,b2⟩:=ih hy.2;exact⟨by show(qM y&&gC ys)=true;rw[a1,b1];rfl,by show max (G9 y) (K6 ys)<=n;lia⟩
  obtain⟨c1,c2⟩:=key xs h';exact⟨c1,by show K6 xs+1<=n+1;lia⟩
 |n,.non,h=>by cases n<;>simp[R9]at h
 |n,.dct,h=>by cases n<;>simp[R9]at h
 |n,.bl b,h=>by cases n<;>simp[R9]at h
 |n,.str x,h=>by cases n<;>simp[R9]at h
 |n,.lst xs,h=>by cases n<;>simp[R9]at h
mutual
theorem HV.ac0 (k:∀b o,h.get? b=some o->(∃its n,o.data=.seq its n)->h'.get? b=some o):∀{v:Value} {d:D},HV h v d->HV h' v d
 |_,_,.int i t=>.int i t
 |_,_,.tup p r=>.tup (by obtain⟨o,e,c,n,d⟩:=p;exact⟨o,k _ _ e ⟨_,n,d⟩,c,n,d⟩) (HVs.ac0 k r)
theorem HVs.ac0 (k:∀b o,h.get? b=some o->(∃its n,o.data=.seq its n)->h'.get? b=some o):∀{v:List Value} {d:List D},HVs h v d->HVs h' v d
 |_,_,.nil=>.nil
 |_,_,.cons r t=>.cons (HV.ac0 k r) (HVs.ac0 k t)
end
instance decD:DecidableEq D:=λa b=>aDI _
def sT (prog:Program) (w:World):HeapKind prog w D where
 is:=λh d a=>HV h (.ref a) d/\G9 d<8
 hash:=o7
 draws:=lK
 room:=λA=>A.units+128<cLine
 inj:=λx y=>HV.inj x.1 y.1
 keeps:=λ{h h' k a d o es ep} x ho hd hs=>⟨x.1.ac0 λb ob e ⟨its,n,q⟩=>(hs.2 b (λz=>by subst z;rw[ho]at e;cases e;rw[hd]at q;cases q)).trans e,x.2⟩
 pyHash:=λ{A E s k a Q} hu hk q=>JP hk.1 A E s Q rfl (by have:=hk.2;lia) q
 eqBool:=λ{A E s x y a b Q} hu hx hy q=>by
  have h1:=EW (A:=A) hx.1 hy.1 (by have:=hx.2;lia);refine h1 prog w E Q ?_;have e:w5 x y=decide (x=y):=by
   by_cases h:x=y
   ·subst h;rw[V9,decide_eq_true rfl]
   ·rw[decide_eq_false h];cases z:w5 x y with
    |false=>rfl
    |true=>exact absurd (iQ hx.1.ok hy.1.ok z) h
  rw[e];exact q
 quiet:=λ{A E s k a Q} hk q=>jL 8 hk.1 hk.2 _ A E s Q rfl q
open Classical in
def fL (kvs:List (D×D)) (k v:D):List (D×D):=if k∈kvs.map (·.1)then kvs.map (λp=>if p.1=k then(p.1,v)else p)else kvs++[(k,v)]
def IN (kvs:List (D×D))(k v:D)(h:(kvs.map (·.1)).Nodup):((fL kvs k v).map (·.1)).Nodup:=by
 unfold fL;split
 ·rw[aBx];have:((λx=>x.1)∘λp:D×D=>if p.1=k then(p.1,v)else p)=λp=>p.1:=by funext p;simp only[Function.comp];split<;>rfl
  rw[this];exact h
 ·rename_i n;rw[aBU,aCT];refine⟨h,by simp,λa ha b hb=>?_⟩;simp at hb;subst hb;exactλe=>n (e▸ha)
section
theorem DV (I:Inv X pins σ H s):∀{es:List DictEntry} {kvs:List (D×D)},nV X.K H O es kvs->∃xs:List (D×Addr×Value),es=xs.map (entryOfKey (sT X.prog X.w))/\xs.map (·.1)=kvs.map (·.1)/\(∀x∈xs,(sT X.prog X.w).is s.heap x.1 x.2.1)/\
  Paired (λ(x:D×Addr×Value) (p:D×D)=>x.1=p.1/\Rep X.K H O (.ref x.2.1) p.1/\(∃v,RelV v x.2.2/\Rep X.K H O v p.2)/\R9 7 p.1=true) xs kvs
 |_,_,.nil=>⟨[],rfl,rfl,λx h=>(by cases h),.nil⟩
 |e::_,p::_,.cons ⟨⟨a,e1,r1⟩,r2,e3,k⟩ t=>by
  obtain⟨xs,h1,h2,h3,h4⟩:=DV I t;obtain⟨ok,dp⟩:=nN k;refine⟨(p.1,a,e.val)::xs,?_,by rw[aAu,aAu,h2],λx hx=>?_,.cons ⟨rfl,r1,r2,k⟩ h4⟩
  ·rw[aAu,<-h1];congr 1;obtain⟨hsh,ky,vl⟩:=e;simp only at e1 e3;subst e1 e3;rfl
  ·rcases aAe.mp hx with rfl|hx
   ·exact⟨dN I r1 ok rfl,by show G9 p.1<8;lia⟩
   ·exact h3 x hx
theorem EC {P:Program}{w:World}{K:PySem.W.Frag}{H:Hp}{O:Addr->Prop}:∀{xs:List (D×Addr×Value)} {kvs:List (D×D)},Paired (λ(x:D×Addr×Value) (p:D×D)=>x.1=p.1/\Rep K H O (.ref x.2.1) p.1/\(∃v,RelV v x.2.2/\Rep K H O v p.2)/\R9 7 p.1=true) xs kvs->nV K H O (xs.map (entryOfKey (sT P w))) kvs
 |_,_,.nil=>.nil
 |_,_,.cons ⟨e,r1,r2,k⟩ t=>.cons ⟨⟨_,rfl,r1⟩,r2,by rw[<-e];rfl,k⟩ (EC t)
def bC {xs:List (D×Addr×Value)}{k:D}:(atKey xs k).isSome=true↔k∈xs.map (·.1):=by unfold atKey;rw[Option.isSome_map,List.find?_isSome];simp only[decide_eq_true_eq,aAp]
def FJ (I:Inv X pins σ H s)(h:H a=some (.ext λh=>h.get? a=some o))(d:QF a o es)(r:nV X.K H O es kvs)(nd:(kvs.map (·.1)).Nodup):
  ∃xs,s.heap.DictOfH (sT X.prog X.w) a xs/\xs.map (·.1)=kvs.map (·.1)/\Paired (λ(x:D×Addr×Value) (p:D×D)=>x.1=p.1/\Rep X.K H O (.ref x.2.1) p.1/\(∃v,RelV v x.2.2/\Rep X.K H O v p.2)/\R9 7 p.1=true) xs kvs:=by
 obtain⟨xs,h1,h2,h3,h4⟩:=DV I r;obtain⟨_,ex,ea,ep,hd,he⟩:=d;have g:s.heap.get? a=some o:=(I.hok a _ h).1;exact⟨xs,⟨o,ea,ep,g,ex,hd,by rw[he,h1],h3,by rw[h2];exact nd⟩,h2,h4⟩
def IS {K:PySem.W.Frag}{xs:List (D×Addr×Value)}{kvs:List (D×D)}{k d:D}{b:Addr}{u:Value}{v:V}(hp:Paired (λ(x:D×Addr×Value) (p:D×D)=>x.1=p.1/\Rep K H O (.ref x.2.1) p.1/\(∃v,RelV v x.2.2/\Rep K H O v p.2)/\R9 7 p.1=true) xs kvs)(hk:xs.map (·.1)=kvs.map (·.1))
  (rk:Rep K H O (.ref b) k) (kk:R9 7 k=true) (ru:RelV v u) (rv:Rep K H O v d):
  Paired (λ(x:D×Addr×Value) (p:D×D)=>x.1=p.1/\Rep K H O (.ref x.2.1) p.1/\(∃v,RelV v x.2.2/\Rep K H O v p.2)/\R9 7 p.1=true) (storedH xs k b u) (fL kvs k d):=by
 unfold storedH fL;by_cases h:k∈kvs.map (·.1)
 ·rw[if_pos h,if_pos (bC.mpr (by rw[hk];exact h))];clear hk h;induction hp with
  |nil=>exact .nil
  |@cons x p xs kvs r t ih=>
   rw[aAu,aAu];refine .cons ?_ ih;unfold putAt;by_cases e:p.1=k
   ·rw[if_pos (r.1.trans e),if_pos e];exact⟨r.1,r.2.1,⟨v,ru,rv⟩,r.2.2.2⟩
   ·rw[if_neg (λz=>e (r.1.symm.trans z)),if_neg e];exact r
 ·rw[if_neg h,if_neg (λz=>h (by rw[<-hk];exact bC.mp z))];clear hk h;induction hp with
  |nil=>exact .cons ⟨rfl,rk,⟨v,ru,rv⟩,kk⟩ .nil
  |cons r t ih=>exact .cons r ih
end
section
variable{K:Type} [DecidableEq K] {knd:HeapKind prog w K}
def qK {Q:wN}(hu:knd.room A.in1)(hkey:knd.is s.heap k a)(hd:(d==sysModules)=false)(hm:s.heap.DictOfH knd d xs)
  (h:Q (atKey xs k).isSome {s with toks:=s.toks+knd.draws k}):wpAny (model prog w) A (contains (.ref d) (.ref a)) Q E s:=by
 unfold contains;try with_reducible refine aAO ?_
 refine aAa (aBn hm.typeIs aEK.lookup ?_);show wpAny _ _ (if(some (aDp "dict.__contains__")==some Value.none)=true then _ else _) _ E s;rw[if_neg (by rw[aFh];exact aAL)];refine aAa (wpAny_callSpecialUnlessNone?_slot (name:=aCW "__contains__") hm.typeIs aEK
  (aBm aEK hm.typeIs entry_dict_contains ?_ (args_dict_contains _ _)))
 show wpAny _ _ (dictGet d (.ref a)>>=_) _ _ s;refine aAa (wpAny_dictGet_heap hu hkey hm ?_);cases hf:atKey xs k with
 |some p=>rw[hf]at h;show wpAny _ _ (ret<|.bool true) _ _ _;exact aAb ⟨_,rfl,aBe h⟩
 |none=>rw[hf]at h;show wpAny _ _ (Builtin.Dict.pendingKey? d (.ref a)>>=_) _ _ _;exact aAa (wpAny_pendingKey_other hd<|aAb ⟨_,rfl,aBe h⟩)
end
def JF:D->Bool
 |.tup _=>true
 |_=>false
open Classical in
def pW (i:Nat) (ρ:Ev) (k:D):R Bool:=match ρ[i]? with
 |some (.d kvs)=>if R9 7 k=true/\JF k=true then .ok (!decide (k∈kvs.map (·.1)))else .bad
 |_=>.bad
section
def pA {K:PySem.W.Frag}{H:Hp}{O:Addr->Prop}{v:V}{k:D}(r:Rep K H O v k)(h:JF k=true):∃a,v=.ref a:=by
 cases r with
 |tup h r=>exact⟨_,rfl⟩
 |_=>cases h
def HY (i:Nat){x:Str}{p:Pos}{f:Ev->R D}(ha:PD X e f)(hu:X.A.units+130<cLine)(hN:X.N[i]?=some x:=by rfl)(hv:sF X.env.scope x:=by first|exact aBY rfl|exact aBk (aBY rfl)|exact aBk (aBk rfl))
  (hd:(x==("__debug__":Str))=false:=by decide) (eu:(x==("__classdict__":Str))=false:=by decide) (hm:behindInMarks .NotIn (.Name x p)=false:=by first|rfl|with_unfolding_all rfl):
  BO X (.Compare e [.NotIn] [.Name x p] pos) (λρ=>(f ρ).bind (pW i ρ)):=by
 refine qO λpins s σ H Q I Ha O0 O ρ E q=>?_;dsimp only at q;refine wpAny_isTrue_Compare1 (HW (ta:=tD X f) (tb:=xq i) ha (M6 hN hv hd eu) (R:=λy x H2=>∃a b o es kvs k,x=.ref a/\y=.ref b/\H2 a=some (.ext λh=>h.get? a=some o)/\QF a o es/\nV X.K H2 O es kvs/\(kvs.map (·.1)).Nodup/\Rep X.K H2 O (.ref b) k/\R9 7 k=true/\Q (!(open Classical in decide (k∈kvs.map (·.1)))) H2) I ⟨Ha,O0,O,ρ,E,?_⟩ λu w s2 y x H2 I2 ry rx h=>?_) hm
 ·cases e1:f ρ with
  |ex z=>rw[e1]at q;exact q
  |bad=>rw[e1]at q;exact q.elim
  |ok k=>
   rw[e1,R.aa0]at q;intro v H1 sm r;unfold pW at q;cases e2:ρ[i]? with
   |none=>rw[e2]at q;exact aAg q
   |some sl=>
    rw[e2]at q;cases sl with
    |d kvs=>
     dsimp only at q;by_cases hk:R9 7 k=true/\JF k=true
     ·rw[if_pos hk]at q;obtain⟨a,o,es,h1,_,_,h4,h5,h6,h7⟩:=(E.grow sm).slot i _ e2;obtain⟨b,rfl⟩:=pA r hk.2;exact⟨_,h1,a,b,o,es,kvs,k,rfl,rfl,h4,h5,h6,h7,r,hk.1,q H1 sm⟩
     ·rw[if_neg hk]at q;exact aAg q
    |_=>exact aAg q
 ·obtain⟨a,b,o,es,kvs,k,rfl,rfl,h4,h5,h6,h7,rk,hk,qq⟩:=h;cases ry;cases rx;obtain⟨xs,hD,ue,hp⟩:=FJ I2 h4 h5 h6 h7;obtain⟨ok,dp⟩:=nN hk;show wpAny _ _ (contains (.ref a) (.ref b)>>=λc=>pure (aCE (!c))) _ _ s2;refine aAa (qK (knd:=sT X.prog X.w) (by show X.A.in1.units+128<cLine;rw[u8];lia) ⟨dN I2 rk ok rfl,by lia⟩ h5.1 hD (aAb ?_));refine aBe ⟨H2,I2.tok _,?_⟩;have e3:(atKey xs k).isSome=(open Classical in decide (k∈kvs.map (·.1))):=by
   by_cases mn:k∈kvs.map (·.1)
   ·rw[decide_eq_true mn];exact bC.mpr (by rw[ue];exact mn)
   ·rw[decide_eq_false mn];cases z:(atKey xs k).isSome with
    |false=>rfl
    |true=>exact absurd (by rw[<-ue];exact bC.mp z) mn
  rw[e3];exact qq
def JQ (i:Nat)(hN:X.N.Nodup)(hi:X.N[i]?=some x:=by rfl)(hx:Loc X.env.scope x:=by first|exact aBY rfl|exact aBk rfl)(hs:swapsWith (.Dict [] [] dpos) (some (.Name x pos')) pos.line X.env=pure false:=by rfl)(hf:X.fn x=true\/X.env.scope.names.lookup x=some .local:=by first|exact .inl rfl|exact .inr rfl|assumption):jD X (.Assign [.Name x pos'] (.Dict [] [] dpos) pos) (λρ=>.ok (.nx (ρ.set i (.d [])))):=by
 intro Ha O0 pins s σ H D I ⟨O,ρ,E,fk,q⟩;refine aEP (wpAny_Dict_empty ?_) hs;have gn:(s.heap.push {cls:=.type "dict",data:=.dict #[]}).get? s.heap.objs.size=some {cls:=.type "dict",data:=.dict #[]}:=aAn _ rfl;have hn:=I.hok.fresh (aAh s.heap.objs.size);have I1:=I.laid (a:=s.heap.objs.size) (o:=.ext λh=>h.get? s.heap.objs.size=some {cls:=.type "dict",data:=.dict #[]}) (h':=s.heap.push {cls:=.type "dict",data:=.dict #[]}) (t':=s.toks) (λ_ _ q=>aAc _ q) (aAh _)
  ⟨gn,⟨_,gn⟩,λh1 h2 e k=>k _ e⟩
 have hk:=WQ I1 (i9 (H:=H) (a:=s.heap.objs.size));have big:sysModules<s.heap.objs.size:=aGi (by decide) (I.mod.glob.keeps I.bk).lt;refine X0 I1 hN hi hx (show RelV (.ref s.heap.objs.size) _ from rfl) (λs3 I3=>⟨_,_,I3,?_⟩) hf;have E2:=E.ae0 (u:=.ext λh=>h.get? s.heap.objs.size=some {cls:=.type "dict",data:=.dict #[]}) (sl:=.d []) i hn hk trivial λh0=>⟨s.heap.objs.size,_,[],rfl,.inr rfl,h0,i9,⟨by simp[aDk big],⟨rfl,rfl,rfl⟩,#[],0,rfl,rfl⟩,.nil,aCw⟩;exact q _ _ _ E2 (qX I1 _ E2.trk) λb o hb n=>⟨by rw[j7 (t8 hb hn)];exact hb,λz=>z.elim n (t8 hb hn)⟩
def a2d (X:Cx):SM:=λx y v H Q=>∃O a b o es kvs k d,x=.ref a/\y=.ref b/\H a=some (.ext λh=>h.get? a=some o)/\QF a o es/\nV X.K H O es kvs/\(kvs.map (·.1)).Nodup/\es.length<=sizeLine/\Rep X.K H O (.ref b) k/\R9 7 k=true/\Rep X.K H O v d/\
 ∀o' es',QF a o' es'->nV X.K H O es' (fL kvs k d)->Q (upd H a<|.ext λh=>h.get? a=some o')
def UB (hu:X.A.units+130<cLine):ZP X (a2d X):=by
 intro pins s σ H x y v ov iv u Q I rx ry ru z;obtain⟨O,a,b,o,es,kvs,k,d,ex,ey,h4,h5,h6,h7,hz,rk,hk,rv,q⟩:=z;subst ex ey;cases rx;cases ry;obtain⟨xs,hD,ue,hp⟩:=FJ I h4 h5 h6 h7;obtain⟨ok,dp⟩:=nN hk;have hlen:xs.length<=sizeLine:=by
  obtain⟨_,ex,ea,ep,hd,he⟩:=h5;obtain⟨o2,qg,ep2,g2,_,hd2,jr,_⟩:=hD;have g:s.heap.get? a=some o:=(I.hok a _ h4).1;rw[g]at g2;cases g2;rw[hd]at hd2;cases hd2;have:=congrArg List.length (he.symm.trans jr);rw[aAm]at this
  lia
 refine wpAny_setItem_heap (knd:=sT X.prog X.w) (by show X.A.in1.units+128<cLine;rw[u8];lia) ⟨dN I rk ok rfl,by lia⟩ hD (λh' hD' hs=>?_) hlen;obtain⟨o',es',ep',g',ex',mh,yp,is',nd'⟩:=hD';have I1:=I.write (x:=a) (e:=a) (o:=.ext λh=>h.get? a=some o') (h':=h') (t':=s.toks+lK k) (by rw[h4];trivial) (.inl rfl) (λb u hb e=>(hs.2 b hb).trans e) ⟨o',g'⟩ ⟨g',⟨o',g'⟩,λh1 h2 e k=>k _ e⟩;exact⟨_,I1,q o' _ ⟨h5.1,ex',es',ep',mh,rfl⟩ (by rw[yp];exact EC (IS hp ue rk hk ru rv))⟩
def yY (i:Nat) (ρ:Ev) (k d:D):R Out:=match ρ[i]? with
 |some (.d kvs)=>if R9 7 k=true/\JF k=true/\kvs.length<=sizeLine then .ok (.nx (ρ.set i<|.d (fL kvs k d)))else .bad
 |_=>.bad
def DJ (i:Nat){x:Str}{k:Expr}{f g:Ev->R D}{p ps:Pos}(he:PD X e f)(hk:PD X k g)(hu:X.A.units+130<cLine)(hN:X.N[i]?=some x:=by rfl)(hv:sF X.env.scope x:=by first|exact aBY rfl|exact aBk (aBY rfl)|exact aBk (aBk rfl))(hd:(x==("__debug__":Str))=false:=by decide)
  (eu:(x==("__classdict__":Str))=false:=by decide) (ha:∀v,assign (.Subscript (.Name x p) k ps) X.env v=(do
   let ov<-holding [v] (eval (.Name x p) X.env)
   let iv<-holding [v,ov] (eval k X.env)
   standAt ps
   holding [v,ov,iv] (setItem ov iv v)
   release [v,ov,iv] []):=by intro _;rfl)
  (hs:swapsWithSole [.Subscript (.Name x p) k ps] e pos.line X.env=pure false:=by rfl) (hw:swappedStores [.Subscript (.Name x p) k ps] e X.env=pure none:=by rfl) (h1:(assignEach [.Subscript (.Name x p) k ps] X.env).map (·.2)=[assign (.Subscript (.Name x p) k ps) X.env]:=by rfl):
  jD X (.Assign [.Subscript (.Name x p) k ps] e pos) (λρ=>(f ρ).bind λd=>(g ρ).bind λkd=>yY i ρ kd d):=λHa O0=>
 ED (BI he (AO (M6 hN hv hd eu) hk (UB hu) ha) hs hw h1) λD σ H O ρ E fk q=>⟨Ha,O0,O,ρ,E,by
  cases e1:f ρ with
  |ex z=>rw[e1]at q;exactλH' s=>q H' (E.same.trans s)
  |bad=>rw[e1]at q;exact q
  |ok d=>
   rw[e1,R.aa0]at q;intro v H1 s1 r1;have E1:=E.grow s1;cases e2:g ρ with
   |ex z=>rw[e2]at q;exact(q H<|E.same.trans<|Same.refl _).elim
   |bad=>rw[e2]at q;exact aAg q
   |ok kd=>
    rw[e2,R.aa0]at q;unfold yY at q;cases e3:ρ[i]? with
    |none=>rw[e3]at q;exact aAg q
    |some sl=>
     rw[e3]at q;cases sl with
     |d kvs=>
      dsimp only at q;by_cases hk:R9 7 kd=true/\JF kd=true/\kvs.length<=sizeLine
      ·rw[if_pos hk]at q;obtain⟨a,o,es,h1,h2,h3,h4,h5,h6,h7⟩:=E1.slot i _ e3;refine⟨_,h1,Ha,O0,O,ρ,E1,?_⟩;rw[e2];intro kv H2 s2 r2;have E2:=E1.grow s2;obtain⟨b,rfl⟩:=pA r2 hk.2.1;have h6':nV X.K H2 O es kvs:=h6.mono λr=>r.same s2;refine⟨O,a,b,o,es,kvs,kd,d,rfl,rfl,s2 _ _ h4,h5,h6',h7,by rw[h6.length];exact hk.2.2,r2,hk.1,r1.same s2,λo' es' d' r'=>?_⟩;obtain⟨E3,k3⟩:=E2.ad9 (sl':=.d (fL kvs kd d)) (u':=.ext λh=>h.get? a=some o') e3 trivial h1 (s2 _ _ h4) trivial trivial λhO h0 m=>⟨a,o',es',rfl,h2,h3,i9,d',r'.mono λr=>r.upd (s2 _ _ h4) trivial h2,IN kvs kd d h7⟩;exact q _ _ _ E3 fk (((Kp.of s1).trans (Kp.of s2)).trans k3)
      ·rw[if_neg hk]at q;exact aAg q
     |_=>exact aAg q⟩
end
end DL
namespace MM
open PySem
def OM (prog:Program)(w:World)(A:Around)(op:CmpOp)(Hs:Heap->Prop)(P:Nat->Value->Prop)(bt:Nat->Nat->Bool):Prop:=
 ∀i j vi vj (s:Shared) (Q:F1) (E:F1),Hs s.heap->P i vi->P j vj->Q (.bool (bt i j)) s->wpAny (model prog w) A (richCompare op vi vj) Q E s
section
def HJ (W:WalksS prog w A.in1 I fp wr G n P St){Hs:Heap->Prop}(hH:∀i s,St i s->Hs s.heap)(bt:Nat->Nat->Bool)(xv:OM prog w A.in1 .Lt Hs P bt)(S:Addr)(qh:S∉fp):
  ∀(k j:Nat) (s:Shared) (vb:Value) (c:Nat),n-(j+1)=k->j+1<=n->St (j+1) s->P (argBest bt j) vb->
  s.heap.get? S=some {cls:=.type "list",dict:=none,data:=.seq #[vb,vb] c,slots:=#[]}->
  (∀v s',P (argBest bt (n-1)) v->Moved (S::wr) G s s'->R (.ok (.ret v)) s')->codeAny (model prog w) A (.builtin "min.loop" ⟨[.ref I,.none,.ref S],[]⟩) R s:=by
 have hSw:S∉wr:=λh=>qh (W.sub _ h);have kn:∀b∈wr,b∈S::wr:=λb hb=>aAd _ hb;have mo:(toString "min"++toString ".loop":String)= "min.loop":=by decide
 have notS:∀{b:Addr},b∉S::wr->S≠b:=λhb h=>hb (by rw[h];exact aAK);intro k;induction k with
 |zero=>
  intro j s vb c hk hj jv hPb hS hR;have mn:j+1=n:=by omega
  refine aBw aFj ?_;rw[aBd aCG _];show wpAny _ A.in1 (seqItems? (.ref S)>>=_) _ _ s;refine aAa (aBH hS rfl ?_);show wpAny _ A.in1 (tryCatch (pyNext<|.ref I) _>>=_) _ _ s;refine aAa (aEN<|W.done s _ _ (mn▸jv) λs' hm=>?_);have jt:=hm.heap S _ hSw hS;show wpAny _ A.in1 (updateSeq S (λ_=>#[])>>=_) _ _ _;refine aAa ?_;refine aBT jt rfl (aAa<|aDO<|aAb ?_);exact hR vb _ (by rw[<-mn];exact hPb) ((hm.mono kn).then_heap (tk:=s'.toks) (aAh _) λb o hb e=>(aAA _ _<|notS hb).trans e)
 |succ k ih=>
  intro j s vb c hk hj jv hPb hS hR;have av:j+1<n:=by omega
  refine aBw aFj ?_;rw[aBd aCG _];show wpAny _ A.in1 (seqItems? (.ref S)>>=_) _ _ s;refine aAa (aBH hS rfl ?_);show wpAny _ A.in1 (tryCatch (pyNext<|.ref I) _>>=_) _ _ s;refine aAa (aEN<|W.item (j+1) s _ _ av jv λv s' hP mf hm=>?_);have jt:=hm.heap S _ hSw hS;show wpAny _ A.in1 (tryCatch (holding [v,v]<|richCompare .Lt v vb>>=_) _>>=_) _ _ _;refine aAa (aEN<|aAO<|aAa<|xv (j+1) (argBest bt j) v vb _ _ _ (hH _ _ mf) hP hPb ?_);refine aAa (aAO<|aBe ?_);refine aAa (aDO<|aAb ?_);cases hb:bt (j+1) (argBest bt j)with
  |true=>
   simp only[if_true];refine aAa ?_;refine aBT jt rfl (aAa<|aDO ?_);rw[mo];refine aAb ⟨aBQ aCG _,ih (j+1) _ v _ (by omega) av (W.frame _ s' _ s'.toks mf (aAh _) λb hbf o e=>?_) (by simp only[argBest,hb,if_true];exact hP) (aAY _ jt rfl)
    λv' s'' hP' oa=>?_⟩
   ·exact(aAA _ _ (λh:S=b=>qh (by rw[h];exact hbf))).trans e
   ·exact hR v' s'' hP' (aFd W.gtrans ((hm.mono kn).then_heap (aAh _) λb o hb e=>(aAA _ _<|notS hb).trans e) oa)
  |false=>simp only[aAt,if_false];refine aAa (aDO ?_);rw[mo];refine aAb ⟨aBQ aCG _,ih (j+1) _ vb c (by omega) av mf (by simp only[argBest,hb,aAt,if_false];exact hPb) jt λv' s'' hP' oa=>?_⟩;exact hR v' s'' hP' (aFd W.gtrans (hm.mono kn) oa)
def AM (W:WalksS prog w A.in1 I fp wr G n P St){Hs:Heap->Prop}(hH:∀i s,St i s->Hs s.heap)(bt:Nat->Nat->Bool)(xv:OM prog w A.in1 .Lt Hs P bt)(S:Addr)(qh:S∉fp)(hn:0<n)(jv:St 0 s)(hS:s.heap.get? S=some {cls:=.type "list",dict:=none,data:=.seq #[] c,slots:=#[]})(hR:∀v s',P (argBest bt (n-1)) v->Moved (S::wr) G s s'->R (.ok (.ret v)) s'):codeAny (model prog w) A (.builtin "min.loop" ⟨[.ref I,.none,.ref S],[]⟩) R s:=by
 have hSw:S∉wr:=λh=>qh (W.sub _ h);have kn:∀b∈wr,b∈S::wr:=λb hb=>aAd _ hb;have mo:(toString "min"++toString ".loop":String)= "min.loop":=by decide
 have notS:∀{b:Addr},b∉S::wr->S≠b:=λhb h=>hb (by rw[h];exact aAK);refine aBw aFj ?_;rw[aBd aCG _];show wpAny _ A.in1 (seqItems? (.ref S)>>=_) _ _ s;refine aAa (aBH hS rfl ?_);show wpAny _ A.in1 (tryCatch (pyNext<|.ref I) _>>=_) _ _ s;refine aAa (aEN<|W.item 0 s _ _ hn jv λv s' hP mf hm=>?_);have jt:=hm.heap S _ hSw hS;show wpAny _ A.in1 (updateSeq S (λ_=>#[v,v])>>=_) _ _ _;refine aAa ?_;refine aBT jt rfl ?_;rw[mo];refine aAb ⟨aBQ aCG _,HJ W hH bt xv S qh _ 0 _ v _ rfl hn (W.frame _ s' _ s'.toks mf (aAh _) λb hbf o e=>?_) hP (aAY _ jt rfl) λv' s'' hP' oa=>?_⟩
 ·exact(aAA _ _ (λh:S=b=>qh (by rw[h];exact hbf))).trans e
 ·exact hR v' s'' hP' (aFd W.gtrans ((hm.mono kn).then_heap (aAh _) λb o hb e=>(aAA _ _<|notS hb).trans e) oa)
def call_minH {E:F1}{Q:F1}(h:wpAny (model prog w) A.in1 (pyIter x) (λit ic=>∃I fp wr G n P St Hs bt,it=.ref I/\WalksS prog w A.in1 I fp wr G n P St/\St 0 ic/\(∀b∈fp,b<ic.heap.objs.size)/\0<n/\(∀i s,St i s->Hs s.heap)/\OM prog w A.in1 .Lt Hs P bt/\
   ∀v s',P (argBest bt (n-1)) v->Moved wr G ic s'->Q v s') E s):
  wpAny (model prog w) A (call (.builtin "min") [x]) Q E s:=by
 have mo:(toString "min"++toString ".loop":String)= "min.loop":=by decide
 refine call_function_tree F.kind_min F.plain_min F.entry_min (F.args_min1 _) ?_;show wpAny _ A.in1 (aEt "min" ["key", "default"] 0 ⟨[],[]⟩>>=_) _ _ s;refine aAa (wpAny_of_eq (show aEt "min" ["key", "default"] 0 ⟨[],[]⟩=pure [none,none]from rfl) ?_);refine aAa (aAb ?_);refine aAa (aBG h (λit ic jm=>?_) λ_ _ e=>e);obtain⟨I,fp,wr,G,n,P,St,Hs,bt,rfl,W,jv,xg,hn,hH,xv,hQ⟩:=jm;refine aAa (aBA ?_);have qh:ic.heap.objs.size∉fp:=λhm=>aBc _ (xg _ hm);rw[mo];refine aAb ⟨aBQ aCG _,AM W hH bt xv ic.heap.objs.size qh hn (W.frame 0 ic _ ic.toks jv (aAh _) λb _ o e=>aAc _ e) (aAn _ rfl) λv s' hP hm=>?_⟩;exact hQ v s' hP (Moved.drop_new (tk:=ic.toks) hm<|aAh _)
end
def walks_more {P:Nat->Value->Prop}{St:Nat->Heap->Prop}(W:Walks prog w A I fp wr n P St)(more:M5)(hd:∀p∈more,p.1∉wr):
  Walks prog w A I (fp++more.map (·.1)) wr n P (λi h=>St i h/\∀p∈more,h.get? p.1=some p.2)where
 sub:=λb hb=>aBB _ (W.sub b hb)
 frame:=λi h h' st k=>⟨W.frame i h h' st.1 λb hb o e=>k b (aBB _ hb) o e,λp hp=>k p.1 (aAE _<|aDA hp) _ (st.2 p hp)⟩
 item:=λi s Q E hi st hQ=>W.item i s Q E hi st.1 λv h' tk hP jv kp=>hQ v h' tk hP ⟨jv,λp hp=>kp p.1 p.2 (hd p hp) (st.2 p hp)⟩ kp
 done:=λs Q E st hQ=>W.done s Q E st.1 hQ
 self:=λi s Q E st hQ=>W.self i s Q E st.1 hQ
end MM
namespace DL
open PySem PySem.Spec L2
open PyProof.Rows hiding St
variable [Tabs]
section
def JE {x:Str}{a:Addr}{dd:Option Addr}{its:Array Value}{n:Nat}{sl:Array (Option Value)}{ns:List Int}(hm:X.mg x=some (.ref a))(hk:X.K.lookup a=some ⟨.type "tuple",dd,.seq its n,sl⟩)(hi:l8 (ns.map V.int) its.toList)(hz:its.size<=sizeLine)(hg:Gl X x:=by rfl)(de:(x==("__debug__":Str))=false:=by decide):
 PD X (.Name x pos) (BV (.tup (ns.map D.int))):=nU (DZ hg hm (show RelV (.ref a) _ from rfl) de) λH O=>.tup (.inr ⟨_,its,n,hk,rfl,rfl,hz,hi⟩) (Reps.ints ns)
def OA:D->D->R D
 |.non,.non=>.ok (.bl true)
 |_,.non=>.ok (.bl false)
 |_,_=>.bad
def MN:mI X (compareOp .Is) OA:=by
 intro H O x y dx dy Q fr rx ry q;refine⟨_,XX,?_⟩;cases dy with
 |non=>
  refine⟨ry.ac1,?_⟩;cases dx with
  |non=>rw[rx.ac1];exact q _ H (Same.refl _) .bl
  |bl b=>rw[rx.blI];exact q _ H (Same.refl _) .bl
  |int i=>rw[rx.aa2];exact q _ H (Same.refl _) .bl
  |str z=>rw[rx.ac3];exact q _ H (Same.refl _) .bl
  |tup ds=>obtain⟨a,_,rfl,_⟩:=rx.tupI;exact q _ H (Same.refl _) .bl
  |lst ds=>obtain⟨a,_,rfl,_⟩:=rx.aa4;exact q _ H (Same.refl _) .bl
  |dct=>obtain⟨a,_,rfl,_⟩:=rx.ag0;exact q _ H (Same.refl _) .bl
 |_=>cases dx<;>exact aAg q
def jC (he:PD X e f)(hs:swapsWith e none pos.line X.env=pure false:=by rfl):jD X (.Expr e pos) (λρ=>(f ρ).bind λ_=>.ok (.nx ρ)):=λHa O0=>
 ED (nF he hs) λD σ H O ρ E fk q=>⟨Ha,O0,O,ρ,E,by
  cases e1:f ρ with
  |ok d=>rw[e1]at q;exactλv H' s r=>q _ H' O (E.grow s) fk (Kp.of s)
  |ex x=>rw[e1]at q;exactλH' s=>q H' (E.same.trans s)
  |bad=>rw[e1]at q;exact q⟩
def S5:List D->Option (List Bool)
 |[]=>some []
 |.bl b::ds=>(S5 ds).map (b::·)
 |_::_=>none
theorem gE:∀{ds:List D} {bs:List Bool},S5 ds=some bs->ds=bs.map D.bl
 |[],bs,h=>by cases h;rfl
 |.bl b::ds,bs,h=>by
  unfold S5 at h;cases e:S5 ds with
  |none=>rw[e]at h;cases h
  |some l=>rw[e]at h;have h':b::l=bs:=aAj h;subst h';rw[gE e];rfl
 |.non::_,_,h|.int _::_,_,h|.str _::_,_,h|.tup _::_,_,h|.lst _::_,_,h|.dct::_,_,h=>by cases h
def anyR:List D->R D
 |[.lst ds]=>match S5 ds with
  |some bs=>.ok (.bl (bs.any id))
  |none=>.bad
 |_=>.bad
def OU:List D->R D
 |[.lst ds]=>match S5 ds with
  |some bs=>.ok (.bl (bs.all id))
  |none=>.bad
 |_=>.bad
def oA {K:PySem.W.Frag}{H:Hp}{O:Addr->Prop}{ws:List V}{bs:List Bool}{its:List Value}(r:Reps K H O ws (bs.map D.bl))(v:l8 ws its):its=bs.map aCE:=by
 induction bs generalizing ws its with
 |nil=>cases r;cases v;rfl
 |cons b bs ih=>
  cases r with
  |cons r t=>
   cases v with
   |cons rv tv=>cases r;have:_=aCE b:=rv;rw[this,ih t tv];rfl
def GW (bs:List Bool):(aBL bs.length).any (λi=>bs.getD i false)=bs.any id:=by
 rw[aCR,aDY,aDY];constructor
 ·rintro⟨i,hi,e⟩;have gg:i<bs.length:=by simpa using hi
  refine⟨bs[i],aBV gg,?_⟩;simpa[aAo,aAi gg]using e
 ·rintro⟨b,hb,e⟩;obtain⟨i,hi,rfl⟩:=aBi hb;exact⟨i,by simpa using hi,by simpa[aAo,aAi hi]using e⟩
def GV (bs:List Bool):(aBL bs.length).all (λi=>bs.getD i false)=bs.all id:=by
 rw[aCR,aBz,aBz];constructor
 ·intro h b hb;obtain⟨i,hi,rfl⟩:=aBi hb;have:=h i (by simpa using hi);simpa[aAo,aAi hi]using this
 ·intro h i hi;have gg:i<bs.length:=by simpa using hi
  have:=h bs[i] (aBV gg);simpa[aAo,aAi gg]using this
def YE (hc:X.calm=true):cG X (.builtin "any") anyR:=by
 intro H O vs ds Q fr r q;match ds,q with
 |[.lst xs],q=>
  obtain⟨v,rfl,z⟩:=JK r;obtain⟨p,ws,rfl,h1,h2⟩:=z.aa4;simp only[anyR]at q;cases e:S5 xs with
  |none=>rw[e]at q;exact q.elim
  |some bs=>
   rw[e]at q;rw[gE e]at h2;refine⟨λvs H' Q'=>vs=[.ref p]/\H'=H/\Q'=Q,λpins s σ H' xs us Q' I rv ⟨e1,e2,e3⟩=>?_,rfl,rfl,rfl⟩;subst e1 e2 e3;obtain⟨u,rfl,ru⟩:=vals1 rv;cases ru;obtain⟨its,rv2,⟨oL,nL,gL,cL,dL,sL⟩,zL⟩:=I.list h1;have ei:=oA h2 rv2;have hl:s.heap.IsList p its.toArray:=⟨oL,gL,cL,nL,sL⟩;refine call_any_walk (aCP hl ⟨s.heap.objs.size,_,_,its.toArray.size,_,_,λi=>bs.getD i false,rfl,aGh (by simp[I.ok.hd hc]) s.heap.objs.size p (aAk<|aAf gL) its.toArray,⟨⟨_,aAn _ rfl,rfl,rfl⟩,hl.push _⟩,λi v s' Q E hP hq=>?_,λh' tk kp=>?_⟩)
   ·have hP:its.toArray[i]?=some v:=hP;have hq:Q (bs.getD i false) s':=hq;rw[aCl,ei,aAN]at hP;cases eb:bs[i]? with
    |none=>rw[eb]at hP;cases hP
    |some b=>rw[eb]at hP;have:aCE b=v:=aAj hP;subst this;rw[aAo,eb]at hq;exact aBe hq
   ·have I2:=I.kept (h':=h') (t':=tk) λb o e=>kp b o (by simp only[aBb];exact aAk (aAf e)) (aAc _ e);refine⟨.bl (bs.any id),_,I2,?_,q _ _ (Same.refl _) .bl⟩;show aCE _=aCE _;rw[aAl,ei,aAm,GW]
def YM (hc:X.calm=true):cG X (.builtin "all") OU:=by
 intro H O vs ds Q fr r q;match ds,q with
 |[.lst xs],q=>
  obtain⟨v,rfl,z⟩:=JK r;obtain⟨p,ws,rfl,h1,h2⟩:=z.aa4;simp only[OU]at q;cases e:S5 xs with
  |none=>rw[e]at q;exact q.elim
  |some bs=>
   rw[e]at q;rw[gE e]at h2;refine⟨λvs H' Q'=>vs=[.ref p]/\H'=H/\Q'=Q,λpins s σ H' xs us Q' I rv ⟨e1,e2,e3⟩=>?_,rfl,rfl,rfl⟩;subst e1 e2 e3;obtain⟨u,rfl,ru⟩:=vals1 rv;cases ru;obtain⟨its,rv2,⟨oL,nL,gL,cL,dL,sL⟩,zL⟩:=I.list h1;have ei:=oA h2 rv2;have hl:s.heap.IsList p its.toArray:=⟨oL,gL,cL,nL,sL⟩;refine call_all_walk (aCP hl ⟨s.heap.objs.size,_,_,its.toArray.size,_,_,λi=>bs.getD i false,rfl,aGh (by simp[I.ok.hd hc]) s.heap.objs.size p (aAk<|aAf gL) its.toArray,⟨⟨_,aAn _ rfl,rfl,rfl⟩,hl.push _⟩,λi v s' Q E hP hq=>?_,λh' tk kp=>?_⟩)
   ·have hP:its.toArray[i]?=some v:=hP;have hq:Q (bs.getD i false) s':=hq;rw[aCl,ei,aAN]at hP;cases eb:bs[i]? with
    |none=>rw[eb]at hP;cases hP
    |some b=>rw[eb]at hP;have:aCE b=v:=aAj hP;subst this;rw[aAo,eb]at hq;exact aBe hq
   ·have I2:=I.kept (h':=h') (t':=tk) λb o e=>kp b o (by simp only[aBb];exact aAk (aAf e)) (aAc _ e);refine⟨.bl (bs.all id),_,I2,?_,q _ _ (Same.refl _) .bl⟩;show aCE _=aCE _;rw[aAl,ei,aAm,GV]
end
end DL
namespace DL
open PySem PySem.Spec L2
open PyProof.Rows hiding St
variable [Tabs]
def ZY (ds:List D)(i j:Nat):Bool:=HT.lexLt (D5<|ds.getD i .non) (D5<|ds.getD j .non)
def NU:List D->R D
 |[.lst ds]=>if ds≠[]/\ds.all cF=true then .ok (ds.getD (argBest (ZY ds) (ds.length-1)) .non)else .bad
 |_=>.bad
def vN (h:Heap)(its:List Value):List (Addr×Obj):=its.filterMap λv=>match v with
 |.ref b=>(h.get? b).map λo=>(b,o)
 |_=>none
def AU (hb:aDb b∈its)(e:h.get? b=some o):(b,o)∈vN h its:=
 aBE.mpr ⟨_,hb,by show(h.get? b).map _=_;rw[e];rfl⟩
def gR (hp:p∈vN h its):h.get? p.1=some p.2:=by
 obtain⟨v,_,e⟩:=aBE.mp hp;cases v with
 |ref b=>
  have e:(h.get? b).map (λo=>(b,o))=some p:=e;cases q:h.get? b with
  |none=>rw[q]at e;cases e
  |some o=>rw[q]at e;cases e;exact q
 |_=>cases e
section
def SF (hc:X.calm=true)(hu:X.A.units+300<cLine):cG X (.builtin "min") NU:=by
 intro H O vs ds Q fr r q;match ds,q with
 |[.lst xs],q=>
  obtain⟨v,rfl,z⟩:=JK r;obtain⟨p,ws,rfl,h1,h2⟩:=z.aa4;simp only[NU]at q;by_cases hp:xs≠[]/\xs.all cF=true
  ·rw[if_pos hp]at q;obtain⟨bc,hp⟩:=hp;have pt:∀d∈xs,cF d=true:=aBz.mp hp;refine⟨λvs H' Q'=>vs=[.ref p]/\H'=H/\Q'=Q,λpins s σ H' uo us Q' I rv ⟨e1,e2,e3⟩=>?_,rfl,rfl,rfl⟩;subst e1 e2 e3;obtain⟨u,rfl,ru⟩:=vals1 rv;cases ru;obtain⟨its,rv2,⟨oL,nL,gL,cL,dL,sL⟩,zL⟩:=I.list h1;have hl:s.heap.IsList p its.toArray:=⟨oL,gL,cL,nL,sL⟩;have st:A0 X.K H' O its xs:=A0.of rv2 h2;have hlen:its.toArray.size=xs.length:=by rw[aAl,<-rv2.length,h2.length]
   have ur:0<xs.length:=List.length_pos_iff.mpr bc;have W:=MM.walks_more (aGh (prog:=X.prog) (w:=X.w) (A:=X.A.in1) (by simp[I.ok.hd hc]) s.heap.objs.size p (aAk<|aAf gL) its.toArray) (vN s.heap its)
    (λq hq=>by simp only[aBb];exact aAk (aAf<|gR hq))
   refine MM.call_minH (aCP hl ⟨s.heap.objs.size,_,_,_,its.toArray.size,_,_,λh=>∀q∈vN s.heap its,h.get? q.1=some q.2,ZY xs,rfl,W.toS,⟨⟨⟨_,aAn _ rfl,rfl,rfl⟩,hl.push _⟩,λq hq=>aAc _ (gR hq)⟩,λb hb=>?_,by rw[hlen];exact ur,λi s h=>h.2,λi j vi vj s' Q2 E2 hh hi hj hq=>?_,λv s' hP hm=>?_⟩)
   ·rw[aBq];rcases aAH.mp hb with hb|hb
    ·rcases aAe.mp hb with rfl|hb
     ·exact aDy _
     ·rcases aAe.mp hb with rfl|hb
      ·exact aBr (aAf gL)
      ·cases hb
    ·obtain⟨q,hq,rfl⟩:=aAp.mp hb;exact aBr (aAf<|gR hq)
   ·have one:∀i v,its.toArray[i]?=some v->∃b items,v=.ref b/\IsTup s'.heap b items/\IntsAre items.toList (D5<|xs.getD i .non):=λi v hi=>by
     rw[aCl]at hi;obtain⟨d,hd,w,ud,rp⟩:=J5 st hi;have mh:xs.getD i .non=d:=by rw[aAo,hd];rfl
     rw[mh];have hpt:=pt d (aAs hd);obtain⟨b,items,rfl,⟨o,g,c,n,dd⟩,hia⟩:=bG hpt (dN I rp (V0 hpt) ud);exact⟨b,items,rfl,⟨o,hh _ (AU (aAs hi) g),c,n,dd⟩,hia⟩
    obtain⟨b,items,rfl,t1,i1⟩:=one i vi hi;obtain⟨b',xr,rfl,t2,i2⟩:=one j vj hj;exact HT.lt_tupInts t1 t2 i1 i2 (by rw[u8];lia) hq
   ·have hP:its.toArray[argBest (ZY xs) (its.toArray.size-1)]?=some v:=hP;rw[aCl,hlen]at hP;obtain⟨d,hd,w,ud,rp⟩:=J5 st hP;have mh:xs.getD (argBest (ZY xs)<|xs.length-1) .non=d:=by rw[aAo,hd];rfl
    rw[mh]at q;have I2:=I.kept (h':=s'.heap) (t':=s'.toks) λb o e=>hm.heap b o (by simp only[aBb];exact aAk (aAf e)) (aAc _ e);have es:s'={s with heap:=s'.heap,toks:=s'.toks}:=by have g1:=hm.gens;have g2:=hm.drawn;have g3:=hm.os;cases s';simp only at g1 g2 g3;subst g1 g2 g3;rfl
    rw[es];exact⟨w,_,I2,ud,q _ _ (Same.refl _) rp⟩
  ·rw[if_neg hp]at q;exact q.elim
def UZ (h:RE ds)(n:Nat)(hn:n<ds.length):argBest (ZY ds) n=0:=by
 induction n with
 |zero=>rfl
 |succ k ih=>
  have e:=ih (by lia);unfold argBest;rw[e];have:ZY ds (k+1) 0=false:=by
   unfold ZY;rw[aAo,aAo,aAi hn,aAi (by lia:0<ds.length)];have:=aCf.mp h 0 (k+1) (by lia) hn (by lia);cases q:HT.lexLt (D5<|(some ds[k+1]).getD .non) (D5 ((some (ds[0]'(by lia))).getD .non))with
   |false=>rfl
   |true=>have z:HT.lexLt (D5 (ds[0]'(by lia))) (D5 (ds[0]'(by lia)))=true:=TS.lex_trans _ _ _ this q;rw[TS.lex_irrefl]at z;cases z
  rw[this];rfl
end
end DL
namespace DL
open PySem PySem.Spec L2
open PyProof.Rows hiding St sub_tuple_tuple sub_list_list sub_tuple_list sub_list_tuple
section
open PySem.MeetsSeq PySem.MeetsSeq2 PySem.MeetsSeq3 PySem.AutoSeq1
def MV (l:Addr)(xs:Array Value)(n:Nat)(b:Addr)(ys:Array Value)(n2:Nat)(sl:Array (Option Value))(hc0:¬(!xs.isEmpty&&aCn (xs.size+ys.size))=true)(za:xs.size<=sizeLine)(hs2:xs.size+ys.size<=sizeLine+1):
  Meets (Builtin.«list.extend» ⟨[.ref l,.ref b],[]⟩) (λ_ R s=>s.heap.get? l=some ⟨.type "list",none,.seq xs n,#[]⟩/\s.heap.get? b=some ⟨.type "list",none,.seq ys n2,sl⟩/\R (.ok (.ret Value.none)) {s with heap:=s.heap.update l (aBp λx=>x++ys),toks:=s.toks}):=
 .of_wp λprog w A R s q=>by
  obtain⟨hp,g,d,tk,os⟩:=s;obtain⟨q1,q2,q3⟩:=q;have g1:=idx_int;have g2:=sub_tuple_tuple;have g3:=sub_list_list;have g4:=sub_tuple_list;have g5:=sub_list_tuple;have z:(xs++ys).size<=sizeLine+1:=by rw[Array.size_append];exact hs2
  wp_walk using(aBT q1 rfl (hz:=za) (_hz':=z)),aEm q1,aEm q2
  exact⟨_,rfl,q3⟩
end
section
def oq (K:PySem.W.Frag):V->List V->Hp->VK->Prop:=λx vs H Q=>∃l b xs zs,x=.ref l/\vs=[.ref b]/\H l=some (.lst xs)/\O6 K H b zs/\xs.length+zs.length<=sizeLine/\Q .non (upd H l<|.lst (xs++zs))
def fj:MtM X "list.extend" (oq X.K):=by
 intro pins s σ H x vs v us Q I rx rv h;obtain⟨l,b,xs,zs,rfl,rfl,hH,hB,hz,q⟩:=h;cases rx;obtain⟨u,rfl,ru⟩:=rv.one;cases ru;obtain⟨z,its,n,r,hl,e⟩:=I.ae2 hH;obtain⟨me,r2,⟨⟨cl2,wu,da2,vm⟩,n2,e2,c2,d2,s2⟩,z2⟩:=I.list hB;simp only at c2 d2 s2;subst c2 d2 s2;have ko:=r2.length;have iu:its.toArray.size+me.toArray.size<=sizeLine:=by rw[aAl,aAl];lia
 have xf:¬(!its.toArray.isEmpty&&aCn (its.toArray.size+me.toArray.size))=true:=by rw[zM iu,aFK];exact aAL
 refine aFA F.slot_list_extend ⟨_,e,rfl⟩ F.entry_list_extend (F.args_list_extend_2 _ _) (MV l its.toArray n b me.toArray n2 vm xf (by rw[aAl];lia) (by lia)) ⟨e,e2,?_⟩;refine⟨.non,_,I.af6 (its':=its++me) hH e (by simp) (r.append r2) ?_,rfl,q⟩;rw[aAD]
 lia
end
variable [Tabs]
section
def zW (i:Nat)(he:PD X e f)(hN:X.N[i]?=some x:=by rfl)(hv:sF X.env.scope x:=by first|exact aBY rfl|exact aBk (aBY rfl)|exact aBk (aBk rfl))(hd:(x==("__debug__":Str))=false:=by decide)(eu:(x==("__classdict__":Str))=false:=by decide)(ie:attributeBase (.Name x p) "extend" X.env (eval (.Name x p) X.env)=eval (.Name x p) X.env:=by rfl)(xc:((backTo bp (starEach [e] X.env)).all (λx=>!x.1)&&(backToKw bp (keywordEach [] X.env)).all (λx=>x.1.isSome)
   &&decide ([e].length+([]:List Keyword).length+(if([]:List Keyword).isEmpty then 0 else 1)<30))=true:=by rfl) (fg:(apos.endLine==bp.line)=true:=by rfl) (hs:starEach [e] X.env=(false,eval e X.env)::starEach [] X.env:=by rfl) (kl:(backTo bp (starEach [] X.env)).any (·.1)=false:=by rfl) (zr:swapsWith (.Call (.Attribute (.Name x p) "extend" apos) [e] [] bp) none pos.line X.env=pure false:=by rfl):
  jD X (.Expr (.Call (.Attribute (.Name x p) "extend" apos) [e] [] bp) pos) (λρ=>(f ρ).bind (gj i ρ)):=λHa O0=>
 ED (nF (XD PySem.F.plainAttrs_list PySem.F.slot_list_extend PySem.F.type_list_extend fj (M6 hN hv hd eu) (c8 he j5 hs) ie xc fg hs kl) zr) λD σ H O ρ E fk q=>by
 cases e1:f ρ with
 |ok d=>
  rw[e1,R.aa0]at q;unfold gj at q;cases e2:ρ[i]? with
  |none=>rw[e2]at q;exact aAg q
  |some sl=>
   rw[e2]at q;cases sl with
   |x C=>exact aAg q
   |c m φ=>exact aAg q
   |d kvs=>exact aAg q
   |no=>exact aAg q
   |v d=>exact aAg q
   |o xs=>
    cases d with
    |lst ys=>
     dsimp only at q;split at q
     ·rename_i hz;obtain⟨a,vs,h1,h2,h3,h4,h5⟩:=E.own i xs e2;refine⟨_,h1,.inl ⟨rfl,vs,O6.of h4⟩,Ha,O0,O,ρ,E,?_⟩;show GJ X H O ((f ρ).bind λd=>(R.ok []).bind λds=>.ok (d::ds)) _;rw[e1];intro us H1 s1 r1;cases r1 with
      |cons r1 rn=>
       cases rn;have E1:=E.grow s1;cases r1 with
       |lst hb nb rb=>refine⟨a,_,vs,_,rfl,rfl,s1 _ _ h4,hb,by rw[h5.length,rb.length];exact hz,?_⟩;obtain⟨E2,k2⟩:=E1.write e2 h1 ((h5.same s1).append rb);exact q σ _ O E2 fk ((Kp.of s1).trans k2)
     ·exact aAg q
    |_=>exact aAg q
 |ex x=>
  rw[e1]at q;cases e2:ρ[i]? with
  |none=>exact(q H E.same).elim
  |some sl=>exact(q H E.same).elim
 |bad=>rw[e1]at q;exact aAg q
end
end DL
namespace TS
open PySem PyProof.Rows HT
section
def FP (A:Around)(s:Shared)(x y:Value)(b:Bool):Prop:=∀(prog:Program) (w:World) (E:F1) (Q:wN),Q b s->wpAny (model prog w) A (oneLt' false x y) Q E s
def lt_two {Q:wN}(hl:IsTup s.heap l #[p,r])(hb:IsTup s.heap b #[p',r'])(hf:f=false)(h1:SeqAt.EqAt A s p p' e1)(h2:e1=false->FP A s p p' b1)(h3:e1=true->SeqAt.EqAt A s r r' e2)(h4:e1=true->e2=false->FP A s r r' b2)(q:Q (bif e1 then(bif e2 then false else b2)else b1) s):wpAny (model prog w) A (keyLt' (tupK f) (.ref l) (.ref b)) Q E s:=by
 obtain⟨o,ho,hc,n,hd⟩:=hl;obtain⟨o2,lu,ki,n2,hd2⟩:=hb;subst hf;rw[sM];refine aAa (aDW ho hd<|aAa<|aDW lu hd2 ?_);show wpAny _ _ (forIn [((p,p'),0),((r,r'),1)] _ _>>=_) _ _ _;rw[aCS];refine aAa (aAa ?_);refine aAa (h1 _ _ _ _ ?_);cases e1 with
 |false=>refine aAa (h2 rfl _ _ _ _ ?_);exact aAb (aAb<|aAb q)
 |true=>
  refine aAb ?_;dsimp only;rw[aCS];refine aAa ?_;refine aAa (h3 rfl _ _ _ _ ?_);cases e2 with
  |false=>refine aAa (h4 rfl rfl _ _ _ _ ?_);exact aAb (aAb<|aAb q)
  |true=>refine aAb ?_;dsimp only;rw[aDQ];exact aAb (aAb q)
def PR (h:∀(prog:Program) (w:World) (E:F1) (Q:F1),Q (.bool b) s->wpAny (model prog w) A (richCompare .Lt x y) Q E s):FP A s x y b:=λprog w E Q q=>by rw[oneLt'_eq];simp only[aAt,if_false];exact aAa (h prog w _ _<|aBe q)
def oneLt_tup (hl:IsTup s.heap l items)(hb:IsTup s.heap b bf)(hi:IntsAre items.toList ns)(hj:IntsAre bf.toList ms)(hu:A.units<cLine):FP A s (.ref l) (.ref b) (HT.lexLt ns ms):=
 PR λprog w E Q q=>HT.lt_tupInts hl hb hi hj hu q
end
end TS
namespace DL
open PySem PySem.Spec L2
open PyProof.Rows hiding St
def tZ (k:D->List Int)(d:D):List D->List D
 |[]=>[d]
 |x::xs=>if HT.lexLt (k d) (k x)=true then d::x::xs else x::tZ k d xs
def oP (k:D->List Int)(ds:List D):List D:=ds.foldr (tZ k) []
def uI (k:D->List Int)(ds:List D):Prop:=ds.Pairwise λx y=>HT.lexLt (k x) (k y)=true
theorem kS (k:D->List Int)(d:D):∀xs:List D,(tZ k d xs).Perm (d::xs)
 |[]=>.refl _
 |x::xs=>by
  unfold tZ;split
  ·exact .refl _
  ·exact((kS k d xs).cons x).trans (.swap d x xs)
theorem W6 (k:D->List Int):∀ds:List D,(oP k ds).Perm ds
 |[]=>.refl _
 |d::ds=>(kS k d (oP k ds)).trans ((W6 k ds).cons d)
theorem wV:∀{xs:List D},uI k xs->(∀x∈xs,k x≠k d)->uI k (tZ k d xs)
 |[],_,_=>aDG _ _
 |x::xs,h,n=>by
  have h1:=aAy.mp h;unfold tZ;split
  ·rename_i lt;refine aAy.mpr ⟨λy hy=>?_,h⟩;rcases aAe.mp hy with rfl|hy
   ·exact lt
   ·exact TS.lex_trans _ _ _ lt (h1.1 y hy)
  ·rename_i nlt;refine aAy.mpr ⟨λy hy=>?_,wV h1.2 λz hz=>n z (.tail _ hz)⟩;rcases aAe.mp ((kS k d xs).mem_iff.mp hy)with rfl|hy
   ·cases q:HT.lexLt (k x) (k y)with
    |true=>rfl
    |false=>exact absurd (TS.lex_total _ _ q (by simpa using nlt)) (n x<|.head _)
   ·exact h1.1 y hy
theorem kT:∀{ds:List D},(ds.map k).Nodup->uI k (oP k ds)
 |[],_=>.nil
 |d::ds,h=>by rw[aAu,aAM]at h;refine wV (kT h.2) λx hx e=>h.1 ?_;rw[<-e];exact aDA ((W6 k ds).mem_iff.mp hx)
theorem lN:∀{xs ys:List D},uI k xs->uI k ys->xs.Perm ys->xs=ys
 |[],ys,_,_,p=>(List.nil_perm.mp p).symm
 |x::xs,[],_,_,p=>by have:=p.length_eq;simp at this
 |x::xs,y::ys,h1,h2,p=>by
  have a1:=aAy.mp h1;have a2:=aAy.mp h2;have exy:x=y:=by
   rcases aAe.mp (p.mem_iff.mp<|.head _)with q|q
   ·exact q
   ·rcases aAe.mp (p.mem_iff.mpr<|.head _)with q2|q2
    ·exact q2.symm
    ·have:=TS.lex_trans _ _ _ (a2.1 x q) (a1.1 y q2);rw[TS.lex_irrefl]at this;cases this
  subst exy;rw[lN a1.2 a2.2 ((List.perm_cons x).mp p)]
def VM [Tabs]{R:Value->D->Prop}{key:Value->List Int}{k:D->List Int}{us:List Value}{ds:List D}(st:Paired R us ds)(srt:us.Pairwise λx y=>HT.lexLt (key y) (key x)=false)(nd:(ds.map k).Nodup)(hk:∀u d,R u d->d∈ds->key u=k d):uI k ds:=by
 induction st with
 |nil=>exact .nil
 |@cons u d us ds r t ih=>
  have n1:=aAM.mp nd;have s1:=aAy.mp srt;refine aAy.mpr ⟨λe he=>?_,ih s1.2 n1.2 λu d h hd=>hk u d h (.tail _ hd)⟩;obtain⟨j,hj,rfl⟩:=aBi he;have wc:j<us.length:=by rw[t.length];exact hj
  obtain⟨d',mh,qf⟩:=J5 t (aAi wc);rw[aAi hj]at mh;cases mh;have l:=s1.1 us[j] (aBV wc);rw[hk _ _ qf (.tail _ (aBV hj)),hk u d r (.head _)]at l;cases z:HT.lexLt (k d) (k ds[j])with
  |true=>rfl
  |false=>exact absurd (aAp.mpr ⟨ds[j],aBV hj,(TS.lex_total _ _ z l).symm⟩) n1.1
def ij:D->Bool
 |.tup [p,.lst _]=>cF p
 |_=>false
def T0:D->List Int
 |.tup (p::_)=>D5 p
 |_=>[]
def fy (h:ij d=true):∃p r,d=.tup [p,.lst r]/\cF p=true/\T0 d=D5 p:=by
 unfold ij at h;split at h
 ·exact⟨_,_,rfl,h,rfl⟩
 ·cases h
def yq:D->R (List D)
 |.lst ds=>if ds.all ij=true/\(ds.map T0).Nodup/\ds.length<=63 then .ok (oP T0 ds)else .bad
 |_=>.bad
variable [Tabs]
def FV (h:Heap)(u:Value)(l:List Int):Prop:=∃b p r d,u=.ref b/\IsTup h b #[p,r]/\cF d=true/\HV h p d/\D5 d=l
def FV.inj (x:FV h u l)(y:FV h u l'):l=l':=by obtain⟨b,p,r,d,rfl,⟨o,g,_,n,dd⟩,_,hv,rfl⟩:=x;obtain⟨b',p',r',d',e,⟨o',g',_,n',zu⟩,_,hv',rfl⟩:=y;cases e;rw[g]at g';cases g';rw[dd]at zu;injection zu with e1 _;have e2:=congrArg aFp e1;simp only[aFy]at e2;obtain⟨rfl,_⟩:=e2;rw[HV.inj hv hv']
def HK (h:Heap) (u:Value):List Int:=open Classical in if p:∃l,FV h u l then p.choose else[]
def iM (x:FV h u l):HK h u=l:=by unfold HK;rw[dif_pos ⟨l,x⟩];exact FV.inj (Exists.choose_spec (⟨l,x⟩:∃l,FV h u l)) x
section
def OD (I:Inv X pins σ H s)(r:Rep X.K H O v d)(h:ij d=true)(ru:RelV v u):FV s.heap u (T0 d):=by
 obtain⟨p,ring,rfl,hp,hk⟩:=fy h;cases r with
 |tup q rr=>
  cases ru;obtain⟨its,rv,ht,_⟩:=I.tuple q;cases rr with
  |cons r1 rr=>
   cases rr with
   |cons r2 rr=>
    cases rr;cases rv with
    |cons v1 rv=>
     cases rv with
     |cons v2 rv=>cases rv;exact⟨_,_,_,p,rfl,ht,hp,dN I r1 (V0 hp) v1,hk.symm⟩
end
section
def BK (ha:PB X e f)(hh:X.calm=true)(hu:X.A.units+300<cLine)(hg:Gl X "sorted":=by rfl)(hm:X.mg "sorted"=none:=by assumption)(hv:bootBuiltins "sorted"=some (.builtin "sorted"):=by decide+kernel)(he:starEach [e] X.env=(false,eval e X.env)::starEach [] X.env:=by rfl)(bh:(backTo pos (starEach [] X.env)).any (·.1)=false:=by rfl):
  PF X (.Call (.Name "sorted" p) [e] [] pos) (λρ=>(f ρ).bind yq):=by
 refine qO λpins s σ H Q I Ha O0 O ρ E q=>?_;dsimp only at q;refine aAP (P6 I hg hm hv ?_ (by decide) (by decide));have tf:PA X [e] _:=J8 ha cC he;refine aBF (D4 (tf pos pins s σ H (λvs H1=>∃v ds,vs=[v]/\f ρ=.ok (.lst ds)/\Same H H1/\C0 X.K H1 O v (.lst ds)) I ⟨Ha,O0,O,ρ,E,?_⟩) λus s1 ⟨vs,H1,I1,r1,v,ds,ev,ef,sm,rb⟩=>?_) he bh
 ·cases e1:f ρ with
  |ex z=>rw[e1]at q;exact q
  |bad=>rw[e1]at q;exact q.elim
  |ok d=>
   rw[e1,R.aa0]at q;cases d with
   |lst ds=>exactλv H1 s1 r1=>⟨v,ds,rfl,rfl,s1,r1⟩
   |_=>exact aAg q
 ·subst ev;rw[ef,R.aa0]at q;obtain⟨a,ws,rfl,hS,rr⟩:=rb.aa4;obtain⟨u,rfl,ru⟩:=vals1 r1;cases ru;obtain⟨its,rv,⟨oL,nL,gL,cL,dL,sL⟩,zL⟩:=I1.list hS;have hl:s1.heap.IsList a its.toArray:=⟨oL,gL,cL,nL,sL⟩;simp only[yq]at q;by_cases hc:ds.all ij=true/\(ds.map T0).Nodup/\ds.length<=63
  ·rw[if_pos hc]at q;obtain⟨qm,nd,h63⟩:=hc;have fc:∀d∈ds,ij d=true:=aBz.mp qm;have st:A0 X.K H1 O its ds:=A0.of rv rr;have hlen:its.length=ds.length:=st.length;have each:∀u∈its,∃i d,its[i]?=some u/\ds[i]?=some d/\FV s1.heap u (T0 d):=λu hu=>by obtain⟨i,hi,rfl⟩:=aBi hu;obtain⟨d,hd,w,ud,rp⟩:=J5 st (aAi hi);exact⟨i,d,aAi hi,hd,OD I1 rp (fc d<|aAs hd) ud⟩
   have keq:∀u∈its,∀u'∈its,HK s1.heap u=HK s1.heap u'->u=u':=λu hu u' bo e=>by
    obtain⟨i,d,hi,hd,fv⟩:=each u hu;obtain⟨j,d',hj,mh,fv'⟩:=each u' bo;rw[iM fv,iM fv']at e;have eij:i=j:=by obtain⟨li,ei⟩:=aAz.mp hd;obtain⟨lj,ej⟩:=aAz.mp mh;refine(List.getElem_inj (xs:=ds.map T0) (i:=i) (j:=j) (h₀:=by simpa using li) (h₁:=by simpa using lj) nd).mp ?_;rw[aEa,aEa,ei,ej];exact e
    subst eij;rw[hi]at hj;cases hj;rfl
   refine TS.sorted_keys (vs:=its) (f:=false) (key:=HK s1.heap) (C:=λs'=>∃h',s'={s1 with heap:=h'}/\∀b o,s1.heap.get? b=some o->h'.get? b=some o)
    (λ{Q'} hq=>collect_list hl (hq _ ⟨_,rfl,λb o e=>?_⟩) (by rw[hlen];exact aAr h63 (by decide)))
    (λs' ⟨h',es',k⟩ s6 k6 x hx y hy prog w A E hA {Q} qq=>?_) (λh2 s' ⟨h',es',k⟩ s6 k6 A {Q} qq=>?_) (by rw[hlen];lia) λs' ja h' l ⟨h1,es',k⟩ pm srt k2 hl ⟨n,gl⟩=>?_
   ·exact(aAA _ _<|aCh<|aAk<|aAf e).trans (aAc _ e)
   ·subst es';have kk:∀b o,s1.heap.get? b=some o->s6.heap.get? b=some o:=λb o e=>k6 b o (k b o e);obtain⟨i,d,hi,hd,fv⟩:=each x hx;obtain⟨j,d',hj,mh,fv'⟩:=each y hy;have kx:=iM fv;have ky:=iM fv';have eqk:=keq x hx y hy;rw[kx,ky]at qq;rw[kx,ky]at eqk;obtain⟨b,p1,r1,d1,rfl,⟨o,g,c,n,dd⟩,hp1,hv1,e1⟩:=fv;obtain⟨b',p2,r2,d2,rfl,⟨o',g',c',n',zu⟩,hp2,hv2,e2⟩:=fv';have hv1':HV s6.heap p1 d1:=hv1.keeps λb o e _=>kk b o e;have hv2':HV s6.heap p2 d2:=hv2.keeps λb o e _=>kk b o e;have hA':A.units+8<cLine:=by lia
    obtain⟨c1,i1,rfl,t1,ia1⟩:=bG hp1 hv1';obtain⟨c2,i2,rfl,t2,ia2⟩:=bG hp2 hv2';rw[<-e1,<-e2]at qq eqk;refine TS.lt_two (e1:=w5 d1 d2) (e2:=true) (b1:=HT.lexLt (D5 d1) (D5 d2)) (b2:=false) ⟨o,kk _ _ g,c,n,dd⟩ ⟨o',kk _ _ g',c',n',zu⟩ rfl (EW hv1' hv2' (by have:=uE hp1;lia)) (λ_=>TS.oneLt_tup t1 t2 ia1 ia2 (by lia)) (λeq=>?_) (λ_ z=>by cases z) ?_
    ·have ed:=iQ (V0 hp1) (V0 hp2) eq;have er:=eqk (by rw[ed]);cases er;rw[g]at g';cases g';rw[dd]at zu;injection zu with e3 _;have e4:=congrArg aFp e3;simp only[aFy]at e4;rw[e4.2.1];exact aDF _
    ·cases z:w5 d1 d2 with
     |false=>exact qq
     |true=>have ed:=iQ (V0 hp1) (V0 hp2) z;rw[ed,TS.lex_irrefl]at qq;exact qq
   ·subst es';have kk:∀b o,s1.heap.get? b=some o->s6.heap.get? b=some o:=λb o e=>k6 b o (k b o e);have sg:∀x∈its,∃p,∃b items,x=.ref b/\IsTup s6.heap b items/\items[0]?=some p/\s6.TypeIs p "tuple":=λx hx=>by obtain⟨i,d,hi,hd,fv⟩:=each x hx;obtain⟨b,p1,r1,d1,rfl,⟨o,g,c,n,dd⟩,hp1,hv1,e1⟩:=fv;have hv1':HV s6.heap p1 d1:=hv1.keeps λb o e _=>kk b o e;obtain⟨c1,i1,rfl,⟨o1,g1,cc1,_⟩,ia1⟩:=bG hp1 hv1';exact⟨_,b,_,rfl,⟨o,kk _ _ g,c,n,dd⟩,rfl,⟨o1,g1,cc1⟩⟩
    obtain⟨gf,hgf⟩:∃gf:Value->Value,∀x∈its,∃b items,x=.ref b/\IsTup s6.heap b items/\items[0]?=some (gf x)/\s6.TypeIs (gf x) "tuple":=by refine⟨λx=>open Classical in if z:x∈its then(sg x z).choose else .none,λx hx=>?_⟩;dsimp only;rw[dif_pos hx];exact(sg x hx).choose_spec
    exact TS.kind_tuples (T:= "tuple") gf hgf (λz=>by rw[z]at h2;simp at h2) (by decide) qq
   ·subst es';obtain⟨ua,p2,lh⟩:=dU pm st;have hk:∀u d,(∃v,RelV v u/\Rep X.K H1 O v d)->d∈ds->HK s1.heap u=T0 d:=λu d ⟨v,rv,rp⟩ hd=>iM (OD I1 rp (fc d hd) rv);have nd2:(ua.map T0).Nodup:=(p2.map T0).nodup_iff.mpr nd;have srt2:uI T0 ua:=VM (R:=λu d=>∃v,RelV v u/\Rep X.K H1 O v d) lh srt nd2 λu d h hd=>hk u d h (p2.mem_iff.mp hd);have e2:ua=oP T0 ds:=lN srt2 (kT nd) (p2.trans (W6 T0 ds).symm);subst e2;obtain⟨wv,ud,qf⟩:=A0.ac5 lh;have I2':=I1.kept (h':=h1) (t':=s1.toks) k;have I3:=I2'.laid (a:=l) (o:=.lst wv) (h':=h') (t':=s1.toks) k2 hl ⟨by rw[qf.length,(W6 T0 ds).length_eq];exact aAr h63 (by decide),ja,n,ud,gl⟩;exact⟨.ref l,_,I3,rfl,q wv _ l sm (I2'.hok.fresh hl) qf⟩
  ·rw[if_neg hc]at q;exact q.elim
end
end DL
namespace DL
open PySem PySem.Spec L2
open PyProof.Rows hiding St
variable [Tabs]
section
def MD (K:PySem.W.Frag)(mg:Y0)(x:Str)(ns:List Int):Prop:=∃a dd its n sl,mg x=some (.ref a)/\K.lookup a=some ⟨.type "tuple",dd,.seq its n,sl⟩/\l8 (ns.map V.int) its.toList/\its.size<=sizeLine
omit [Tabs]in
def YA {K:PySem.W.Frag}{mg:Y0}{x:Str}{a:Addr}{dd:Option Addr}{n:Nat}{sl:Array (Option Value)}{i j k:Int}{t u v:Tok}(hm:mg x=some (.ref a))(hk:K.lookup a=some ⟨.type "tuple",dd,.seq #[.int i t,.int j u,.int k v] n,sl⟩):MD K mg x [i,j,k]:=
 ⟨a,dd,_,n,sl,hm,hk,.cons ⟨t,rfl⟩ (.cons ⟨u,rfl⟩ (.cons ⟨v,rfl⟩ .nil)),show 3<=sizeLine by decide⟩
def wH (c:MD X.K X.mg x ns)(hg:Gl X x:=by rfl)(de:(x==("__debug__":Str))=false:=by decide):PD X (.Name x pos) (BV (.tup (ns.map D.int))):=by obtain⟨a,dd,its,n,sl,hm,hk,hi,hz⟩:=c;exact JE hm hk hi hz hg de
end
end DL
namespace DL
open PySem PySem.Spec L2
open PyProof.Rows hiding St
theorem bR {α β:Type}[BEq α][LawfulBEq α]:∀{l:List (α×β)} {a:α} {b:β},(l.map (·.1)).Nodup->(a,b)∈l->l.lookup a=some b
 |(x,y)::l,a,b,h,hm=>by
  rw[aAu,aAM]at h;rw[aAV];rcases aAe.mp hm with e|md
  ·cases e;simp
  ·have:(a==x)=false:=by rw[beq_eq_false_iff_ne];rintro rfl;exact h.1 (aAp.mpr ⟨(a,b),md,rfl⟩)
   rw[this];exact bR h.2 md
theorem mem_lookup {α β:Type}[BEq α][LawfulBEq α]:∀{l:List (α×β)} {a:α} {b:β},l.lookup a=some b->(a,b)∈l
 |(x,y)::l,a,b,h=>by
  rw[aAV]at h;split at h
  ·rename_i q;cases h;rw[eq_of_beq q];exact .head _
  ·exact .tail _ (mem_lookup h)
def vV (o:Obj):Prop:=∃v,o.data=.cell v
def cK (H:Hp)(cs:M5):Hp:=λb=>match cs.lookup b with
 |some o=>some (.frz o (.own b))
 |none=>H b
def Q6 (H:Hp)(cs:M5):Hp:=λb=>match cs.lookup b with
 |some _=>none
 |none=>H b
section
variable{K:PySem.W.Frag}
def eV (e:cs.lookup b=some o):cK H cs b=some (.frz o (.own b)):=by unfold cK;rw[e]
def Q8 (e:cs.lookup b=none):cK H cs b=H b:=by unfold cK;rw[e]
def bX (e:cs.lookup b=some o):Q6 H cs b=none:=by unfold Q6;rw[e]
def N8 (e:cs.lookup b=none):Q6 H cs b=H b:=by unfold Q6;rw[e]
def F7 (hn:∀b o,cs.lookup b=some o->H b=none)(e:H b=some u):cK H cs b=some u:=by
 cases q:cs.lookup b with
 |none=>rw[Q8 q];exact e
 |some o=>rw[hn b o q]at e;cases e
def fJ (hn:∀b o,cs.lookup b=some o->H b=none):Same H (cK H cs):=λb u e=>F7 hn e
def w9 (hn:∀b o,cs.lookup b=some o->H b=some (.frz o (.own b)))(e:H b=some u)(ne:∀o,cs.lookup b=some o->u≠.frz o (.own b)):Q6 H cs b=some u:=by
 cases q:cs.lookup b with
 |none=>rw[N8 q];exact e
 |some o=>rw[hn b o q]at e;cases e;exact absurd rfl (ne o q)
def LA (x:aM P w H h)(hc:∀b o,cs.lookup b=some o->h.get? b=some o/\H b=none):aM P w (cK H cs) h:=λb u e=>by
 have hn:∀b o,cs.lookup b=some o->H b=none:=λb o q=>(hc b o q).2;cases q:cs.lookup b with
 |some o=>rw[eV q]at e;cases e;exact⟨(hc b o q).1,⟨o,(hc b o q).1⟩⟩
 |none=>rw[Q8 q]at e;exact(x b u e).ab4 (λ_ _ _ z=>z) (λc z=>F7 hn z) λc u _ z=>F7 hn z
def LO (x:aM P w H h)(hc:∀b o,cs.lookup b=some o->H b=some (.frz o (.own b))/\vV o):aM P w (Q6 H cs) h:=λb u e=>by
 have hn:∀b o,cs.lookup b=some o->H b=some (.frz o (.own b)):=λb o q=>(hc b o q).1;cases q:cs.lookup b with
 |some o=>rw[bX q]at e;cases e
 |none=>rw[N8 q]at e;refine(x b u e).ab4 (λ_ _ _ z=>z) (λc z=>w9 hn z λo _ z'=>by cases z') λc u f z=>w9 hn z λo q z'=>?_;subst z';obtain⟨vs,e1⟩:=f;obtain⟨v,e2⟩:=(hc c o q).2;rw[e1]at e2;cases e2
def gk (U:Un fs [] (cK H cs) H2 h h')(k:aM P w H2 h')(hc:∀b o,cs.lookup b=some o->h.get? b=some o/\H b=none/\vV o):Un fs [] H (Q6 H2 cs) h h'/\aM P w (Q6 H2 cs) h'/\∀b o,cs.lookup b=some o->H2 b=some (.frz o (.own b)):=by
 have hn:∀b o,cs.lookup b=some o->H b=none:=λb o q=>(hc b o q).2.1;have h2:∀b o,cs.lookup b=some o->H2 b=some (.frz o (.own b)):=λb o q=>U.frzs b o _ (eV q);refine⟨⟨λb o e n hb hx=>?_,λb o e n hb hx=>?_,λb o e n hx=>?_,λb o e hx=>U.there b o e hx,λb xs e=>?_,λb o u e=>?_,λb tb e=>?_⟩,LO k λb o q=>⟨h2 b o q,(hc b o q).2.2⟩,h2⟩
 ·cases q:cs.lookup b with
  |none=>exact U.keep b o e (by rw[Q8 q];exact n) hb hx
  |some o'=>have:=(hc b o' q).1;rw[e]at this;cases this;exact(k b _<|h2 b o q).1
 ·cases q:cs.lookup b with
  |none=>exact U.slot b o e (by rw[Q8 q];exact n) hb hx
  |some o'=>have:=(hc b o' q).1;rw[e]at this;cases this;exact⟨o.slots,(k b _<|h2 b o q).1⟩
 ·cases q:cs.lookup b with
  |none=>rw[N8 q];exact U.free b o e (by rw[Q8 q];exact n) hx
  |some o'=>exact bX q
 ·exact w9 h2 (U.tups b xs<|F7 hn e) λo _ z=>by cases z
 ·refine w9 h2 (U.frzs b o u<|F7 hn e) λo' q z=>?_;rw[hn b o' q]at e;cases e
 ·exact w9 h2 (U.tbls b tb<|F7 hn e) λo _ z=>by cases z
def YU (U:Un fs [] (Q6 H cs) H2 h h')(k:aM P w H2 h')(hc:∀b o,cs.lookup b=some o->h.get? b=some o/\H b=some (.frz o (.own b))/\b∉fs):Un fs [] H (cK H2 cs) h h'/\aM P w (cK H2 cs) h'/\Same H2 (cK H2 cs):=by
 have hn:∀b o,cs.lookup b=some o->H b=some (.frz o (.own b)):=λb o q=>(hc b o q).2.1;have h2:∀b o,cs.lookup b=some o->H2 b=none:=λb o q=>U.free b o (hc b o q).1 (bX q) (by simp);have h3:∀b o,cs.lookup b=some o->h'.get? b=some o:=λb o q=>U.keep b o (hc b o q).1 (bX q) (hc b o q).2.2 (by simp);have out:∀b,H b=none->cs.lookup b=none:=λb n=>by
  cases q:cs.lookup b with
  |none=>rfl
  |some o=>rw[hn b o q]at n;cases n
 refine⟨⟨λb o e n hb hx=>U.keep b o e (by rw[N8 (out b n)];exact n) hb hx,λb o e n hb hx=>U.slot b o e (by rw[N8 (out b n)];exact n) hb hx,λb o e n hx=>?_,λb o e hx=>U.there b o e hx,λb xs e=>?_,λb o u e=>?_,λb tb e=>?_⟩,
  LA k λb o q=>⟨h3 b o q,h2 b o q⟩,fJ h2⟩
 ·rw[Q8 (out b n)];exact U.free b o e (by rw[N8 (out b n)];exact n) hx
 ·exact F7 h2 (U.tups b xs (w9 hn e λo _ z=>by cases z))
 ·cases q:cs.lookup b with
  |none=>exact F7 h2 (U.frzs b o u (by rw[N8 q];exact e))
  |some o'=>rw[hn b o' q]at e;cases e;exact eV q
 ·exact F7 h2 (U.tbls b tb (w9 hn e λo _ z=>by cases z))
def EK (hn:∀b o,cs.lookup b=some o->H b=some (.frz o (.own b)))(q:X7 K H a xs):X7 K (Q6 H cs) a xs:=by
 rcases q with(q|⟨o,q⟩)|q
 ·exact .inl (.inl (w9 hn q λo _ z=>by cases z))
 ·exact .inl (.inr ⟨o,w9 hn q λo _ z=>by cases z⟩)
 ·exact .inr q
def EI (hn:∀b o,cs.lookup b=some o->H b=some (.frz o (.own b)))(q:O6 K H a xs):O6 K (Q6 H cs) a xs:=by
 rcases q with(q|⟨o,q⟩)|q
 ·exact .inl (.inl (w9 hn q λo _ z=>by cases z))
 ·exact .inl (.inr ⟨o,w9 hn q λo _ z=>by cases z⟩)
 ·exact .inr q
def FY {cs:M5}{φ:Heap->Prop}(hn:∀b o,cs.lookup b=some o->H b=some (.frz o (.own b)))(q:H b=some (.ext φ)):Q6 H cs b=some (.ext φ):=by
 unfold Q6;cases e:cs.lookup b with
 |none=>simpa[e]using q
 |some o=>have:=hn b o e;rw[q]at this;cases this
def Rep.hid (hn:∀b o,cs.lookup b=some o->H b=some (.frz o (.own b)))(r:Rep K H O v d):Rep K (Q6 H cs) O v d:=r.mono (λ_ _ q=>EK hn q) (λ_ _ n q=>⟨n,EI hn q⟩) λb φ n q=>⟨n,FY hn q⟩
def Reps.hid (hn:∀b o,cs.lookup b=some o->H b=some (.frz o (.own b)))(r:Reps K H O v d):Reps K (Q6 H cs) O v d:=r.mono (λ_ _ q=>EK hn q) (λ_ _ n q=>⟨n,EI hn q⟩) λb φ n q=>⟨n,FY hn q⟩
end
variable [Tabs]
section
variable(P:Program) (w:World) (K:PySem.W.Frag) (mg:Y0) (base:Heap) (k:Nat)
def JM (n:Nat)(m:List D->R D)(H:Hp)(O:Addr->Prop)(a:Addr):Prop:=
 (∃oc od fd sl,H a=some (.frz ⟨oc,od,.func fd,sl⟩ (.own a)))/\
 ∀(A:Around) (outer:List Env) (s:Shared) (us:List Value) (vs:List V) (ds:List D) (d:D) (Q:VK) (E:XK),Room k A->Env0 P w K mg base A outer s H->l8 vs us->Reps K H O vs ds->ds.length=n->(∀a,O a->∃o,H a=some o/\Mt o)->Tb H->S6 K O->m ds=.ok d->
  (∀v H',Same H H'->Rep K H' O v d->Q v H')->codeAny (model P w) A (.call (.ref a) ⟨us,[]⟩) (CR vE outer P w H s Q E) s
end
open Classical in
def callC (Φ:(List D->R D)->Hp->(Addr->Prop)->Addr->Prop) (i:Nat) (f:Ev->R (List D)):Ev->R D:=λρ=>match ρ[i]? with
 |some (.c m φ)=>if φ=Φ m then(f ρ).bind m else .bad
 |_=>.bad
section
def PZ (i:Nat)(ha:qH X (e::es) f)(hl:yD f n)(hr:Room k X.A)(hN:X.N[i]?=some x:=by rfl)(hv:sF X.env.scope x:=by first|exact aBY rfl|exact aBk (aBY rfl)|exact aBk (aBk rfl))(hd:(x==("__debug__":Str))=false:=by decide)(eu:(x==("__classdict__":Str))=false:=by decide)(he:starEach (e::es) X.env=(false,eval e X.env)::starEach es X.env:=by rfl)(bh:(backTo pos (starEach es X.env)).any (·.1)=false:=by rfl):
  PD X (.Call (.Name x p) (e::es) [] pos) (callC (JM X.prog X.w X.K X.mg X.base k n) i f):=by
 refine qO λpins s σ H Q I Ha O0 O ρ E q=>?_;unfold callC at q;cases e1:ρ[i]? with
 |none=>rw[e1]at q;exact q.elim
 |some sl=>
  rw[e1]at q;cases sl with
  |c m φ=>
   dsimp only at q;split at q
   ·rename_i hφ;subst hφ;obtain⟨a,h1,h2⟩:=E.slot i _ e1;obtain⟨⟨oc,od,fd,sl,hf⟩,_⟩:=h2 H O (Kp.refl _ _);refine aAP (D4 (M6 hN hv hd eu pins s σ H (λv H'=>v=.ref a/\H'=H) I ⟨_,h1,rfl,rfl⟩) λu s1 ⟨v,H1,I1,r1,ev,eH⟩=>?_);subst ev eH;obtain rfl:u=aDb a:=r1;refine PySem.W.callWith_F ⟨oc,od,fd,sl,(I1.hok a _ hf).1⟩ (D4 (ha pos pins s1 σ H1 _ I1 ⟨Ha,O0,O,ρ,E,GJ.seq q⟩) λus s2 ⟨vs,H2,I2,rv,ds,e2,sm,rr,qq⟩=>⟨⟨oc,od,fd,sl,(I2.hok a _<|sm _ _ hf).1⟩,?_⟩) he bh;cases e3:m ds with
    |ex z=>rw[e3]at qq;exact(qq H2<|Same.refl _).elim
    |bad=>rw[e3]at qq;exact qq.elim
    |ok d=>
     rw[e3]at qq;have E2:=E.grow sm;refine aFz (aDl ((h2 H2 O<|Kp.of sm).2 X.A X.stack s2 us vs ds d Q (λ_ _ _=>False) hr I2.ae9 rv rr (hl ρ ds e2) E2.trk E2.tab (qX I2 O E2.trk) e3 qq) λr s' hq=>?_);cases r with
     |error e=>exact hq.elim
     |ok fl=>
      cases fl with
      |ret u=>exact I2.after hq
      |next=>exact aAg hq
      |brk=>exact aAg hq
      |cont=>exact aAg hq
   ·exact q.elim
  |_=>exact q.elim
end
def spF (K:PySem.W.Frag)(Φ:(List D->R D)->Hp->(Addr->Prop)->Addr->Prop)(M:D->(List D->R D)->(List D->R D)->R D):Sp:=λvs H Q _=>∃O v1 d1 a1 m1 a2 m2 d,vs=[v1,.ref a1,.ref a2]/\Rep K H O v1 d1/\(∀H2 O2,Kp H O H2 O2->Φ m1 H2 O2 a1)/\(∀H2 O2,Kp H O H2 O2->Φ m2 H2 O2 a2)/\
 (∀a,O a->∃o,H a=some o/\Mt o)/\Tb H/\S6 K O/\M d1 m1 m2=.ok d/\∀v H',Same H H'->Rep K H' O v d->Q v H'
def jX (N:List Str)(Φ:(List D->R D)->Hp->(Addr->Prop)->Addr->Prop)(d1:D)(m1 m2:List D->R D):Ev:=.v d1::.c m1 (Φ m1)::.c m2 (Φ m2)::aAF (N.length-3) Sl.no
def AK {K:PySem.W.Frag}{H:Hp}{O:Addr->Prop}{N:List Str}{v1:V}{d1:D}{a1 a2:Addr}{m1 m2:List D->R D}{Φ:(List D->R D)->Hp->(Addr->Prop)->Addr->Prop}(r:Rep K H O v1 d1)(c1:∀H2 O2,Kp H O H2 O2->Φ m1 H2 O2 a1)(c2:∀H2 O2,Kp H O H2 O2->Φ m2 H2 O2 a2)
  (t:∀a,O a->∃o,H a=some o/\Mt o) (tb:Tb H):EnvOk K H O H O (start N [v1,.ref a1,.ref a2]) (jX N Φ d1 m1 m2)where
 len:=by simp[L2.start,jX]
 same:=Same.refl H
 sub:=λ_ h=>h
 trk:=t
 trk0:=λa h=>let⟨o,q,_⟩:=t a h;⟨o,q⟩
 tab:=tb
 slot:=λi sl h=>by
  match i with
  |0=>cases h;exact⟨v1,rfl,r⟩
  |1=>cases h;exact⟨a1,rfl,c1⟩
  |2=>cases h;exact⟨a2,rfl,c2⟩
  |i+3=>
   have h':(aAF (N.length-3) Sl.no)[i]?=some sl:=h;rw[aBg]at h';split at h'
   ·cases h';trivial
   ·cases h'
 inj:=λi j x y a h _ o=>by
  match i with
  |0=>cases h;exact o.elim
  |1=>cases h;exact o.elim
  |2=>cases h;exact o.elim
  |i+3=>
   have h':(aAF (N.length-3) Sl.no)[i]?=some x:=h;rw[aBg]at h';split at h'
   ·cases h';exact o.elim
   ·cases h'
section
variable{K:PySem.W.Frag}
def fnF {x qual:Str}{st:Stmt}{f:Addr}{fd:FuncData}{N ps:List Str}{k:Nat}{M:D->(List D->R D)->(List D->R D)->R D}{Φ:(List D->R D)->Hp->(Addr->Prop)->Addr->Prop}{F:Ev->R Out}(F0:Fun K x qual st f fd)(S:FnScope N ps (c6 st))(h3:ps.length=3)
  (hb:∀(cdv:Value) (A:Around) (outer:List Env) (s:Shared) (H:Hp) (E:XK),Room k (A.deeper (envOfC qual (c6 st) s.heap.objs.size f cdv))->X8 (UG P w K mg base N qual (c6 st) f cdv A outer s H E) (q8 st) F)
  (hm:∀d1 m1 m2 d,M d1 m1 m2=.ok d->T6 (F (jX N Φ d1 m1 m2))=.ok d):FnOk P w K mg base vE (k+1) f fd ps (spF K Φ M):=by
 refine F0.ok S (λvs H Q E z=>by obtain⟨O,v1,d1,a1,m1,a2,m2,d,e,_⟩:=z;rw[e,h3];rfl) (λcdv A outer s H vs Q E hr z=>?_);obtain⟨O,v1,d1,a1,m1,a2,m2,d,e0,r,c1,c2,ht,tb,fk,e,q⟩:=z;subst e0;refine⟨_,hb cdv A outer s H E hr H O,O,_,AK r c1 c2 ht tb,fk,?_⟩;have h:=hm d1 m1 m2 d e;cases e1:F (jX N Φ d1 m1 m2)with
 |ok o=>
  rw[e1]at h;cases o with
  |rt d'=>have h':R.ok d'=R.ok d:=h;injection h' with h';subst h';exact q
  |nx ρ=>have h':R.ok D.non=R.ok d:=h;injection h' with h';subst h';exactλao H' O' E' _ _=>q .non H' E'.same .non
  |bk ρ=>cases h
  |ct ρ=>cases h
 |ex x=>rw[e1]at h;cases h
 |bad=>rw[e1]at h;cases h
end
structure NScope (ps ls fn:List Str)(sc:Scope):Prop where
 kind:sc.kind=.function
 co:sc.isCoroutine=false
 gen:sc.isGenerator=false
 nd:(ps++(ls++fn)).Nodup
 par:∀x∈ps,sc.names.lookup x=some .local
 fre:∀x∈fn,sc.names.lookup x=some .free
 all:∀x,sc.names.lookup x=some .free->x∈fn
 nocell:∀y∈sc.names,y.2≠.cell
abbrev pj (P:Program)(w:World)(K:PySem.W.Frag)(mg:Y0)(base:Heap)(N:List Str)(env:Env)(A:Around)(outer:List Env)(s:Shared)(H:Hp):Cx where
 prog:=P
 w:=w
 K:=K
 mg:=mg
 base:=base
 A:=A.deeper env
 N:=N
 se:=s
 Ha:=H
 env:=env
 outer:=outer
 stack:=env::outer
 ex:=[]
 calm:=true
 fn:=λ_=>false
 pn:=[]
 xe:=λ_ _=>False
def N5 {α:Type}(vs:List α)(n:Nat)(no:α)(ws:List α):List α:=vs++(aAF n no++ws)
def iF {α:Type}{vs ws:List α}{n i:Nat}{no a:α}(h:(N5 vs n no ws)[i]?=some a):vs[i]?=some a\/a=no\/(vs.length+n<=i/\ws[i-(vs.length+n)]?=some a):=by
 unfold N5 at h;by_cases h1:i<vs.length
 ·rw[aAR h1]at h;exact .inl h
 ·rw[aAx (by lia)]at h;by_cases h2:i-vs.length<n
  ·rw[aAR (by simpa using h2),aBg,if_pos h2]at h;exact .inr (.inl (aAj h).symm)
  ·rw[aAx (by simpa using h2),aCi]at h;exact .inr (.inr ⟨by lia,by rw[show i-(vs.length+n)=i-vs.length-n by lia];exact h⟩)
def QJ {α:Type}{vs ws:List α}{n i:Nat}{no a:α}(h:vs[i]?=some a):(N5 vs n no ws)[i]?=some a:=by unfold N5;rw[aAR (aAz.mp h).1];exact h
def MA {α:Type}{vs ws:List α}{n i:Nat}{no a:α}(h:ws[i]?=some a):(N5 vs n no ws)[vs.length+n+i]?=some a:=by unfold N5;rw[aAx (by lia),aAx (by simp;lia),aCi,show vs.length+n+i-vs.length-n=i by lia];exact h
section
variable{K:PySem.W.Frag}
def CJ {A:Around}{outer:List Env}{s:Shared}{H:Hp}{us:List Value}{vs wv:List V}{h₁:Heap}{tk:Nat}(S:NScope ps ls fn scope)(hd:A.handled=none)(e0:Env0 P w K mg base A outer s H)(hl:vs.length=ps.length)(r:l8 vs us)(um:wv.length=fn.length)
  (qi:∀(i:Nat) (x:Str) (v:V),fn[i]?=some x->wv[i]?=some v->∃c u,clos.lookup x=some c/\RelV v u/\s.heap.IsCell c (some u)) (hcc:∀x c,clos.lookup x=some c->(∃v,s.heap.IsCell c v)/\H c=none)
  (mn:∀x y c,clos.lookup x=some c->clos.lookup y=some c->x=y) (zg:h₁.Ns s.heap.objs.size (λx=>(ps.zip us).reverse.lookup x)) (hk:∀b o,s.heap.get? b=some o->h₁.get? b=some o):
  Inv (pj P w K mg base (ps++(ls++fn)) (PySem.W.envX qual scope s.heap.objs.size fa cd clos) A outer s H) [] (N5 (vs.map some) ls.length none (wv.map some)) H {s with heap:=h₁,toks:=tk}:=by
 have noA:∀b:Addr,b∉(pj P w K mg base (ps++(ls++fn)) (PySem.W.envX qual scope s.heap.objs.size fa cd clos) A outer s H).ex:=λb z=>absurd (show b∈([]:List Addr)from z) (by simp);have nd1:ps.Nodup:=(aCT.mp S.nd).1;refine⟨⟨e0.mod,S.kind,rfl,rfl,aAh _,mn,λy hy=>?_,λy c hf _=>(by cases hf),λ_=>hd,aFB e0.frames,.inr ⟨rfl,rfl⟩,λb z=>absurd z (noA b),e0.bs,e0.bsz,λb _ _=>noA b,λb z=>absurd z (noA b),e0.funs,e0.frf⟩,
  rfl,e0.bare,Un.kept hk,⟨_,zg,λi y v h1 h2 h3=>?_⟩,λy c h=>?_,e0.hok.fresh (aAh _),λy c h=>(hcc y c h).2,λp hp=>absurd (show p∈([]:M5)from hp) (by simp),e0.hok.kept hk,?_⟩
 ·have hy:scope.names.lookup y=some .cell\/scope.names.lookup y=some .free:=hy;rcases hy with hy|hy
  ·exact absurd rfl (S.nocell _<|PySem.mem_of_lookup hy)
  ·have hm:=S.all y hy;obtain⟨i,hi,e⟩:=aBi hm;have hw:i<wv.length:=by rw[um];exact hi
   obtain⟨c,u,q,_⟩:=qi i y wv[i] (by rw[aAi hi,e]) (aAi hw);exact⟨c,q⟩
 ·have hN:(ps++(ls++fn))[i]?=some y:=h1;rcases iF h2 with h2|h2|⟨h4,h2⟩
  ·rw[aAN]at h2;cases e:vs[i]? with
   |none=>rw[e]at h2;cases h2
   |some a=>
    rw[e]at h2;have ea:a=v:=aAj (aAj h2);subst ea;obtain⟨u,hu,rv⟩:=r.get e;have hi:i<ps.length:=by rw[<-hl];exact(aAz.mp e).1
    rw[aAR hi]at hN;refine⟨u,rv,.inl ⟨S.par y (aAs hN),?_⟩⟩;refine bR ?_ ?_
    ·rw[aFk];refine(List.reverse_perm _).nodup_iff.mpr ?_;rw[List.map_fst_zip (by rw[<-hl,r.length];exact aAh _)];exact nd1
    ·rw[aDd];exact aAs (i:=i) (by rw[aBs];exact⟨hN,hu⟩)
  ·cases h2
  ·rw[aAm]at h4 h2;rw[aAN]at h2;cases e:wv[i-(vs.length+ls.length)]? with
   |none=>rw[e]at h2;cases h2
   |some a=>rw[e]at h2;have ea:a=v:=aAj (aAj h2);subst ea;rw[aAx (by lia),aAx (by lia),<-hl,show i-vs.length-ls.length=i-(vs.length+ls.length)by lia]at hN;obtain⟨c,u,q1,q2,q3⟩:=qi _ y a hN e;exact⟨u,q2,.inr ⟨.inr (S.fre y<|aAs hN),c,q1,q3.keeps hk⟩⟩
 ·obtain⟨⟨v,z⟩,_⟩:=hcc y c h;exact⟨v,z.keeps hk⟩
 ·unfold N5;simp[hl,um]
def AR {H:Hp}{O:Addr->Prop}{vs wv:List V}{ds wd:List D}{n:Nat}(r:Reps K H O vs ds)(r2:Reps K H O wv wd)(t:∀a,O a->∃o,H a=some o/\Mt o)(tb:Tb H):
  EnvOk K H O H O (N5 (vs.map some) n none (wv.map some)) (N5 (ds.map Sl.v) n .no (wd.map Sl.v))where
 len:=by unfold N5;simp[r.length,r2.length]
 same:=Same.refl H
 sub:=λ_ h=>h
 trk:=t
 trk0:=λa h=>let⟨o,q,_⟩:=t a h;⟨o,q⟩
 tab:=tb
 slot:=λi sl h=>by
  rcases iF h with h|h|⟨h1,h⟩
  ·rw[aAN]at h;cases e:ds[i]? with
   |none=>rw[e]at h;cases h
   |some d=>rw[e]at h;have h':Sl.v d=sl:=aAj h;subst h';obtain⟨v,e1,e2⟩:=r.get e;exact⟨v,QJ (by rw[aAN,e1];rfl),e2⟩
  ·subst h;trivial
  ·rw[aAN,aAm]at h;rw[aAm]at h1;cases e:wd[i-(ds.length+n)]? with
   |none=>rw[e]at h;cases h
   |some d=>rw[e]at h;have h':Sl.v d=sl:=aAj h;subst h';obtain⟨v,e1,e2⟩:=r2.get e;refine⟨v,?_,e2⟩;have:=MA (vs:=vs.map some) (n:=n) (no:=(none:Option V)) (ws:=wv.map some) (i:=i-(ds.length+n)) (a:=some v) (by rw[aAN,e1];rfl);rw[aAm,r.length,show ds.length+n+(i-(ds.length+n))=i by lia]at this;exact this
 inj:=λi j x y a h _ o=>by
  rcases iF h with h|h|⟨_,h⟩
  ·obtain⟨d,_,rfl⟩:=aAp.mp (aAs h);exact o.elim
  ·subst h;exact o.elim
  ·obtain⟨d,_,rfl⟩:=aAp.mp (aAs h);exact o.elim
def ck {name:Str}{params:Arguments}{body:List Stmt}{doc pm ctv:Value}{c':Addr}{oc:Obj}{k:Nat}{m:List D->R D}{F:Ev->R Out}{H:Hp}{O:Addr->Prop}{cs:M5}{wv:List V}{wd:List D}(S:NScope ps ls fn scope)
  (hb:∀(A:Around) (outer:List Env) (s:Shared) (H:Hp),Room k (A.deeper (PySem.W.envX qual scope s.heap.objs.size fa (.ref c') clos))->X8 (pj P w K mg base (ps++(ls++fn)) (PySem.W.envX qual scope s.heap.objs.size fa (.ref c') clos) A outer s H) body F)
  (hm:∀ds d,ds.length=ps.length->m ds=.ok d->T6 (F (N5 (ds.map Sl.v) ls.length .no (wd.map Sl.v)))=.ok d)
  (ya:∀(s:Shared) (us:List Value),us.length=ps.length->BindsTo s (PySem.W.fnX name qual params body scope clos .none .none doc pm none (.ref c') ctv) ⟨us,[]⟩ (ps.zip us))
  (hfa:H fa=some (.frz (PySem.W.fnMade name qual params body scope clos doc pm c' ctv) (.own fa))) (hc:H c'=some (.frz oc (.own c'))) (hoc:∃vs t,oc.data=.fields vs/\vs[1]?=some (.str qual t))
  (xb:∀b o,cs.lookup b=some o->H b=some (.frz o (.own b))/\vV o) (qi:∀(i:Nat) (x:Str) (v:V),fn[i]?=some x->wv[i]?=some v->∃c u o,clos.lookup x=some c/\cs.lookup c=some o/\o.data=.cell (some u)/\RelV v u)
  (hcc:∀x c,clos.lookup x=some c->∃o,cs.lookup c=some o) (mn:∀x y c,clos.lookup x=some c->clos.lookup y=some c->x=y) (um:wv.length=fn.length) (hr:Reps K H O wv wd) (hO:∀a,O a->∃o,H a=some o/\Mt o):
  ∀H2 O2,Kp H O H2 O2->JM P w K mg base (k+1) ps.length m H2 O2 fa:=by
 intro H2 O2 kp;have fz:∀b o u,H b=some (.frz o u)->H2 b=some (.frz o u):=λb o u e=>(kp b _ e λz=>by obtain⟨o',q,mt⟩:=hO b z;rw[e]at q;cases q;exact mt).1;have cs2:∀b o,cs.lookup b=some o->H2 b=some (.frz o (.own b)):=λb o q=>fz _ _ _ (xb b o q).1;refine⟨⟨_,_,_,_,fz _ _ _ hfa⟩,λA outer s us vs ds d Q E ou e0 rv rr hl ht tb fk em q=>?_⟩;have KX:K.In s.heap:=e0.mod.kin.keeps λb o e=>(e0.bs b o e).1;have lim:s.heap.NoLimit:=e0.mod.nolimit.keeps λb o e=>(e0.bs b o e).1;have gfa:=(e0.hok fa _<|fz _ _ _ hfa).1;have goc:=(e0.hok c' _<|fz _ _ _ hc).1;obtain⟨ovs,ot,od1,od2⟩:=hoc;have hidn:∀b,H2 b=none->Q6 H2 cs b=none:=λb n=>by
  cases z:cs.lookup b with
  |none=>rw[N8 z];exact n
  |some o=>exact bX z
 have e1:Env0 P w K mg base A outer s (Q6 H2 cs):=⟨e0.frames,e0.mod,λb o e=>⟨(e0.bs b o e).1,hidn b (e0.bs b o e).2⟩,e0.bsz,e0.funs,λb hb=>hidn b (e0.frf b hb),LO e0.hok λb o z=>⟨cs2 b o z,(xb b o z).2⟩,e0.bare⟩;have cget:∀b o,cs.lookup b=some o->s.heap.get? b=some o:=λb o z=>(e0.hok b _<|cs2 b o z).1;have cfs:∀b o,cs.lookup b=some o->b∉W4 outer:=λb o z hb=>by have:=e0.frf b hb;rw[cs2 b o z]at this;cases this
 have hul:us.length=ps.length:=by rw[<-rv.length,rr.length];exact hl
 have hvl:vs.length=ps.length:=by rw[rr.length];exact hl
 have rwv:Reps K (Q6 H2 cs) O2 wv wd:=(kp.ac5 hO fk hr).hid cs2;have tb1:Tb (Q6 H2 cs):=λp hp=>w9 cs2 (tb p hp) λo _ z=>by cases z
 have ht1:∀a,O2 a->∃o,Q6 H2 cs a=some o/\Mt o:=λa z=>by obtain⟨o,q1,q2⟩:=ht a z;exact⟨o,w9 cs2 q1 λo' _ z'=>by subst z';exact q2,q2⟩
 let Q':VK:=λv H3=>(∀b o,cs.lookup b=some o->H3 b=none)->Q v (cK H3 cs)
 have qq:∀v H',Same (Q6 H2 cs) H'->Rep K H' O2 v d->Q' v H':=λv H' sm r hn=>by
  refine q v _ (λb u e=>?_) (r.same<|fJ hn);cases z:cs.lookup b with
  |none=>exact F7 hn (sm b u (by rw[N8 z];exact e))
  |some o=>rw[cs2 b o z]at e;cases e;exact eV z
 have fin:∀{u:Value} {s':Shared},CE outer P w (Q6 H2 cs) s Q' u s'->CE outer P w H2 s Q u s':=λ{u s'} ⟨v,H3,os,bare,un,hok,r,qv⟩=>by obtain⟨U2,k2,zl⟩:=YU un hok λb o z=>⟨cget b o z,cs2 b o z,cfs b o z⟩;exact⟨v,_,os,bare,U2,k2,r,qv λb o z=>un.free b o (cget b o z) (bX z) (by simp)⟩
 refine codeAny_call_def (fd:=PySem.W.fnX name qual params body scope clos .none .none doc pm none (.ref c') ctv) (body:=body) (binds:=ps.zip us) ou.depth gfa rfl lim ⟨c',oc,ovs,ot,rfl,goc,od1,od2⟩ rfl (ya s us hul) S.nocell (λy hy=>S.par y.1 (aEk hy).1) (λh₁ zg hk=>?_) S.co S.gen S.kind;show wpAny (model P w) (A.deeper<|PySem.W.envX qual scope s.heap.objs.size fa (.ref c') clos) (execs body<|PySem.W.envX qual scope s.heap.objs.size fa (.ref c') clos) _ _ _;have I:=CJ (qual:=qual) (fa:=fa) (cd:=.ref c') (clos:=clos) (tk:=s.toks+(ps.zip us).length) S ou.hd e1 hvl rv um (λi x v h1 h2=>by
   obtain⟨c,u,o,q1,q2,q3,q4⟩:=qi i x v h1 h2;exact⟨c,u,q1,q4,o,cget c o q2,q3⟩) (λx c h=>by
   obtain⟨o,z⟩:=hcc x c h;obtain⟨v,z2⟩:=(xb c o z).2;exact⟨⟨v,o,cget c o z,z2⟩,bX z⟩) mn zg hk
 have hx:=hb A outer s (Q6 H2 cs) (ou.deeper _) (Q6 H2 cs) O2 [] _ _ _ {nx:=λ_ H'=>Q' .non H',rt:=Q'} I ⟨O2,_,AR (rr.hid cs2) rwv ht1 tb1,fk,?_⟩
 ·refine aBG hx (λfl s' hs=>?_) λe s' hs=>hs.elim;have fin2:∀{ao:St} {H':Hp} {v:V} {u:Value},Inv (pj P w K mg base (ps++(ls++fn)) (PySem.W.envX qual scope s.heap.objs.size fa (.ref c') clos) A outer s<|Q6 H2 cs) [] ao H' s'->RelV v u->Q' v H'->CE outer P w H2 s Q u s':=
   λ{ao H' v u} J rv q=>fin ⟨v,H',J.os,J.bare,J.base,J.hok,rv,q⟩
  cases fl with
  |ret u=>obtain⟨v,ao,H',J,rv,q⟩:=hs;exact fin2 J rv q
  |next=>obtain⟨ao,H',J,q⟩:=hs;exact fin2 (v:=V.non) (u:=Value.none) J rfl q
  |brk=>obtain⟨_,_,_,q⟩:=hs;exact aAg q
  |cont=>obtain⟨_,_,_,q⟩:=hs;exact aAg q
 ·have h:=hm ds d hl em;cases e1:F (N5 (ds.map Sl.v) ls.length .no (wd.map Sl.v))with
  |ok o=>
   rw[e1]at h;cases o with
   |rt d'=>have h':R.ok d'=R.ok d:=h;injection h' with h';subst h';exact qq
   |nx ρ=>have h':R.ok D.non=R.ok d:=h;injection h' with h';subst h';exactλao H' O' E' _ _=>qq .non H' E'.same .non
   |bk ρ=>cases h
   |ct ρ=>cases h
  |ex x=>rw[e1]at h;cases h
  |bad=>rw[e1]at h;cases h
end
def iI (mg:Y0)(base:Heap):Prop:=∃bm ob,mg "__builtins__"=some (.ref bm)/\bm≠builtinsNs/\base.get? bm=some ob/\ob.cls=.type "module"/\ob.dict=some builtinsNs/\ob.data=.plain
def sH:∀(l:List Value),TriplesOk l->codeAmong pos l=some x->codeAmong pos (l++[rawInt a,rawInt b,c])=some x:=λl h e=>by
 fun_induction TriplesOk l with
 |case1=>simp[codeAmong]at e
 |case2 a' t b' u y rest ih=>
  simp only[aBo,codeAmong]at e⊢;split at e
  ·rename_i hc;rw[if_pos hc];exact e
  ·rename_i hc;rw[if_neg hc];exact ih h e
 |case3 l h1 h2=>exact h.elim
def KR (ne:¬(a=pos.line/\b=pos.col)):∀(l:List Value),TriplesOk l->codeAmong pos l=none->codeAmong pos (l++[rawInt a,rawInt b,c])=none:=λl h e=>by
 fun_induction TriplesOk l with
 |case1=>simp only[aDm,rawInt,codeAmong];rw[if_neg];simp only[aAC,beq_iff_eq];exact ne
 |case2 a' t b' u y rest ih=>
  simp only[aBo,codeAmong]at e⊢;split at e
  ·cases e
  ·rename_i hc;rw[if_neg hc];exact ih h e
 |case3 l h1 h2=>exact h.elim
def fZ (H:Hp)(fa:Addr)(name qual:Str)(params:Arguments)(body:List Stmt)(scope:Scope)(clos:List (Str×Addr)):Prop:=
 ∃c' oc doc pm ctv,H fa=some (.frz (PySem.W.fnMade name qual params body scope clos doc pm c' ctv) (.own fa))/\H c'=some (.frz oc (.own c'))/\∃vs t,oc.data=.fields vs/\vs[1]?=some (.str qual t)
def fZ.same (h:fZ H fa name qual params body scope clos)(s:Same H H'):fZ H' fa name qual params body scope clos:=
 let⟨c',oc,doc,pm,ctv,h1,h2,h3⟩:=h;⟨c',oc,doc,pm,ctv,s _ _ h1,s _ _ h2,h3⟩
section
def yE {Q:Flow->Shared->Prop}(I:Inv X pins σ H s)(hB:iI X.mg X.base)(kr:X.env.code=.ref c)(hK:PySem.W.codeHdIn X.K c Pt=true)(hT:H Pt=some (.tbl tb))(hq:qualnameIn X.env name name=qual)(hm:(pos,qual)∈tb)(hu:∀p∈tb,p.1.line=pos.line->p.1.col=pos.col->p.2=qual)(qi:closureFor scope X.env=pure clos)(hd0:params.defaults=[])(hk0:params.kw_defaults=[])(ha:annTrees params none X.env=[])(hN:X.N.Nodup)(hi:X.N[i]?=some name)(hx:Loc X.env.scope name)(hf:X.fn name=true\/X.env.scope.names.lookup name=some .local)(h:∀fa H' s',Inv X pins (σ.set i (some (.ref fa))) H' s'->Same H H'->fZ H' fa name qual params body scope clos->Q .next s'):wpAny (model X.prog X.w) X.A (exec (.FunctionDef name params body [] none [] scope none name pos) X.env) Q X.xe s:=by
 refine PySem.W.nestDef_K hd0 hk0 ha ?_;rw[hq];have hg:s.heap.Ns mainGlobals X.mg:=I.mod.glob.keeps I.bk;have C:PySem.W.CodeHd s.heap c Pt:=PySem.W.codeHd_of_K I.kIn hK;obtain⟨ps,hP,hTr,hTb⟩:=I.hok Pt _ hT;have hgP:mainGlobals≠Pt:=λq=>by obtain⟨o,es,ep,e,hd,_⟩:=hg;rw[q,hP]at e;cases e;cases hd
 have hb:s.heap.BuiltinsAt X.mg Pt:=by
  obtain⟨bm,ob,b1,b2,b3,b4,b5,b6⟩:=hB;have b3':=I.bk _ _ b3;refine⟨bm,ob,b1,b2,λq=>?_,λq=>?_,b3',b4,b5,b6⟩
  ·obtain⟨o,es,ep,e,hd,_⟩:=hg;rw[<-q,b3']at e;cases e;rw[hd]at b6;cases b6
  ·rw[q,hP]at b3';cases b3';cases b4
 have neP:∀b,H b=none->b≠Pt:=λb n z=>by rw[z,hT]at n;cases n
 have neL:X.env.locals≠Pt:=neP _ I.free;rcases hTb _ hm with hnf|⟨c',oc,vs,t,hf',hc',eu⟩
 ·refine PySem.W.makeFunction_K (mg:=X.mg) qi I.ok.glob hg kr C hP hTr hnf hgP hb λc' ctv doc h' tk hx' hge av hrec htb=>?_;obtain⟨c2,oc,vs,t,e2,hoc,hd,hv⟩:=hrec;cases e2;have old:∀b u,H b=some u->b<s.heap.objs.size:=λb u e=>I.hok.lt e;have hcN:H c'=none:=I.hok.fresh hge;have hfN:H h'.objs.size=none:=I.hok.fresh (aAr hge<|aCV av);have ncf:c'≠h'.objs.size:=aAk av;have sm:Same H (upd (upd H c'<|.frz oc (.own c')) h'.objs.size<|.frz (PySem.W.fnMade name qual params body scope clos doc ((X.mg "__name__").getD .none) c' ctv) (.own h'.objs.size)):=λb u e=>by rw[j7 (t8 e hfN),j7 (t8 e hcN)];exact e
  have qa:∀b o,b≠Pt->s.heap.get? b=some o->(h'.push<|PySem.W.fnMade name qual params body scope clos doc ((X.mg "__name__").getD .none) c' ctv).get? b=some o:=λb o hb e=>aAc _ (hx' b o hb e);have lts:∀b o,s.heap.get? b=some o->b≠c'/\b≠h'.objs.size:=λb o e=>⟨aAk (aAq (aAf e) hge),aAk (aAq (aAf e)<|aAr hge<|aCV av)⟩;have I1:=I.step (H':=upd (upd H c'<|.frz oc (.own c')) h'.objs.size (.frz (PySem.W.fnMade name qual params body scope clos doc ((X.mg "__name__").getD .none) c' ctv) (.own h'.objs.size)))
   (h':=h'.push (PySem.W.fnMade name qual params body scope clos doc ((X.mg "__name__").getD .none) c' ctv)) (g':=s.gens) (t':=tk) (d':=s.drawn) (ch:=[]) (λ_ z=>nomatch z) (λb o _ _ _ e n=>qa b o (neP b n) e) (λb o _ _ _ e n=>⟨o.slots,qa b o (neP b n) e⟩)
   (λb o _ e n=>by rw[j7 (lts b o e).2,j7 (lts b o e).1];exact n) (λb o _ e=>by
    by_cases hb:b=Pt
    ·subst hb;exact⟨_,aAc _ htb⟩
    ·exact⟨o,qa b o hb e⟩) (λb xs e=>sm _ _ e) (λb o u e=>sm _ _ e) (λb tb e=>sm _ _ e) (λm' hm'=>by
    obtain⟨o,es,ep,e,r⟩:=hm';exact⟨o,es,ep,qa _ o neL e,r⟩) (λb u e=>by
    by_cases hbf:b=h'.objs.size
    ·subst hbf;rw[i9]at e;cases e;exact⟨aAn _ rfl,_,aAn _ rfl⟩
    ·rw[j7 hbf]at e;by_cases hbc:b=c'
     ·subst hbc;rw[i9]at e;cases e;exact⟨aAc _ hoc,_,aAc _ hoc⟩
     ·rw[j7 hbc]at e;by_cases hbP:b=Pt
      ·subst hbP;rw[hT]at e;cases e;refine⟨_,aAc _ htb,?_,λp hp=>?_⟩
       ·rw[aFQ];exact TriplesOk_snoc _ _ _ _ hTr
       ·rw[aFQ];show codeAmong p.1 (ps.toList++[rawInt pos.line,rawInt pos.col,.ref c'])=none\/_;by_cases hpp:(pos.line:Int)=p.1.line/\(pos.col:Int)=p.1.col
        ·rcases hTb p hp with h0|⟨c3,oc3,vs3,t3,h0,h1,h2⟩
         ·have e1:pos.line=p.1.line:=by exact_mod_cast hpp.1
          have e2:pos.col=p.1.col:=by exact_mod_cast hpp.2
          refine .inr ⟨c',oc,vs,t,?_,by rw[j7 ncf,i9],hd,?_⟩
          ·rw[e1,e2];exact codeAmong_snoc _ hTr h0
          ·rw[hu p hp e1.symm e2.symm];exact hv
         ·exact .inr ⟨c3,oc3,vs3,t3,sH _ hTr h0,sm _ _ h1,h2⟩
        ·rcases hTb p hp with h0|⟨c3,oc3,vs3,t3,h0,h1,h2⟩
         ·exact .inl (KR hpp _ hTr h0)
         ·exact .inr ⟨c3,oc3,vs3,t3,sH _ hTr h0,sm _ _ h1,h2⟩
      ·refine(I.hok b u e).ab4 (λb2 v hc q=>qa b2 v (λz=>?_) q) (λb2 z=>sm _ _ z) λb2 u _ z=>sm _ _ z;rcases hc with hc|hc
       ·exact hbP (hc▸z)
       ·rw[z,hT]at hc;cases hc) I.bare
  refine X0 I1 hN hi hx (show RelV (.ref h'.objs.size) _ from rfl) (λs' I'=>h _ _ s' I' sm ⟨c',oc,doc,_,ctv,i9,by rw[j7 ncf,i9],vs,t,hd,hv⟩) hf
 ·refine PySem.W.makeFunction_hit (mg:=X.mg) qi I.ok.glob hg kr C hP hTr hf' hb λctv doc h' tk hk iu=>?_;have hfN:H h'.objs.size=none:=I.hok.fresh iu;have I1:=I.laid (a:=h'.objs.size) (o:=.frz (PySem.W.fnMade name qual params body scope clos doc ((X.mg "__name__").getD .none) c' ctv) (.own h'.objs.size)) (h':=h'.push (PySem.W.fnMade name qual params body scope clos doc ((X.mg "__name__").getD .none) c' ctv)) (t':=tk)
   (λb u e=>aAc _ (hk b u e)) iu ⟨aAn _ rfl,_,aAn _ rfl⟩
  refine X0 I1 hN hi hx (show RelV (.ref h'.objs.size) _ from rfl) (λs' I'=>h _ _ s' I' (j4 hfN _) ⟨c',oc,doc,_,ctv,i9,j4 hfN _ _ _ hc',vs,t,eu⟩) hf
end
structure Nst where
 name:Str
 qual:Str
 params:Arguments
 body:List Stmt
 scope:Scope
 pos:Pos
 ps:List Str
 ls:List Str
 fn:List Str
 js:List Nat
 F:Ev->R Out
 mm:List D->List D->R D
 i:Nat
abbrev Nst.stmt (n:Nst):Stmt:=.FunctionDef n.name n.params n.body [] none [] n.scope none n.name n.pos
structure NstOk (X:Cx)(k:Nat)(n:Nst):Prop where
 sc:NScope n.ps n.ls n.fn n.scope
 one:n.ps.length=1
 body:∀(fa:Addr) (cd:Value) (clos:List (Str×Addr)) (A:Around) (outer:List Env) (s:Shared) (H:Hp),Room k (A.deeper (PySem.W.envX n.qual n.scope s.heap.objs.size fa cd clos))->X8 (pj X.prog X.w X.K X.mg X.base (n.ps++(n.ls++n.fn)) (PySem.W.envX n.qual n.scope s.heap.objs.size fa cd clos) A outer s H) n.body n.F
 mm:∀wd ds d,wd.length=n.fn.length->ds.length=n.ps.length->n.mm wd ds=.ok d->T6 (n.F (N5 (ds.map Sl.v) n.ls.length .no (wd.map Sl.v)))=.ok d
 bind:∀(clos:List (Str×Addr)) (doc pm cd ctv:Value) (us:List Value),us.length=n.ps.length->bindArgs (PySem.W.fnX n.name n.qual n.params n.body n.scope clos .none .none doc pm none cd ctv) ⟨us,[]⟩=pure (n.ps.zip us)
 len:n.js.length=n.fn.length
 at_:∀(i j:Nat) (x:Str),n.js[i]?=some j->n.fn[i]?=some x->X.N[j]?=some x/\X.env.scope.names.lookup x=some .cell
 d0:n.params.defaults=[]
 k0:n.params.kw_defaults=[]
 nm:X.N[n.i]?=some n.name
 lc:Loc X.env.scope n.name
 st:X.fn n.name=true\/X.env.scope.names.lookup n.name=some .local
 dbg:(n.name==("__debug__":Str))=false
 cdt:(n.name==("__classdict__":Str))=false
structure ClosOk (X:Cx)(n:Nst)(clos:List (Str×Addr)):Prop where
 eq:closureFor n.scope X.env=pure clos
 ann:annTrees n.params none X.env=[]
 qn:qualnameIn X.env n.name n.name=n.qual
 sub:∀x c,clos.lookup x=some c->X.env.cells.lookup x=some c
 has:∀x∈n.fn,∃c,clos.lookup x=some c
def dW:List Nat->Ev->R (List D)
 |[],_=>.ok []
 |j::js,ρ=>(cI j ρ).bind λd=>(dW js ρ).bind λds=>.ok (d::ds)
theorem MG {K:PySem.W.Frag}{Ha H:Hp}{O0 O:Addr->Prop}{σ:St}{ρ:Ev}(E:EnvOk K Ha O0 H O σ ρ):∀{js:List Nat} {wd:List D},dW js ρ=.ok wd->∃wv,Reps K H O wv wd/\wv.length=js.length/\∀(i j:Nat) (v:V),js[i]?=some j->wv[i]?=some v->σ[j]?=some (some v)
 |[],wd,h=>by cases h;exact⟨[],.nil,rfl,λi j v e=>by simp at e⟩
 |j::js,wd,h=>by
  unfold dW at h;cases e1:cI j ρ with
  |ok d=>
   rw[e1,R.aa0]at h;cases e2:dW js ρ with
   |ok ds=>
    rw[e2,R.aa0]at h;cases h;obtain⟨wv,r,hl,at_⟩:=MG E e2;have:ρ[j]?=some (.v d):=by
     unfold cI at e1;split at e1
     ·rename_i q;cases e1;exact q
     ·cases e1
    obtain⟨v,h1,h2⟩:=E.val j d this;refine⟨v::wv,.cons h2 r,by simp[hl],λi j' v' q1 q2=>?_⟩;cases i with
    |zero=>simp at q1 q2;subst q1 q2;exact h1
    |succ i=>exact at_ i j' v' (by simpa using q1) (by simpa using q2)
   |ex z=>rw[e2]at h;cases h
   |bad=>rw[e2]at h;cases h
  |ex z=>rw[e1]at h;cases h
  |bad=>rw[e1]at h;cases h
section
def U4 (h:Heap)(cl:List (Str×Addr)):List (Addr×Obj):=cl.filterMap λp=>(h.get? p.2).map λo=>(p.2,o)
def M3 (e:(U4 h cl).lookup b=some o):h.get? b=some o/\∃x,(x,b)∈cl:=by
 obtain⟨p,hp,q⟩:=aBE.mp (mem_lookup e);cases z:h.get? p.2 with
 |none=>rw[z]at q;cases q
 |some o'=>rw[z]at q;have q':(p.2,o')=(b,o):=aAj q;injection q' with q1 q2;subst q1 q2;exact⟨z,p.1,hp⟩
def lY (hm:(x,b)∈cl)(e:h.get? b=some o):∃o',(U4 h cl).lookup b=some o':=by
 have:(b,o)∈U4 h cl:=aBE.mpr ⟨(x,b),hm,by show(h.get? b).map _=_;rw[e];rfl⟩;cases q:(U4 h cl).lookup b with
 |some o'=>exact⟨o',rfl⟩
 |none=>have:=List.lookup_eq_none_iff.mp q (b,o) this;simp at this
def zw (X:Cx)(n1 n2:Nst)(clos1 clos2:List (Str×Addr))(f:Ev->R D)(M:D->(List D->R D)->(List D->R D)->R D):TE:=λσ H Q=>∃Ha O0 O ρ zb fa2,EnvOk X.K Ha O0 H O σ ρ/\σ[n1.i]?=some (some<|V.ref zb)/\σ[n2.i]?=some (some<|V.ref fa2)/\
 fZ H zb n1.name n1.qual n1.params n1.body n1.scope clos1/\fZ H fa2 n2.name n2.qual n2.params n2.body n2.scope clos2/\RC X H O ((f ρ).bind λd1=>(dW n1.js ρ).bind λw1=>(dW n2.js ρ).bind λw2=>M d1 (n1.mm w1) (n2.mm w2)) Q
def xV {n:Nst}{clos clA:List (Str×Addr)}{k:Nat}{pins:M5}{σ:St}{H:Hp}{s:Shared}{Ha:Hp}{O0 O:Addr->Prop}{ρ:Ev}{fa:Addr}{wd:List D}(ok:NstOk X k n)(hc:ClosOk X n clos)(I:Inv X pins σ H s)(E:EnvOk X.K Ha O0 H O σ ρ)
  (hA:∀p∈clos,p∈clA) (hAc:∀x b,(x,b)∈clA->X.env.cells.lookup x=some b) (made:fZ H fa n.name n.qual n.params n.body n.scope clos) (hw:dW n.js ρ=.ok wd):
  ∀H2 O2,Kp (cK H (U4 s.heap clA)) O H2 O2->JM X.prog X.w X.K X.mg X.base (k+1) 1 (n.mm wd) H2 O2 fa:=by
 obtain⟨c',oc,doc,pm,ctv,h1,h2,h3⟩:=made;obtain⟨wv,ud,hl,at_⟩:=MG E hw;have hn:∀b o,(U4 s.heap clA).lookup b=some o->H b=none:=λb o q=>by obtain⟨_,x,hm⟩:=M3 q;exact I.freeC x b (hAc x b hm)
 have sm:=fJ hn
 suffices key:∀H2 O2,Kp (cK H<|U4 s.heap clA) O H2 O2->JM X.prog X.w X.K X.mg X.base (k+1) n.ps.length (n.mm wd) H2 O2 fa by rw[ok.one]at key;exact key
 refine ck (cs:=U4 s.heap clA) (wv:=wv) (wd:=wd) (F:=n.F) ok.sc (λA outer s H hr=>ok.body fa (.ref c') clos A outer s H hr) (λds d ko e=>ok.mm wd ds d (by rw[<-ud.length,hl,ok.len]) ko e) (λs us ko=>.of_eq (ok.bind clos doc pm (.ref c') ctv us ko)) (sm _ _ h1) (sm _ _ h2) h3
  (λb o q=>⟨eV q,?_⟩) (λi x v q1 q2=>?_) (λx c q=>?_) (λx y c q1 q2=>I.ok.inj x y c (hc.sub x c q1) (hc.sub y c q2)) (by rw[hl,ok.len]) (ud.same sm) (E.grow sm).trk
 ·obtain⟨e1,x,hm⟩:=M3 q;obtain⟨v,o',e2,e3⟩:=I.cell x b (hAc x b hm);rw[e1]at e2;cases e2;exact⟨v,e3⟩
 ·have hi:i<n.js.length:=by rw[ok.len];exact(aAz.mp q1).1
  have ej:n.js[i]?=some n.js[i]:=aAi hi;obtain⟨hN,hk⟩:=ok.at_ i _ x ej q1;have hσ:=at_ i _ v ej q2;obtain⟨m,zg,hloc⟩:=I.loc;obtain⟨u,ru,look⟩:=hloc _ x v hN hσ (.inr (.inl hk));rcases look with⟨mi,_⟩|⟨_,c,ji,o,ho,hd⟩
  ·have hk'':X.env.scope.names.lookup x=some .local:=mi;rw[hk]at hk'';cases hk''
  ·obtain⟨c2,q3⟩:=hc.has x (aAs q1);have q4:=hc.sub x c2 q3;rw[ji]at q4;cases q4;obtain⟨o',q5⟩:=lY (hA _<|PySem.mem_of_lookup q3) ho;have:=(M3 q5).1;rw[ho]at this;cases this;exact⟨c,u,o,q3,q5,hd,ru⟩
 ·obtain⟨v,o,ho,_⟩:=I.cell x c (hc.sub x c q);exact lY (hA _<|PySem.mem_of_lookup q) ho
def UY (qc:NstOk X k n1)(qu:NstOk X k n2)(za:ClosOk X n1 clos1)(ki:ClosOk X n2 clos2)(hA:∀x b,(x,b)∈clos1++clos2->X.env.cells.lookup x=some b)(FF:FnOk X.prog X.w X.K X.mg X.base vE kf g gd ps3 (spF X.K (JM X.prog X.w X.K X.mg X.base (k+1) 1) M))(hr:Room kf X.A)(hm:X.mg x=some (.ref g))(hk:PySem.W.keepIn X.K (.ref g)=true)(hb:Binds X.K gd ps3 [])(h3:ps3.length=3)(he:PD X e f)(yh:∀y,X.fn y=true)(hg:Gl X x:=by rfl)(de:(x==("__debug__":Str))=false:=by decide)(zi:starEach [e,.Name n1.name p1,.Name n2.name p2] X.env=(false,eval e X.env)::starEach [.Name n1.name p1,.Name n2.name p2] X.env:=by rfl)(hs2:starEach [.Name n1.name p1,.Name n2.name p2] X.env=(false,eval (.Name n1.name p1) X.env)::starEach [.Name n2.name p2] X.env:=by rfl)(hs3:starEach [.Name n2.name p2] X.env=(false,eval (.Name n2.name p2) X.env)::starEach [] X.env:=by rfl)(bh:(backTo pos (starEach [.Name n1.name p1,.Name n2.name p2] X.env)).any (·.1)=false:=by rfl):
  PE X (.Call (.Name x p) [e,.Name n1.name p1,.Name n2.name p2] [] pos) (zw X n1 n2 clos1 clos2 f M):=by
 intro pins s σ H Q I ⟨Ha,O0,O,ρ,zb,fa2,E,h1,h2,md1,md2,q⟩;have vis:∀{y:Str},Loc X.env.scope y->sF X.env.scope y:=λh=>h.elim .inl λz=>.inr (.inl z);have tf:PA X [e,.Name n1.name p1,.Name n2.name p2] _:=J8 he (J8 (M6 qc.nm (vis qc.lc) qc.dbg qc.cdt) (J8 (M6 qu.nm (vis qu.lc) qu.dbg qu.cdt) cC hs3) hs2) zi;refine aAP (fI I hg hm ?_ de);refine PySem.W.callWith_K (h₀:=X.base) I.ok.mod.kin hk (D4 (tf pos pins s σ H (λvs H1=>∃v1 d1 w1 w2 d,vs=[v1,.ref zb,.ref fa2]/\Same H H1/\Rep X.K H1 O v1 d1/\dW n1.js ρ=.ok w1/\dW n2.js ρ=.ok w2/\M d1 (n1.mm w1) (n2.mm w2)=.ok d/\∀v H',Same H1 H'->Rep X.K H' O v d->Q v H') I ⟨Ha,O0,O,ρ,E,?_⟩) λus s1 ⟨vs,H1,I1,r,v1,d1,w1,w2,d,ev,sm,r1,c1,c2,em,qq⟩=>⟨I1.kIn,?_⟩) zi bh
 ·cases e1:f ρ with
  |ex z=>rw[e1]at q;exact q
  |bad=>rw[e1]at q;exact q
  |ok d1=>
   rw[e1,R.aa0]at q;cases e2:dW n1.js ρ with
   |ex z=>rw[e2]at q;exact(q H<|Same.refl _).elim
   |bad=>rw[e2]at q;exact q.elim
   |ok w1=>
    rw[e2,R.aa0]at q;cases e3:dW n2.js ρ with
    |ex z=>rw[e3]at q;exact(q H<|Same.refl _).elim
    |bad=>rw[e3]at q;exact q.elim
    |ok w2=>
     rw[e3,R.aa0]at q;cases e4:M d1 (n1.mm w1) (n2.mm w2)with
     |ex z=>rw[e4]at q;exact(q H<|Same.refl _).elim
     |bad=>rw[e4]at q;exact q.elim
     |ok d=>rw[e4]at q;exactλv1 H1 s1 r1=>⟨_,h1,_,h2,v1,d1,w1,w2,d,rfl,s1,r1,rfl,rfl,e4,λv H' s2 r2=>q v H' (s1.trans s2) r2⟩
 ·subst ev;have E1:=E.grow sm;generalize xb:U4 s1.heap (clos1++clos2)=cs;have hn:∀b o,cs.lookup b=some o->s1.heap.get? b=some o/\H1 b=none/\vV o:=λb o z=>by rw[<-xb]at z;obtain⟨e1,y,hm⟩:=M3 z;obtain⟨v,o',e2,e3⟩:=I1.cell y b (hA y b hm);rw[e1]at e2;cases e2;exact⟨e1,I1.freeC y b (hA y b hm),v,e3⟩
  have hn0:∀b o,cs.lookup b=some o->H1 b=none:=λb o z=>(hn b o z).2.1;have smf:Same H1 (cK H1 cs):=fJ hn0;have E2:=E1.grow smf;have e0:=I1.ae9;have nofr:∀b o,cs.lookup b=some o->b∉W4 X.stack:=λb o z hb=>by
   rw[<-xb]at z;obtain⟨_,y,hmy⟩:=M3 z;rcases aAe.mp (I1.ab0 b hb)with e|hb
   ·exact I1.cne y b (hA y b hmy) e
   ·obtain⟨_,o',ho,_⟩:=I1.ok.funs.mem hb;exact absurd (aAq (aAf ho)<|I1.ok.cab y b (yh y)<|hA y b hmy) (aBc _)
  have nob:∀b o,X.base.get? b=some o->cs.lookup b=none:=λb o e=>by
   cases z:cs.lookup b with
   |none=>rfl
   |some o'=>rw[<-xb]at z;obtain⟨_,y,hm⟩:=M3 z;exact absurd (aAq (aAf e)<|aAr I1.ok.bsz<|I1.ok.cab y b (yh y)<|hA y b hm) (aBc _)
  have e2:Env0 X.prog X.w X.K X.mg X.base X.A X.stack s1 (cK H1 cs):=⟨e0.frames,e0.mod,λb o e=>⟨(e0.bs b o e).1,by rw[Q8 (nob b o e)];exact(e0.bs b o e).2⟩,e0.bsz,e0.funs,λb hb=>by
   cases z:cs.lookup b with
   |none=>rw[Q8 z];exact e0.frf b hb
   |some o=>exact absurd hb (nofr b o z),LA e0.hok λb o z=>⟨(hn b o z).1,(hn b o z).2.1⟩,e0.bare⟩
  have cl1:=xV qc za I1 E1 (λp hp=>aBB _ hp) hA (md1.same sm) c1;have cl2:=xV qu ki I1 E1 (λp hp=>aAE _ hp) hA (md2.same sm) c2;rw[xb]at cl1 cl2;have hl:us.length=ps3.length:=by rw[<-r.length,h3];rfl
  have hbs:=hb s1 us I1.kIn (by rw[aBu];exact hl);rw[aBu]at hbs;refine aFz (aDl (FF.run X.A X.stack s1 (cK H1 cs) ⟨us,[]⟩ us _ (λv H'=>Q v (Q6 H' cs)) (λ_ _ _=>False) hr e2 hbs r ⟨O,v1,d1,zb,_,fa2,_,d,rfl,r1.same smf,cl1,cl2,E2.trk,E2.tab,qX I1 O E1.trk,em,λv H' s2 r2=>?_⟩) λrr s' hq=>?_)
  ·have hz:∀b o,cs.lookup b=some o->H' b=some (.frz o (.own b)):=λb o z=>s2 _ _ (eV z);refine qq v _ (λb u e=>w9 hz (s2 b u<|smf b u e) λo z _=>?_) (r2.hid hz);rw[hn0 b o z]at e;cases e
  ·cases rr with
   |error e=>exact hq.elim
   |ok fl=>
    cases fl with
    |next=>exact aAg hq
    |brk=>exact aAg hq
    |cont=>exact aAg hq
    |ret u=>obtain⟨v,H',os,bare,un,hok,rv,qv⟩:=hq;obtain⟨U2,k2,_⟩:=gk un hok hn;exact I1.after ⟨v,_,os,bare,U2,k2,rv,qv⟩
def JD (qc:NstOk X k n1)(qu:NstOk X k n2)(za:ClosOk X n1 clos1)(ki:ClosOk X n2 clos2)(hA:∀x b,(x,b)∈clos1++clos2->X.env.cells.lookup x=some b)(hB:iI X.mg X.base)(kr:X.env.code=.ref c)(hK:PySem.W.codeHdIn X.K c Pt=true)(hTt:(Pt,tb)∈Tabs.tbs)(hm1:(n1.pos,n1.qual)∈tb)(md:(n2.pos,n2.qual)∈tb)(fu:∀p∈tb,p.1.line=n1.pos.line->p.1.col=n1.pos.col->p.2=n1.qual)(hu2:∀p∈tb,p.1.line=n2.pos.line->p.1.col=n2.pos.col->p.2=n2.qual)(bc:n1.i≠n2.i)(hN:X.N.Nodup)(FF:FnOk X.prog X.w X.K X.mg X.base vE kf g gd ps3 (spF X.K (JM X.prog X.w X.K X.mg X.base (k+1) 1) M))(hr:Room kf X.A)(hm:X.mg x=some (.ref g))(hk:PySem.W.keepIn X.K (.ref g)=true)(hb:Binds X.K gd ps3 [])(h3:ps3.length=3)(he:PD X e f)(yh:∀y,X.fn y=true)(hg:Gl X x:=by rfl)(de:(x==("__debug__":Str))=false:=by decide)(zi:starEach [e,.Name n1.name p1,.Name n2.name p2] X.env=(false,eval e X.env)::starEach [.Name n1.name p1,.Name n2.name p2] X.env:=by rfl)(hs2:starEach [.Name n1.name p1,.Name n2.name p2] X.env=(false,eval (.Name n1.name p1) X.env)::starEach [.Name n2.name p2] X.env:=by rfl)(hs3:starEach [.Name n2.name p2] X.env=(false,eval (.Name n2.name p2) X.env)::starEach [] X.env:=by rfl)(bh:(backTo pos (starEach [.Name n1.name p1,.Name n2.name p2] X.env)).any (·.1)=false:=by rfl):
  X8 X [n1.stmt,n2.stmt,.Return (some (.Call (.Name x p) [e,.Name n1.name p1,.Name n2.name p2] [] pos)) rpos] (λρ=>((f ((ρ.set n1.i .no).set n2.i .no)).bind λd1=>(dW n1.js ((ρ.set n1.i .no).set n2.i .no)).bind λw1=>(dW n2.js ((ρ.set n1.i .no).set n2.i .no)).bind λw2=>M d1 (n1.mm w1) (n2.mm w2)).bind λd=>.ok (.rt d)):=by
 intro Ha O0 pins s σ H D I ⟨O,ρ,E,fk,q⟩;refine aCF (yE (σ:=σ) I hB kr hK (E.tab _ hTt) za.qn hm1 fu za.eq qc.d0 qc.k0 za.ann hN qc.nm qc.lc qc.st λzb H1 s1 I1 sm1 md1=>?_);have E1:EnvOk X.K Ha O0 H1 O (σ.set n1.i<|some<|.ref zb) (ρ.set n1.i .no):=(E.grow sm1).put n1.i (λz=>z) trivial;refine aCF (yE (σ:=σ.set n1.i (some<|.ref zb)) I1 hB kr hK (E1.tab _ hTt) ki.qn md hu2 ki.eq qu.d0 qu.k0 ki.ann hN qu.nm qu.lc qu.st λfa2 H2 s2 I2 zl md2=>?_);have E2:EnvOk X.K Ha O0 H2 O ((σ.set n1.i<|some<|.ref zb).set n2.i (some<|.ref fa2)) ((ρ.set n1.i .no).set n2.i .no):=(E1.grow zl).put n2.i (λz=>z) trivial;have l1:n1.i<σ.length:=by rw[I.len];exact(aAz.mp qc.nm).1
 have l2:n2.i<σ.length:=by rw[I.len];exact(aAz.mp qu.nm).1
 refine FN (NG<|UY qc qu za ki hA FF hr hm hk hb h3 he yh hg de zi hs2 hs3 bh) pins s2 _ H2 D I2 ⟨Ha,O0,O,_,zb,fa2,E2,?_,?_,md1.same zl,md2,?_⟩
 ·rw[aCr (aCh bc),aBt l1]
 ·rw[aBt (by rw[List.length_set];exact l2)]
 ·revert q;dsimp only;generalize((f<|(ρ.set n1.i .no).set n2.i .no).bind λd1=>(dW n1.js<|(ρ.set n1.i .no).set n2.i .no).bind λw1=>(dW n2.js<|(ρ.set n1.i .no).set n2.i .no).bind λw2=>M d1 (n1.mm w1) (n2.mm w2))=rr;intro q;cases rr with
  |ok d=>exactλv H' s r=>q v H' (E2.same.trans s) (r.sub E2.sub)
  |ex z=>exactλH' s=>q H' (E2.same.trans s)
  |bad=>exact q
end
def uR (K:PySem.W.Frag):Sp:=λvs H Q _=>∃(a:Addr) (ns:List Int),vs=[.ref a]/\O6 K H a (ns.map V.int)/\ns.length<=63/\(∀x∈ns,aAT x<=1048576)/\Tb H/\∀H',Q (.bl true) H'
def RH {P:Program}{w:World}{K:PySem.W.Frag}{mg:Y0}{base:Heap}{k:Nat}{f:Addr}{fd:FuncData}{m:List D->R D}(F:FnOk P w K mg base vE k f fd ["script"] (gy K 1 m))
  (h:∀ns:List Int,ns.length<=63->(∀x∈ns,aAT x<=1048576)->m [.lst (ns.map D.int)]=.ok (.bl true)):FnOk P w K mg base vE k f fd ["script"] (uR K):=
 F.imp λvs H Q E ⟨a,ns,e,hS,hl,hb,tb,q⟩=>⟨λ_=>False,_,_,by rw[e];exact .cons (.lst hS (λz=>z) (Reps.ints ns)) .nil,rfl,λ_ z=>z.elim,tb,λ_ _ _ z=>z,h ns hl hb,λv H' _ r=>by cases r;exact q H'⟩
def IL {P:Program}{w:World}{K:PySem.W.Frag}{mg mb:Y0}{k:Nat}{fa a:Addr}{fd:FuncData}{ah:Shared}{vs:List Value}{ns:List Int}
  (KX:K.In ah.heap) (zg:ah.heap.Ns mainGlobals mg) (hb:ah.heap.Ns builtinsNs mb) (hbb:∀x:Str,x≠ "__name__"->mb x=bootBuiltins x) (hlim:ah.heap.NoLimit) (hB:iI mg ah.heap) (hg:ah.gens=#[])
  (ha:ah.heap.get? a=some {cls:=.type "list",data:=.seq vs.toArray}) (hi:IntsAre vs ns) (hl:ns.length<=63) (yb:∀x∈ns,aAT x<=1048576) (hr:Room k callerA)
  (hT:∀p∈Tabs.tbs,ah.heap.get? p.1=some (PySem.W.tabObj #[])/\isCodeTable ah.heap p.1) (hTd:(Tabs.tbs.map (·.1)).Nodup) (hKn:PySem.W.noTabs K=true)
  (F:∀base:Heap,K.In base->base.Ns mainGlobals mg->iI mg base->FnOk P w K mg base vE k fa fd ["script"] (uR K)) (ya:∀(s:Shared) (u:Value),BindsTo s fd ⟨[u],[]⟩ [("script",u)]):
  codeAny (model P w) callerA (.call (.ref fa) ⟨[.ref a],[]⟩) (λr s'=>r=.ok (.ret (.bool true))/\OldK ah.heap s'.heap/\s'.os=ah.os/\AllBare s'.gens) ah:=by
 have rv:=L2.tM hi;have lenV:=hi.length;have jb:ns.length<=sizeLine:=aAr hl (by decide);have ve:∀b tb,Tabs.tbs.lookup b=some tb->ah.heap.get? b=some (PySem.W.tabObj #[])/\isCodeTable ah.heap b:=λb tb e=>hT (b,tb) (mem_lookup e);have nta:Tabs.tbs.lookup a=none:=by
  cases e:Tabs.tbs.lookup a with
  |none=>rfl
  |some tb=>have:=(ve a tb e).1;rw[ha]at this;cases this
 have noK:∀b o,K.lookup b=some o->Tabs.tbs.lookup b=none:=λb o e=>by
  cases z:Tabs.tbs.lookup b with
  |none=>rfl
  |some tb=>have e1:=KX b o e;rw[(ve b tb z).1]at e1;cases e1;have h2:=aBz.mp hKn (b,_) (PySem.W.mem_of_lookupK e);exact absurd (show false=true from h2) aAL
 let put:Hp->Hp:=λH b=>match Tabs.tbs.lookup b with
  |some tb=>some (.tbl tb)
  |none=>H b
 have oM:∀(H:Hp) b tb,Tabs.tbs.lookup b=some tb->put H b=some (.tbl tb):=λH b tb e=>by show(match Tabs.tbs.lookup b with|some tb=>some (HO.tbl tb)|none=>H b)=_;rw[e]
 have ip:∀(H:Hp) b,Tabs.tbs.lookup b=none->put H b=H b:=λH b e=>by show(match Tabs.tbs.lookup b with|some tb=>some (HO.tbl tb)|none=>H b)=_;rw[e]
 have core:∀H0:Hp,(∀b,H0 b=none\/∃xs,H0 b=some (.frz {cls:=.type "list",data:=.seq vs.toArray} (.lst xs)))->O6 K (put H0) a (ns.map V.int)->(∀b u,H0 b=some u->ObjOk P w (put H0) ah.heap b u)->(∀b,H0 b≠none->b=a)->(H0 a≠none->K.lookup a=none)->
   codeAny (model P w) callerA (.call (.ref fa) ⟨[.ref a],[]⟩) (λr s'=>r=.ok (.ret (.bool true))/\OldK ah.heap s'.heap/\s'.os=ah.os/\AllBare s'.gens) ah:=by
  intro H0 hO hS hok0 hA hK;have hok:aM P w (put H0) ah.heap:=λb u e=>by
   cases z:Tabs.tbs.lookup b with
   |none=>rw[ip _ b z]at e;exact hok0 b u e
   |some tb=>rw[oM _ b tb z]at e;cases e;exact⟨#[],(ve b tb z).1,trivial,λp _=>.inl rfl⟩
  have og:∀{b:Addr} {o:Obj},ah.heap.get? b=some o->put H0 b=none->(rC ah.heap<|put H0).get? b=some o:=λe n=>ME e n;have none_of:∀{b:Addr} {o:Obj},ah.heap.get? b=some o->o≠PySem.W.tabObj #[]->o≠{cls:=.type "list",data:=.seq vs.toArray}->put H0 b=none:=λ{b o} e n1 n2=>by
   cases z:Tabs.tbs.lookup b with
   |some tb=>have:=(ve b tb z).1;rw[e]at this;exact absurd (aAj this) n1
   |none=>
    rw[ip _ b z];cases q:H0 b with
    |none=>rfl
    |some u=>have e':b=a:=hA b (by rw[q];simp);subst e';rw[ha]at e;exact absurd (aAj e).symm n2
  have nsK:∀{b:Addr} {m:Y0},ah.heap.Ns b m->(rC ah.heap<|put H0).Ns b m:=λ{b m} ⟨o,es,ep,e,d,r⟩=>⟨o,es,ep,og e (none_of e (λz=>by rw[z]at d;cases d) λz=>by rw[z]at d;cases d),d,r⟩;have hKb:K.In (rC ah.heap<|put H0):=λb o e=>og (KX b o e) (by
   rw[ip _ b (noK b o e)];cases q:H0 b with
   |none=>rfl
   |some u=>have e':b=a:=hA b (by rw[q];simp);subst e';rw[hK (by rw[q];simp)]at e;cases e)
  have hBb:iI mg (rC ah.heap<|put H0):=by obtain⟨bm,ob,b1,b2,b3,b4,b5,b6⟩:=hB;exact⟨bm,ob,b1,b2,og b3 (none_of b3 (λz=>by rw[z]at b6;cases b6) λz=>by rw[z]at b6;cases b6),b4,b5,b6⟩
  have hM:Mod K mg (rC ah.heap<|put H0):=⟨hKb,nsK zg,⟨mb,nsK hb,hbb⟩,let⟨mc,h1,h2⟩:=hlim;⟨mc,nsK h1,h2⟩⟩;have e0:Env0 P w K mg (rC ah.heap<|put H0) callerA [] ah (put H0):=⟨rfl,hM,λb o e=>RT e,aDT (GI _ _),trivial,λb hb=>absurd (show b∈([]:List Addr)from hb) (by simp),hok,.of_eq hg⟩;have tb0:Tb (put H0):=λp hp=>oM _ p.1 p.2 (bR hTd hp);refine aDl ((F _ hKb (nsK zg) hBb).run callerA [] ah (put H0) ⟨[.ref a],[]⟩ [.ref a] [.ref a] (λv _=>v=.bl true) (λ_ _ _=>False) hr e0 (ya ah<|.ref a) (.cons rfl .nil) ⟨a,ns,rfl,hS,hl,yb,tb0,λ_=>rfl⟩) λr s' h=>?_;cases r with
  |error e=>exact(show False from h).elim
  |ok fl=>
   cases fl with
   |next=>exact aAg h
   |brk=>exact aAg h
   |cont=>exact aAg h
   |ret u=>
    obtain⟨v,H',os,bare,un,zo,r',q⟩:=h;have q':v=.bl true:=q;subst q';obtain rfl:u=aCE true:=r';have each:∀b o,ah.heap.get? b=some o->s'.heap.get? b=some o\/(isCodeTable ah.heap b/\o=PySem.W.tabObj #[]/\∃ps,s'.heap.get? b=some (PySem.W.tabObj ps)):=λb o e=>by
     cases z:Tabs.tbs.lookup b with
     |some tb=>have:=(ve b tb z).1;rw[e]at this;obtain⟨ps,hps,_⟩:=zo b _ (un.tbls b tb<|oM _ b tb z);exact .inr ⟨(ve b tb z).2,aAj this,ps,hps⟩
     |none=>
      refine .inl ?_;rcases hO b with n|⟨xs,n⟩
      ·exact un.keep b o e (by rw[ip _ b z];exact n) (by intro z;exact absurd (show b∈([]:List Addr)from z) (by simp)) (by simp)
      ·have z1:put H0 b=some (.frz {cls:=.type "list",data:=.seq vs.toArray} (.lst xs)):=by rw[ip _ b z];exact n
       have z2:=un.frzs b _ _ z1;obtain⟨e1,_⟩:=hok b _ z1;obtain⟨e2,_⟩:=zo b _ z2;rw[e]at e1;cases e1;exact e2
    refine⟨rfl,⟨λb o e=>?_,λb o e=>?_⟩,os,bare⟩
    ·rcases each b o e with h|⟨h1,h2,ps,h3⟩
     ·exact .inl h
     ·subst h2;exact .inr (.inl ⟨h1,rfl,#[],ps,rfl,by rw[Array.empty_append];exact h3⟩)
    ·rcases each b o e with h|⟨h1,h2,ps,h3⟩
     ·exact⟨o,h⟩
     ·exact⟨_,h3⟩
 cases hk:K.lookup a with
 |some o=>have e:=KX a o hk;rw[ha]at e;cases e;refine core (λ_=>none) (λ_=>.inl rfl) (.inr ⟨_,vs.toArray,_,hk,rfl,rfl,rfl,by rw[aAl,lenV];exact jb,by simpa using rv⟩) (λb u z=>by have z':(none:Option HO)=some u:=z;cases z') (λb z=>absurd rfl z) λz=>absurd rfl z
 |none=>
  obtain⟨H0,h1,h2⟩:∃H0:Hp,H0 a=some (.frz {cls:=.type "list",data:=.seq vs.toArray} (.lst (ns.map V.int)))/\∀b,b≠a->H0 b=none:=⟨λb=>if b=a then _ else none,if_pos rfl,λb hb=>if_neg hb⟩;refine core H0 (λb=>?_) (.inl (.inr ⟨{cls:=.type "list",data:=.seq vs.toArray},(ip H0 a nta).trans h1⟩)) (λb u z=>?_) (λb z=>?_) λ_=>hk
  ·by_cases hb:b=a
   ·subst hb;exact .inr ⟨_,h1⟩
   ·exact .inl (h2 b hb)
  ·by_cases hb:b=a
   ·subst hb;rw[h1]at z;cases z;exact⟨ha,by rw[aAm];exact jb,vs,_,rv,ha⟩
   ·rw[h2 b hb]at z;cases z
  ·by_cases hb:b=a
   ·exact hb
   ·exact absurd (h2 b hb) z
def SW {l:PySem.W.OpenLaw}{k:Nat}{q:Program}{loose:List Str}{XP:(Str->Option Value)->Heap->Prop}{YP:World->Heap->Prop}{d:DefRec}{K:Params->PySem.W.Frag}{ts:List Addr}
  (hn:l.most=some 63) (hdf:d.params.defaults=[]) (hr:Room k callerA)
  (hY:∀(w:World) (h:Heap),YP w h->(K w.params).In h/\∀P∈ts,h.get? P=some (PySem.W.tabObj #[]))
  (hTs:∀p∈Tabs.tbs,p.1∈ts/\∃c,∀w:World,PySem.W.codeHdIn (K w.params) c p.1=true) (hTd:(Tabs.tbs.map (·.1)).Nodup) (hKn:∀w:World,PySem.W.noTabs (K w.params)=true)
  (F:∀(w:World) (mg:Y0) (fa:Addr) (h:Heap),(K w.params).In h->h.Ns mainGlobals mg->mg d.name=some (.ref fa)->
   ∃fd:FuncData,(∀(s:Shared) (u:Value),BindsTo s fd ⟨[u],[]⟩ [("script",u)])/\
    ∀base:Heap,(K w.params).In base->base.Ns mainGlobals mg->iI mg base->FnOk l.prog w (K w.params) mg base vE k fa fd ["script"] (uR (K w.params))):
  PySem.W.WalkO q loose XP YP l.row.toRowW d [] (λf vs=>PySem.call f vs):=by
 refine Att2.attach_bits hn hdf λw se ah mg mb fa o pm cd doc a vs ns G Y ho hd eu je hobj hints hlen yb hg=>?_;obtain⟨KX,hT⟩:=hY w _ Y;obtain⟨fd,hb,hF⟩:=F w mg fa _ KX G.T.g je;refine IL KX G.T.g G.T.b G.T.builtins G.T.nolimit G.T.bmain hg hobj hints hlen yb hr (λp hp=>?_) hTd (hKn w) hF hb;obtain⟨h1,c,h2⟩:=hTs p hp;have h3:=hT p.1 h1;exact⟨h3,((PySem.W.codeHd_of_K KX<|h2 w).tab h3).isCodeTable⟩
section
variable{K:PySem.W.Frag}
structure FunC (K:PySem.W.Frag)(x qual:Str)(st:Stmt)(f:Addr)(fd:FuncData)(cd:Addr):Prop where
 ex:∃(oc:Value) (od:Option Addr) (kV doc pm:Value) (an:Option Addr) (ct:Value) (osl:Array (Option Value)),
  fd=PySem.W.fnOf x qual (G7 st) (q8 st) (c6 st) .none kV doc pm an (.ref cd) ct/\K.lookup f=some ⟨oc,od,.func fd,osl⟩/\PySem.W.codeIn K (.ref cd) qual=true
 kp:PySem.W.keepIn K (.ref f)=true
omit [Tabs]in
def FunC.fn {x qual:Str}{st:Stmt}{f:Addr}{fd:FuncData}{cd:Addr}(F:FunC K x qual st f fd cd):Fun K x qual st f fd:=
 let⟨oc,od,kV,doc,pm,an,ct,osl,h1,h2,h3⟩:=F.ex
 ⟨⟨oc,od,kV,doc,pm,an,.ref cd,ct,osl,h1,h2,h3⟩,F.kp⟩
omit [Tabs]in
def SL {x qual:Str}{st:Stmt}{f cd:Addr}{oc:Value}{od an:Option Addr}{osl:Array (Option Value)}{kV doc pm cdv ct:Value}(l:K.lookup f=some ⟨oc,od,.func (PySem.W.fnOf x qual (G7 st) (q8 st) (c6 st) .none kV doc pm an cdv ct),osl⟩)
  (e:cdv=.ref cd) (c:PySem.W.codeIn K cdv qual=true) (k:PySem.W.keepIn K (.ref f)=true):FunC K x qual st f (PySem.W.fnOf x qual (G7 st) (q8 st) (c6 st) .none kV doc pm an cdv ct) cd:=by
 subst e;exact⟨⟨oc,od,kV,doc,pm,an,ct,osl,rfl,l,c⟩,k⟩
def a2o {x qual:Str}{st:Stmt}{f cd:Addr}{fd:FuncData}{N ps:List Str}{k:Nat}{m:List D->R D}{F:Ev->R Out}(F0:FunC K x qual st f fd cd)(S:FnScope N ps (c6 st))
  (hb:∀(A:Around) (outer:List Env) (s:Shared) (H:Hp) (E:XK),Room k (A.deeper (envOfC qual (c6 st) s.heap.objs.size f (.ref cd)))->X8 (UG P w K mg base N qual (c6 st) f (.ref cd) A outer s H E) (q8 st) F)
  (hm:∀ds d,ds.length=ps.length->m ds=.ok d->T6 (F (i3 N ds))=.ok d):FnOk P w K mg base vE (k+1) f fd ps (gy K ps.length m):=by
 obtain⟨oc,od,kV,doc,pm,an,ct,osl,rfl,lk,eu⟩:=F0.ex;refine KJ lk eu S (λvs H Q E ⟨O,ds,d,r,hl,_⟩=>by rw[r.length];exact hl) λA outer s H vs Q E hr ⟨O,ds,d,r,hl,ht,tb,fk,e,q⟩=>?_;refine⟨_,uF.nox (hb A outer s H E hr H O),O,_,lI r ht tb,fk,?_⟩;have h:=hm ds d hl e;cases e1:F (i3 N ds)with
 |ok o=>
  rw[e1]at h;cases o with
  |rt d'=>have h':R.ok d'=R.ok d:=h;injection h' with h';subst h';exact q
  |nx ρ=>have h':R.ok D.non=R.ok d:=h;injection h' with h';subst h';exactλao H' O' E' _ _=>q .non H' E'.same .non
  |bk ρ=>cases h
  |ct ρ=>cases h
 |ex x=>rw[e1]at h;cases h
 |bad=>rw[e1]at h;cases h
def RJ {x qual:Str}{st:Stmt}{f cd:Addr}{fd:FuncData}{N ps:List Str}{k:Nat}{m:List D->R D}{F:Ev->R Out}(F0:FunC K x qual st f fd cd)(S:FnScope N ps (c6 st))(xm:Binds K fd ps [])(je:mg x=some (.ref f))
  (hb:∀(A:Around) (outer:List Env) (s:Shared) (H:Hp) (E:XK),Room k (A.deeper (envOfC qual (c6 st) s.heap.objs.size f (.ref cd)))->X8 (UG P w K mg base N qual (c6 st) f (.ref cd) A outer s H E) (q8 st) F)
  (hm:∀ds d,ds.length=ps.length->m ds=.ok d->T6 (F (i3 N ds))=.ok d):u4 P w K mg base (k+1) x ps.length m:=
 ⟨f,fd,ps,a2o F0 S hb hm,xm,F0.kp,je⟩
def UD (P:Program)(w:World)(K:PySem.W.Frag)(mg:Y0)(base:Heap)(k kc:Nat)(x:Str)(M:D->(List D->R D)->(List D->R D)->R D):Prop:=
 ∃g gd ps,FnOk P w K mg base vE k g gd ps (spF K (JM P w K mg base kc 1) M)/\Binds K gd ps []/\PySem.W.keepIn K (.ref g)=true/\mg x=some (.ref g)/\ps.length=3
def UF {x qual:Str}{st:Stmt}{f:Addr}{fd:FuncData}{N ps:List Str}{k kc:Nat}{M:D->(List D->R D)->(List D->R D)->R D}{F:Ev->R Out}(F0:Fun K x qual st f fd)(S:FnScope N ps (c6 st))(h3:ps.length=3)(xm:Binds K fd ps [])(je:mg x=some (.ref f))
  (hb:∀(cdv:Value) (A:Around) (outer:List Env) (s:Shared) (H:Hp) (E:XK),Room k (A.deeper (envOfC qual (c6 st) s.heap.objs.size f cdv))->X8 (UG P w K mg base N qual (c6 st) f cdv A outer s H E) (q8 st) F)
  (hm:∀d1 m1 m2 d,M d1 m1 m2=.ok d->T6 (F (jX N (JM P w K mg base kc 1) d1 m1 m2))=.ok d):UD P w K mg base (k+1) kc x M:=
 ⟨f,fd,ps,fnF F0 S h3 hb hm,xm,F0.kp,je,h3⟩
end
section
def zF (i:Nat){Φ:(List D->R D)->Hp->(Addr->Prop)->Addr->Prop}(hΦ:JM X.prog X.w X.K X.mg X.base k n=Φ)(ha:qH X (e::es) f)(hl:yD f n)(hr:Room k X.A)(hN:X.N[i]?=some x:=by rfl)(hv:sF X.env.scope x:=by first|exact aBY rfl|exact aBk (aBY rfl)|exact aBk (aBk rfl))(hd:(x==("__debug__":Str))=false:=by decide)(eu:(x==("__classdict__":Str))=false:=by decide)(he:starEach (e::es) X.env=(false,eval e X.env)::starEach es X.env:=by rfl)(bh:(backTo pos (starEach es X.env)).any (·.1)=false:=by rfl):
  PD X (.Call (.Name x p) (e::es) [] pos) (callC Φ i f):=by
 subst hΦ;exact PZ i ha hl hr hN hv hd eu he bh
def AQ (qc:NstOk X k n1)(qu:NstOk X k n2)(za:ClosOk X n1 clos1)(ki:ClosOk X n2 clos2)(hA:∀x b,(x,b)∈clos1++clos2->X.env.cells.lookup x=some b)(hB:iI X.mg X.base)(kr:X.env.code=.ref c)(hK:PySem.W.codeHdIn X.K c Pt=true)(hTt:(Pt,tb)∈Tabs.tbs)(hm1:(n1.pos,n1.qual)∈tb)(md:(n2.pos,n2.qual)∈tb)(fu:∀p∈tb,p.1.line=n1.pos.line->p.1.col=n1.pos.col->p.2=n1.qual)(hu2:∀p∈tb,p.1.line=n2.pos.line->p.1.col=n2.pos.col->p.2=n2.qual)(bc:n1.i≠n2.i)(hN:X.N.Nodup)(cf:UD X.prog X.w X.K X.mg X.base kf (k+1) x M)(hr:Room kf X.A)(he:PD X e f)(yh:∀y,X.fn y=true)(hg:Gl X x:=by rfl)(de:(x==("__debug__":Str))=false:=by decide)(zi:starEach [e,.Name n1.name p1,.Name n2.name p2] X.env=(false,eval e X.env)::starEach [.Name n1.name p1,.Name n2.name p2] X.env:=by rfl)(hs2:starEach [.Name n1.name p1,.Name n2.name p2] X.env=(false,eval (.Name n1.name p1) X.env)::starEach [.Name n2.name p2] X.env:=by rfl)(hs3:starEach [.Name n2.name p2] X.env=(false,eval (.Name n2.name p2) X.env)::starEach [] X.env:=by rfl)(bh:(backTo pos (starEach [.Name n1.name p1,.Name n2.name p2] X.env)).any (·.1)=false:=by rfl):
  X8 X [n1.stmt,n2.stmt,.Return (some (.Call (.Name x p) [e,.Name n1.name p1,.Name n2.name p2] [] pos)) rpos] (λρ=>((f ((ρ.set n1.i .no).set n2.i .no)).bind λd1=>(dW n1.js ((ρ.set n1.i .no).set n2.i .no)).bind λw1=>(dW n2.js ((ρ.set n1.i .no).set n2.i .no)).bind λw2=>M d1 (n1.mm w1) (n2.mm w2)).bind λd=>.ok (.rt d)):=by
 obtain⟨g,gd,ps,FF,hb,hk,hm,h3⟩:=cf;exact JD qc qu za ki hA hB kr hK hTt hm1 md fu hu2 bc hN FF hr hm hk hb h3 he yh hg de zi hs2 hs3 bh
end
end DL
namespace DL
open PySem L2
def _root_.L2.Room.ae4 (r:Room k A):A.units+130<cLine:=by have:=r.un;lia
def _root_.L2.Room.ae3 (r:Room k A)(h:7<=k):A.units+300<cLine:=by have:=r.un;lia
def JH {y:Str}{b0:Addr}{cells:List (Str×Addr)}(h:cells.lookup y=some b0:=by rfl):∀(x:Str) (b:Addr),(x,b)∈[(y,b0)]++[(y,b0)]->cells.lookup x=some b:=λx b hm=>by
 have:(x,b)=(y,b0):=by simpa using hm
 injection this with h1 h2;subst h1 h2;exact h
def FW {sc:Scope}{fn:List Str}{x:Str}(h:sc.names.lookup x=some .free)(hs:(sc.names.all λp=>p.2 !=.free||fn.contains p.1)=true:=by decide+kernel):x∈fn:=by have h1:=aBz.mp hs _ (PySem.mem_of_lookup h);simpa using h1
def EN:Stmt->Pos
 |.FunctionDef _ _ _ _ _ _ _ _ _ p=>p
 |_=>⟨0,0,0,0⟩
end DL
namespace G
def iK {a b:V}(h:a-b=0):a=b:=by have q1:=congrArg V.x h;have q2:=congrArg V.y h;have q3:=congrArg V.z h;simp at q1 q2 q3;exact ext (by lia) (by lia) (by lia)
def IsFace.aa5 (ho:pts.Pairwise (λa b=>i8 (b-a)))(h:IsFace pts n d):Sheet n (G5 n d pts)where
 nz:=h.prim.ne
 pl:=λX hX Y hY=>by have:=(f9.mp hX).2;have:=(f9.mp hY).2;rw[i6];lia
 ord:=aFG _ ho
 two:=by obtain⟨A,hA,B,hB,C,hC,a,b,c,e⟩:=h.three;refine⟨A,f9.mpr ⟨hA,a⟩,B,f9.mpr ⟨hB,b⟩,λz=>e ?_⟩;subst z;rw[y6];apply ext<;>simp
def IsFace.ac6 {pts:List V}{n:V}{d:Int}(h:IsFace pts n d){a b:V}(he:EdgeOf n (λX=>X∈G5 n d pts) a b):∃X∈G5 n d pts,0<i4 n (b-a) (X-a):=by
 by_cases z:∃X∈G5 n d pts,0<i4 n (b-a) (X-a)
 ·exact z
 ·exfalso;have hn:=h.prim.ne;obtain⟨pa,da⟩:=f9.mp he.p;obtain⟨pb,db⟩:=f9.mp he.q;have hba:f8 n (b-a)=0:=by rw[i6];lia
  have bc:b-a≠0:=λe=>he.ne (iK e).symm;have k:∀X∈pts,f8 n X=d->cr (b-a) (X-a)=0:=λX hX dX=>by have tX:=f9.mpr ⟨hX,dX⟩;have l:=he.left X tX;have l':¬0<i4 n (b-a) (X-a):=λq=>z ⟨X,tX,q⟩;exact iB hn hba (by rw[i6];lia) (by lia)
  obtain⟨A,hA,B,hB,C,hC,eA,eB,eC,e⟩:=h.three;have k2:∀X∈pts,f8 n X=d->∀Y∈pts,f8 n Y=d->cr (X-Y) (b-a)=0:=λX hX dX Y hY dY=>by have q1:=k X hX dX;have q2:=k Y hY dY;have a1:=congrArg V.x q1;have a2:=congrArg V.y q1;have a3:=congrArg V.z q1;have b1:=congrArg V.x q2;have b2:=congrArg V.y q2;have b3:=congrArg V.z q2;simp at a1 a2 a3 b1 b2 b3;apply ext<;>simp<;>grind
  exact e (vH bc (k2 B hB eB A hA eA)<|k2 C hC eC A hA eA)
def ZQ (hs:A5 pts)(hf:IsFace pts n d)(hg:IsFace pts m e)(h1:EdgeOf n (λX=>X∈G5 n d pts) a b)(h2:EdgeOf m (λX=>X∈G5 m e pts) b a)(hX:X∈G5 n d pts)(hx:0<i4 n (b-a) (X-a)):f8 m X<e:=by
 obtain⟨pX,dX⟩:=f9.mp hX;have le:=hg.sup X pX;by_cases z:f8 m X=e
 ·exfalso;obtain⟨pa,da⟩:=f9.mp h1.p;obtain⟨pb,db⟩:=f9.mp h1.q;obtain⟨_,ea⟩:=f9.mp h2.q;obtain⟨_,eb⟩:=f9.mp h2.p;obtain⟨Z,hZ,hz⟩:=hs.below hf.prim.ne hf.sup;have hc:cr (b-a) (X-a)≠0:=λq=>by unfold i4 at hx;rw[q,W9]at hx;lia
  obtain⟨rfl,rfl⟩:=nD hf.prim hg.prim hf.sup hg.sup da db dX ea eb z hc hZ hz;have:=h2.left X hX;have e1:i4 n (a-b) (X-b)=-i4 n (b-a) (X-a):=by simp[i4,f8];grind
  lia
 ·lia
def yH:List V->V
 |[]=>0
 |X::l=>X+yH l
theorem oE (n:V):∀l:List V,f8 n (yH l)=(l.map (f8 n)).sum
 |[]=>W9 n
 |X::l=>by simp only[yH,aAu,aDL];rw[bO,oE n l]
theorem BZ {α:Type}(f g:α->Int):∀l:List α,(∀x∈l,f x<=g x)->(l.map f).sum<=(l.map g).sum
 |[],_=>aCM _
 |x::l,h=>by
  simp only[aAu,aDL];have:=h x (by simp);have:=BZ f g l (λy hy=>h y (aAd _ hy))
  lia
theorem CY {α:Type}(f g:α->Int):∀l:List α,(∀x∈l,f x<=g x)->(∃x∈l,f x<g x)->(l.map f).sum<(l.map g).sum
 |[],_,⟨x,hx,_⟩=>by cases hx
 |x::l,h,⟨y,hy,av⟩=>by
  simp only[aAu,aDL];have h1:=h x (by simp);have h2:=BZ f g l (λy hy=>h y (aAd _ hy));rcases aAe.mp hy with e|e
  ·subst e;lia
  ·have:=CY f g l (λy hy=>h y (aAd _ hy)) ⟨y,e,av⟩
   lia
theorem aW {α:Type}(c:Int):∀l:List α,(l.map λ_=>c).sum=(l.length:Int)*c
 |[]=>by simp
 |x::l=>by simp only[aAu,aDL,aAv];rw[aW c l];push_cast;grind
def C3 (pts:List V)(X:V):V:=(pts.length:Int)*X-yH pts
def T8 (pts:List V)(n:V)(d:Int):Int:=(pts.length:Int)*d-f8 n (yH pts)
def uP (pts:List V)(n X:V):f8 n (C3 pts X)=(pts.length:Int)*f8 n X-f8 n (yH pts):=by unfold C3;rw[i6,w4]
def fC (hs:A5 pts)(hn:n≠0)(h:∀X∈pts,f8 n X<=d):0<T8 pts n d:=by
 unfold T8;rw[oE,<-aW];have:=CY (f8 n) (λ_=>d) pts h (hs.below hn h)
 lia
def len_pos (hs:A5 pts):0<(pts.length:Int):=by
 obtain⟨A,hA,_⟩:=hs;have:0<pts.length:=aDM hA
 lia
def aH (h:f8 n X=d):f8 n (C3 pts X)=T8 pts n d:=by rw[uP,h];rfl
def nR (h:f8 n X<=d):f8 n (C3 pts X)<=T8 pts n d:=by
 rw[uP];unfold T8;have:=aAU h (show(0:Int)<=pts.length by lia)
 lia
def OF (hl:0<(pts.length:Int))(h:f8 n X<d):f8 n (C3 pts X)<T8 pts n d:=by
 rw[uP];unfold T8;have:=aEz h hl
 lia
def TD (pts:List V)(a b X:V):i4 (C3 pts a) (C3 pts b) (C3 pts X)=(pts.length:Int)*(pts.length:Int)*f8 (C3 pts a) (cr (b-a) (X-a)):=by unfold C3;generalize(pts.length:Int)=N;generalize yH pts=s;simp[i4,f8];grind
def zN (h:cr w c=0)(x y:V):f8 w y*f8 c x=f8 w x*f8 c y:=by
 have e:f8 w y*f8 c x-f8 w x*f8 c y=f8 (cr w c) (cr y x):=by simp[f8];grind
 rw[h]at e;have:f8 0 (cr y x)=0:=by simp[f8]
 lia
def EO (hs:A5 pts)(hf:IsFace pts n d)(ha:f8 n a=d)(hb:f8 n b=d)(hX:f8 n X=d)(h:0<i4 n (b-a) (X-a)):0<i4 (C3 pts a) (C3 pts b) (C3 pts X):=by
 rw[TD];have hl:=len_pos hs;refine aBC (aBC hl hl) ?_;have hn:=hf.prim.ne;have p:cr n (cr (b-a)<|X-a)=0:=U5 (by rw[i6];lia) (by rw[i6];lia);have q:=zN p n (C3 pts a);have h1:0<f8 n (C3 pts a):=by rw[aH ha];exact fC hs hn hf.sup
 have h2:0<f8 (cr (b-a)<|X-a) n:=by rw[dI];exact h
 have h3:=aBC h1 h2;have h4:=D6 hn;rw[dI (C3 pts a)];by_cases z:0<f8 (cr (b-a)<|X-a) (C3 pts a)
 ·exact z
 ·exfalso;have:f8 n n*f8 (cr (b-a)<|X-a) (C3 pts a)<=0:=by have:=aAU (show f8 (cr (b-a)<|X-a) (C3 pts a)<=0 by lia) (aAZ h4);simpa using this
  lia
def TN (hs:A5 pts)(hf:IsFace pts n d)(hg:IsFace pts m e)(h1:EdgeOf n (λX=>X∈G5 n d pts) a b)(h2:EdgeOf m (λX=>X∈G5 m e pts) b a)(hB:f8 m B*T8 pts n d<=f8 n B*T8 pts m e):0<=i4 (C3 pts a) (C3 pts b) B:=by
 obtain⟨X,hX,hx⟩:=hf.ac6 h1;have av:=ZQ hs hf hg h1 h2 hX hx;obtain⟨pX,dX⟩:=f9.mp hX;obtain⟨pa,da⟩:=f9.mp h1.p;obtain⟨pb,db⟩:=f9.mp h1.q;obtain⟨_,ea⟩:=f9.mp h2.q;obtain⟨_,eb⟩:=f9.mp h2.p;have c0:=fC hs hf.prim.ne hf.sup;have c1:=fC hs hg.prim.ne hg.sup;have dp:=EO hs hf da db dX hx;by_cases z:0<=i4 (C3 pts a) (C3 pts b) B
 ·exact z
 ·exfalso;have wd:∀y,f8 (T8 pts n d*m-T8 pts m e*n) y=T8 pts n d*f8 m y-T8 pts m e*f8 n y:=λy=>by rw[dI,i6,w4,w4,dI y m,dI y n]
  have wa:f8 (T8 pts n d*m-T8 pts m e*n) (C3 pts a)=0:=by rw[wd,aH da,aH ea];grind
  have wb:f8 (T8 pts n d*m-T8 pts m e*n) (C3 pts b)=0:=by rw[wd,aH db,aH eb];grind
  have wx:f8 (T8 pts n d*m-T8 pts m e*n) (C3 pts X)<0:=by
   rw[wd,aH dX];have h3:=OF (len_pos hs) av;have:=aEz h3 c0;have e1:T8 pts m e*T8 pts n d=T8 pts n d*T8 pts m e:=aGl _ _
   lia
  have p:=zN (U5 wa wb) (C3 pts X) B;have e2:f8 (cr (C3 pts a)<|C3 pts b) (C3 pts X)=i4 (C3 pts a) (C3 pts b) (C3 pts X):=U1 _ _ _;have e3:f8 (cr (C3 pts a)<|C3 pts b) B=i4 (C3 pts a) (C3 pts b) B:=U1 _ _ _;rw[e2,e3]at p;have r:0<f8 (T8 pts n d*m-T8 pts m e*n) (C3 pts X)*i4 (C3 pts a) (C3 pts b) B:=Int.mul_pos_of_neg_of_neg wx (by lia);rw[<-p]at r;have s:0<f8 (T8 pts n d*m-T8 pts m e*n) B:=by
   by_cases q:0<f8 (T8 pts n d*m-T8 pts m e*n) B
   ·exact q
   ·have:=aAS (show f8 (T8 pts n d*m-T8 pts m e*n) B<=0 by lia) (aAZ dp);simp at this;lia
  rw[wd]at s;have e4:f8 m B*T8 pts n d=T8 pts n d*f8 m B:=aGl _ _;have e5:f8 n B*T8 pts m e=T8 pts m e*f8 n B:=aGl _ _
  lia
def AW {a b c d e f:Int}(hb:0<b)(hd:0<d)(hf:0<f)(h1:a*d<=c*b)(h2:c*f<=e*d):a*f<=e*b:=by
 have h3:=aAS h1 (aAZ hf);have h4:=aAS h2 (aAZ hb);have h5:(a*f)*d<=(e*b)*d:=by grind
 exact aEA h5 hd
theorem FZ {α:Type}(p q:α->Int):∀(l:List α),l≠[]->(∀x∈l,0<q x)->∃x∈l,∀y∈l,p y*q x<=p x*q y
 |[],h,_=>absurd rfl h
 |[x],_,_=>⟨x,by simp,λy hy=>by simp at hy;subst hy;exact aCM _⟩
 |x::y::l,_,hq=>by
  obtain⟨z,hz,h⟩:=FZ p q (y::l) (by simp) (λw hw=>hq w (aAd _ hw));by_cases c:p x*q z<=p z*q x
  ·refine⟨z,aAd _ hz,λw hw=>?_⟩;rcases aAe.mp hw with e|e
   ·subst e;exact c
   ·exact h w e
  ·refine⟨x,by simp,λw hw=>?_⟩;rcases aAe.mp hw with e|e
   ·subst e;exact aCM _
   ·exact AW (hq w hw) (hq z<|aAd _ hz) (hq x (by simp)) (h w e) (by lia)
theorem mz (h:V->Int):∀(x:V) (l:List V),0<=h x->(∀z,(x::l).getLast?=some z->h z<=0)->l≠[]->∃u v,(u,v)∈u3 (x::l)/\0<=h u/\h v<=0
 |x,[],_,_,hl=>absurd rfl hl
 |x,y::r,h1,h2,_=>by
  by_cases c:h y<=0
  ·exact⟨x,y,by simp[u3],h1,c⟩
  ·match r,h2 with
   |[],h2=>exact absurd (h2 y rfl) c
   |z::r,h2=>obtain⟨u,v,m,p⟩:=mz h y (z::r) (by lia) (λw hw=>h2 w (by rw[aBa];exact hw)) (by simp);exact⟨u,v,by simp only[u3]at m⊢;exact aAd _ m,p⟩
theorem mF:∀(l:List V) (x z w:V),(x::l).getLast?=some z->(z,w)∈u3 (x::l++[w])
 |[],x,z,w,h=>by simp at h;subst h;simp[u3]
 |y::l,x,z,w,h=>by rw[aBa]at h;have:=mF l y z w h;simp only[aBo,u3]at this⊢;exact aAd _ this
theorem nW:∀(l:List V) (x w:V),∀e∈u3 (x::l),e∈u3 (x::l++[w])
 |[],x,w,e,h=>by simp[u3]at h
 |y::l,x,w,e,h=>by
  simp only[aBo,u3]at h⊢;rcases aAe.mp h with q|q
  ·subst q;simp
  ·exact aAd _ (nW l y w e q)
def gN (ho:pts.Pairwise (λa b=>i8 (b-a)))(hf:IsFace pts n d):∃r s t l,v6 n (G5 n d pts)=r::s::t::l:=by
 have S:=hf.aa5 ho;obtain⟨r,l,e,_⟩:=S.ad6;match l,e with
 |[],e=>
  have h:(r,r)∈aN (v6 n<|G5 n d pts):=by rw[e];simp[aN]
  exact absurd rfl (S.pair h).ne
 |[s],e=>
  have h1:(r,s)∈aN (v6 n<|G5 n d pts):=by rw[e];simp[aN]
  have h2:(s,r)∈aN (v6 n<|G5 n d pts):=by rw[e];simp[aN]
  have g1:=S.pair h1;have g2:=S.pair h2;obtain⟨X,hX,hx⟩:=hf.ac6 g1;have:=g2.left X hX;have e1:i4 n (r-s) (X-s)=-i4 n (s-r) (X-r):=by simp[i4,f8];grind
  lia
 |s::t::l,e=>exact⟨r,s,t,l,e⟩
def IU (hs:A5 pts)(ho:pts.Pairwise (λa b=>i8 (b-a)))(fs:List (V×Int))(bc:fs≠[])(hf:∀f∈fs,IsFace pts f.1 f.2)(hc:∀f∈fs,∀a b,EdgeOf f.1 (λX=>X∈G5 f.1 f.2 pts) a b->∃g∈fs,EdgeOf g.1 (λX=>X∈G5 g.1 g.2 pts) b a)(hn:IsFace pts n d):(n,d)∈fs:=by
 obtain⟨B,hBd⟩:∃B,B=yH ((G5 n d pts).map (C3 pts)):=⟨_,rfl⟩;have dB:∀m,f8 m B=((G5 n d pts).map λX=>f8 m (C3 pts X)).sum:=λm=>by rw[hBd,oE,aBx];rfl
 have cn:=fC hs hn.prim.ne hn.sup;have ub:∀m e,(∀X∈pts,f8 m X<=e)->f8 m B<=((G5 n d pts).length:Int)*T8 pts m e:=λm e hm=>by rw[dB,<-aW];exact BZ _ _ _ λX hX=>nR (hm X (f9.mp hX).1)
 have eB:f8 n B=((G5 n d pts).length:Int)*T8 pts n d:=by rw[dB,<-aW];congr 1;exact List.map_congr_left λX hX=>aH (f9.mp hX).2
 obtain⟨⟨m,e⟩,hm,htop⟩:=FZ (λf:V×Int=>f8 f.1 B) (λf=>T8 pts f.1 f.2) fs bc λf h=>fC hs (hf f h).prim.ne (hf f h).sup;have yc:=hf _ hm;have ins:∀a b,EdgeOf m (λX=>X∈G5 m e pts) a b->0<=i4 (C3 pts a) (C3 pts b) B:=λa b hab=>by obtain⟨g,hg,hg2⟩:=hc _ hm a b hab;exact TN hs yc (hf g hg) hab hg2 (htop g hg)
 have S:=yc.aa5 ho;obtain⟨r,s,t,l,er⟩:=gN ho yc;have nd:=S.aa7;have pr:=λ{P Q}=>S.aa1 (P:=P) (Q:=Q);rw[er]at pr nd;have rm:r∈v6 m (G5 m e pts):=by rw[er];simp
 have on:∀X∈r::s::t::l,f8 m X=e:=λX hX=>by rw[<-er]at hX;exact(f9.mp<|S.aa6 hX).2
 obtain⟨z,hz⟩:∃z,(s::t::l).getLast?=some z:=by simp[aEG]
 have c1:(r,s)∈aN (r::s::t::l):=by rw[bW];simp[u3]
 have c2:(z,r)∈aN (r::s::t::l):=by rw[bW];exact mF _ _ _ _ (by rw[aBa];exact hz)
 have w1:=ins _ _ (pr.mp c1);have w2:=ins _ _ (pr.mp c2);obtain⟨u,v,huv,hu,hv⟩:=mz (λX=>i4 (C3 pts r) (C3 pts X) B) s (t::l) w1 (λy hy=>by
  have:y=z:=aAj (hy.symm.trans hz);subst this;have e1:i4 (C3 pts r) (C3 pts y) B=-i4 (C3 pts y) (C3 pts r) B:=by simp[i4,f8];grind
  lia) (by simp)
 have c3:(u,v)∈aN (r::s::t::l):=by rw[bW];have:=nW (t::l) s r _ huv;simp only[aBo,u3]at this⊢;exact aAd _ this
 have g3:=pr.mp c3;have mu:u∈s::t::l/\v∈s::t::l:=by
  have:=huv;have hh:∀(l:List V) (p q:V),(p,q)∈u3 l->p∈l/\q∈l:=λl=>by
   induction l with
   |nil=>intro p q h;simp[u3]at h
   |cons x l ih=>
    intro p q h;match l,h,ih with
    |[],h,_=>simp[u3]at h
    |y::l,h,ih=>
     simp only[u3]at h;rcases aAe.mp h with c|c
     ·cases c;simp
     ·have:=ih p q c;exact⟨aAd _ this.1,aAd _ this.2⟩
  exact hh _ _ _ huv
 have nr:=(aAM.mp nd).1;have ru:r≠u:=λq=>by subst q;exact nr mu.1
 have rv:r≠v:=λq=>by subst q;exact nr mu.2
 have st:=S.strict g3 rm ru rv;have du:=on u (aAd _ mu.1);have dv:=on v (aAd _ mu.2);have dr:=on r (by simp);have D0:=EO hs yc du dv dr st;have w3:=ins _ _ g3;have cram:=GR B (C3 pts r) (C3 pts u) (C3 pts v);have a1:i4 B (C3 pts u) (C3 pts v)=i4 (C3 pts u) (C3 pts v) B:=by simp[i4,f8];grind
 have a2:i4 B (C3 pts v) (C3 pts r)=-i4 (C3 pts r) (C3 pts v) B:=by simp[i4,f8];grind
 have a3:i4 B (C3 pts r) (C3 pts u)=i4 (C3 pts r) (C3 pts u) B:=by simp[i4,f8];grind
 have a4:i4 (C3 pts r) (C3 pts u) (C3 pts v)=i4 (C3 pts u) (C3 pts v) (C3 pts r):=by simp[i4,f8];grind
 rw[a1,a2,a3,a4]at cram;obtain⟨al,hal⟩:∃al,al=i4 (C3 pts u) (C3 pts v) B:=⟨_,rfl⟩;obtain⟨be,zc⟩:∃be,be=-i4 (C3 pts r) (C3 pts v) B:=⟨_,rfl⟩;obtain⟨ga,hga⟩:∃ga,ga=i4 (C3 pts r) (C3 pts u) B:=⟨_,rfl⟩;obtain⟨De,hDe⟩:∃De,De=i4 (C3 pts u) (C3 pts v) (C3 pts r):=⟨_,rfl⟩;rw[<-hal,<-zc,<-hga,<-hDe]at cram;have al0:0<=al:=by lia
 have be0:0<=be:=by lia
 have ga0:0<=ga:=by lia
 have De0:0<De:=by lia
 have cd:∀f:V,De*f8 f B=ga*f8 f (C3 pts v)+al*f8 f (C3 pts r)+be*f8 f (C3 pts u):=λf=>by
  have:=congrArg (f8 f) cram;rw[bO,bO,w4,w4,w4,w4]at this
  lia
 have q1:=cd m;rw[aH dr,aH du,aH dv]at q1;have q2:=cd n;have cm:=fC hs yc.prim.ne yc.sup;have pt:∀X∈r::s::t::l,X∈pts:=λX hX=>by rw[<-er]at hX;exact(f9.mp<|S.aa6 hX).1
 have r1:=nR (pts:=pts) (hn.sup r (pt r (by simp)));have r2:=nR (pts:=pts) (hn.sup u<|pt u<|aAd _ mu.1);have r3:=nR (pts:=pts) (hn.sup v<|pt v<|aAd _ mu.2);have s1:=aAU r1 al0;have s2:=aAU r2 be0;have s3:=aAU r3 ga0;obtain⟨L,hL⟩:∃L:Int,L=((G5 n d pts).length:Int):=⟨_,rfl⟩;have ub1:=ub m e yc.sup;rw[<-hL]at eB ub1;have k1:De*L<=al+be+ga:=by
  have:(De*L)*T8 pts n d<=(al+be+ga)*T8 pts n d:=by
   rw[eB]at q2;have e1:De*L*T8 pts n d=De*(L*T8 pts n d):=Int.mul_assoc _ _ _;have e2:(al+be+ga)*T8 pts n d=al*T8 pts n d+be*T8 pts n d+ga*T8 pts n d:=by grind
   lia
  exact aEA this cn
 have k2:De*f8 m B=(al+be+ga)*T8 pts m e:=by rw[q1];grind
 have k3:(De*L)*T8 pts m e<=De*f8 m B:=by rw[k2];exact aAS k1 (aAZ cm)
 have k4:L*T8 pts m e<=f8 m B:=by rw[Int.mul_assoc]at k3;exact Int.le_of_mul_le_mul_left k3 De0
 have all:∀X∈G5 n d pts,f8 m X=e:=λX hX=>by
  have le:f8 m X<=e:=yc.sup X (f9.mp hX).1;by_cases z:f8 m X=e
  ·exact z
  ·exfalso;have:=CY (λX=>f8 m (C3 pts X)) (λ_=>T8 pts m e) (G5 n d pts) (λY hY=>nR (yc.sup Y (f9.mp hY).1)) ⟨X,hX,OF (len_pos hs) (by lia)⟩;rw[<-dB,aW,<-hL]at this
   lia
 obtain⟨A,hA,B',hB',C,hC,ea,eb,ec,hcr⟩:=hn.three;obtain⟨Z,hZ,hz⟩:=hs.below hn.prim.ne hn.sup;obtain⟨rfl,rfl⟩:=nD hn.prim yc.prim hn.sup yc.sup ea eb ec (all A<|f9.mpr ⟨hA,ea⟩) (all B'<|f9.mpr ⟨hB',eb⟩) (all C<|f9.mpr ⟨hC,ec⟩) hcr hZ hz;exact hm
end G
namespace G
def k7 (pts:List V)(f:V×Int):List V:=v6 f.1 (G5 f.1 f.2 pts)
structure LInv (pts:List V)(p0:V×V)(fs:List (V×Int))(walked:V×V->Prop)(waiting:List (V×V)):Prop where
 face:∀f∈fs,IsFace pts f.1 f.2
 nd:fs.Nodup
 wk:∀e,walked e↔∃f∈fs,e∈aN (k7 pts f)
 cl:∀f∈fs,∀a b,(a,b)∈aN (k7 pts f)->(∃g∈fs,(b,a)∈aN (k7 pts g))\/(b,a)∈waiting
 wt:∀p∈waiting,(∃f∈fs,(p.2,p.1)∈aN (k7 pts f))\/(fs=[]/\p=p0)
 ne:fs=[]->waiting=[p0]
structure Good (pts:List V)(m:V):Prop where
 solid:A5 pts
 ord:pts.Pairwise (λa b=>i8 (b-a))
 mem:m∈pts
 least:∀X∈pts,X=m\/i8 (X-m)
section
variable{pts:List V} {m:V} (G:Good pts m) {fs:List (V×Int)} {walked:V×V->Prop} {waiting rest:List (V×V)} {p:V×V}
include G
theorem AS:LInv pts (d9 m pts) [] (λ_=>False) [d9 m pts]where
 face:=λf h=>by cases h
 nd:=aCw
 wk:=λe=>⟨λh=>h.elim,λ⟨f,h,_⟩=>by cases h⟩
 cl:=λf h=>by cases h
 wt:=λq h=>.inr ⟨rfl,by simpa using h⟩
 ne:=λ_=>rfl
theorem MY (h:LInv pts (d9 m pts) fs walked waiting)(hW:waiting=rest++[p])(hp:walked p):LInv pts (d9 m pts) fs walked rest:=by
 have hw:∀q,q∈waiting↔q=p\/q∈rest:=λq=>by rw[hW];simp[or_comm]
 obtain⟨f0,hf0,e0⟩:=(h.wk p).mp hp;have bc:fs≠[]:=λe=>by subst e;cases hf0
 refine⟨h.face,h.nd,h.wk,λf hf a b hab=>?_,λq hq=>h.wt q ((hw q).mpr (.inr hq)),λe=>absurd e bc⟩;rcases h.cl f hf a b hab with q|q
 ·exact .inl q
 ·rcases(hw (b,a)).mp q with z|z
  ·subst z;exact .inl ⟨f0,hf0,e0⟩
  ·exact .inr z
theorem xP (h:LInv pts (d9 m pts) fs walked waiting)(hp:p∈waiting)(hn:¬walked p):IsFace pts (b8 p.1 p.2 pts).1 (b8 p.1 p.2 pts).2/\b8 p.1 p.2 pts∉fs/\(fs≠[]->p∈aN (k7 pts (b8 p.1 p.2 pts))):=by
 rcases h.wt p hp with⟨f,hf,he⟩|⟨e1,e2⟩
 ·have hfc:=h.face f hf;have S:=hfc.aa5 G.ord;have ed:=S.aa1.mp he;obtain⟨t1,t2⟩:=sI hfc.prim.ne hfc.sup (G.solid.below hfc.prim.ne hfc.sup) ed;have S':=t1.aa5 G.ord;have e3:p∈aN (k7 pts<|b8 p.1 p.2 pts):=S'.aa1.mpr t2;exact⟨t1,λz=>hn ((h.wk p).mpr ⟨_,z,e3⟩),λ_=>e3⟩
 ·subst e1 e2;exact⟨CM G.solid G.ord G.mem G.least,by simp,λz=>absurd rfl z⟩
theorem OE (h:LInv pts (d9 m pts) fs walked waiting)(hW:waiting=rest++[p])(hn:¬walked p){walked':V×V->Prop}(h1:∀e,walked' e↔walked e\/e∈aN (k7 pts (b8 p.1 p.2 pts)))(h2:∀q,q∈waiting'↔q∈rest\/(q.2,q.1)∈aN (k7 pts (b8 p.1 p.2 pts))):
  LInv pts (d9 m pts) (fs++[b8 p.1 p.2 pts]) walked' waiting':=by
 have hw:∀q,q∈waiting↔q=p\/q∈rest:=λq=>by rw[hW];simp[or_comm]
 obtain⟨n1,n2,n3⟩:=xP G h ((hw p).mpr (.inl rfl)) hn;refine⟨λf hf=>?_,?_,λe=>?_,λf hf a b hab=>?_,λq hq=>?_,λe=>by simp at e⟩
 ·rcases aAH.mp hf with z|z
  ·exact h.face f z
  ·have:f=b8 p.1 p.2 pts:=by simpa using z
   subst this;exact n1
 ·rw[aCT];exact⟨h.nd,by simp,λa ha b hb=>λe=>by
   have:b=b8 p.1 p.2 pts:=by simpa using hb
   subst e this;exact n2 ha⟩
 ·rw[h1,h.wk];constructor
  ·rintro(⟨f,hf,he⟩|he)
   ·exact⟨f,aBB _ hf,he⟩
   ·exact⟨_,aAE _ (by simp),he⟩
  ·rintro⟨f,hf,he⟩;rcases aAH.mp hf with z|z
   ·exact .inl ⟨f,z,he⟩
   ·have:f=b8 p.1 p.2 pts:=by simpa using z
    subst this;exact .inr he
 ·rcases aAH.mp hf with z|z
  ·rcases h.cl f z a b hab with⟨g,hg,e⟩|q
   ·exact .inl ⟨g,aBB _ hg,e⟩
   ·rcases(hw (b,a)).mp q with y|y
    ·have bc:fs≠[]:=λe=>by subst e;cases z
     exact .inl ⟨b8 p.1 p.2 pts,aAE _ (by simp),by rw[y];exact n3 bc⟩
    ·exact .inr ((h2 _).mpr (.inl y))
  ·have:f=b8 p.1 p.2 pts:=by simpa using z
   subst this;exact .inr ((h2 _).mpr (.inr hab))
 ·rcases(h2 q).mp hq with z|z
  ·rcases h.wt q ((hw q).mpr (.inr z))with⟨f,hf,e⟩|⟨e1,e2⟩
   ·exact .inl ⟨f,aBB _ hf,e⟩
   ·have:=h.ne e1;exfalso;rw[hW]at this;have hl:=congrArg List.length this;simp at hl;subst hl;cases z
  ·exact .inl ⟨_,aAE _ (by simp),z⟩
theorem KC (h:LInv pts (d9 m pts) fs walked []):fs≠[]/\∀n d,(n,d)∈fs↔IsFace pts n d:=by
 have bc:fs≠[]:=λe=>by have:=h.ne e;cases this
 refine⟨bc,λn d=>⟨λhf=>h.face _ hf,λhf=>?_⟩⟩;refine IU G.solid G.ord fs bc h.face (λf hf a b hab=>?_) hf;have S:=(h.face f hf).aa5 G.ord;rcases h.cl f hf a b (S.aa1.mpr hab)with⟨g,hg,e⟩|q
 ·exact⟨g,hg,((h.face g hg).aa5 G.ord).aa1.mp e⟩
 ·cases q
end
def IH (h:IsFace pts n d):∃A∈pts,∃B∈pts,∃C∈pts,cr (B-A) (C-A)≠0/\j6 A B C=(n,d):=by
 obtain⟨A,hA,B,hB,C,hC,a,b,c,e⟩:=h.three;have key:∀B∈pts,∀C∈pts,f8 n B=d->f8 n C=d->cr (B-A) (C-A)≠0->0<f8 n (cr (B-A)<|C-A)->j6 A B C=(n,d):=λB hB C hC b c e pos=>by
  obtain⟨g,g0,ge,gp,gd⟩:=iE e;have p:cr n (cr (B-A)<|C-A)=0:=U5 (by rw[i6];lia) (by rw[i6];lia);obtain⟨k,l,hk,e1⟩:=F9 h.prim.ne p;have hl:0<l:=by
   have q:=congrArg (f8 n) e1;rw[w4,w4]at q;have:=aBC hk pos;have hn:=D6 h.prim.ne;by_cases z:0<l
   ·exact z
   ·have:=aAS (show l<=0 by lia) (aAZ hn);simp at this;lia
  rw[ge]at e1;have e2:(k*g)*(j6 A B C).1=l*n:=by rw[<-e1];apply ext<;>simp<;>grind
  have e3:=FQ gp h.prim (aBC hk g0) hl e2;refine aFT e3 ?_;rw[gd,e3];exact a
 by_cases z:0<f8 n (cr (B-A)<|C-A)
 ·exact⟨A,hA,B,hB,C,hC,e,key B hB C hC b c e z⟩
 ·have sw:cr (C-A) (B-A)=-cr (B-A) (C-A):=by apply ext<;>simp<;>grind
  have e':cr (C-A) (B-A)≠0:=λq=>e (by rw[sw]at q;have q1:=congrArg V.x q;have q2:=congrArg V.y q;have q3:=congrArg V.z q;simp only[zq,tq,zk,dQ,cO,dE]at q1 q2 q3;exact ext (by simp only[dQ];lia) (by simp only[cO];lia) (by simp only[dE];lia))
  have bc:f8 n (cr (B-A)<|C-A)≠0:=λq=>e (iB h.prim.ne (by rw[i6];lia) (by rw[i6];lia) q);refine⟨A,hA,C,hC,B,hB,e',key C hC B hB c b e' ?_⟩;have:f8 n (cr (C-A)<|B-A)=-f8 n (cr (B-A)<|C-A):=by rw[sw];simp[f8];grind
  lia
def cands (pts:List V):List (V×Int):=pts.flatMap λA=>pts.flatMap λB=>pts.map λC=>j6 A B C
theorem V2 {α:Type}[DecidableEq α]:∀{l m:List α},l.Nodup->(∀x∈l,x∈m)->l.length<=m.length
 |[],_,_,_=>aAX _
 |x::l,m,h,hs=>by
  have hx:=hs x (by simp);have h':=aAM.mp h;have:=V2 (l:=l) (m:=m.erase x) h'.2 (λy hy=>by
   have ne:y≠x:=λe=>by subst e;exact h'.1 hy
   exact(aFH ne).mpr (hs y<|aAd _ hy))
  rw[aEV hx]at this;have:0<m.length:=aDM hx;simp only[aAv]
  lia
end G
namespace G
section
variable{pts:List V} (hs:A5 pts) (ho:pts.Pairwise (λa b=>i8 (b-a)))
include hs ho
theorem QK (hf:IsFace pts n d)(h:EdgeOf n (λX=>X∈G5 n d pts) a b):
 IsFace pts (b8 b a pts).1 (b8 b a pts).2/\EdgeOf (b8 b a pts).1 (λX=>X∈G5 (b8 b a pts).1 (b8 b a pts).2 pts) b a:=sI hf.prim.ne hf.sup (hs.below hf.prim.ne hf.sup) h
theorem VC (hf:IsFace pts n d)(h1:EdgeOf n (λX=>X∈G5 n d pts) a b)(h2:EdgeOf n (λX=>X∈G5 n d pts) b a):False:=by
 obtain⟨X,hX,hx⟩:=hf.ac6 h1;have:=h2.left X hX;have e1:i4 n (a-b) (X-b)=-i4 n (b-a) (X-a):=by simp[i4,f8];grind
 lia
theorem IT (hf:IsFace pts n d)(hg:IsFace pts m e)(h:EdgeOf n (λX=>X∈G5 n d pts) a b)(ga:f8 m a=e)(gb:f8 m b=e):(m,e)=(n,d)\/(m,e)=b8 b a pts:=by
 obtain⟨pa,da⟩:=f9.mp h.p;obtain⟨pb,db⟩:=f9.mp h.q;obtain⟨f1,b1⟩:=QK hs ho hf h;have hab:f8 n (a-b)=0:=by rw[i6];lia
 have C:=sD (n:=n) hf.prim.ne hab;have bc:a-b≠0:=λq=>h.ne (iK q);obtain⟨P,pP,eP,hP⟩:∃P∈pts,f8 m P=e/\cr (a-b) (P-b)≠0:=by
  by_cases z:∃P∈pts,f8 m P=e/\cr (a-b) (P-b)≠0
  ·exact z
  ·exfalso;obtain⟨A,hA,B,hB,D,hD,eA,eB,eD,hc⟩:=hg.three;have k:∀X∈pts,f8 m X=e->cr (a-b) (X-b)=0:=λX hX dX=>by
    by_cases q:cr (a-b) (X-b)=0
    ·exact q
    ·exact absurd ⟨X,hX,dX,q⟩ z
   have k2:∀X∈pts,f8 m X=e->∀Y∈pts,f8 m Y=e->cr (X-Y) (a-b)=0:=λX hX dX Y hY dY=>by have q1:=k X hX dX;have q2:=k Y hY dY;have a1:=congrArg V.x q1;have a2:=congrArg V.y q1;have a3:=congrArg V.z q1;have b1:=congrArg V.x q2;have b2:=congrArg V.y q2;have b3:=congrArg V.z q2;simp at a1 a2 a3 b1 b2 b3;apply ext<;>simp<;>grind
   exact hc (vH bc (k2 B hB eB A hA eA)<|k2 D hD eD A hA eA)
 have mab:f8 m (a-b)=0:=by rw[i6];lia
 have mP:f8 m (P-b)=0:=by rw[i6];lia
 have par:cr m (cr (a-b)<|P-b)=0:=U5 mab mP;obtain⟨k,l,hk,ek⟩:=F9 hg.prim.ne par;have dl:∀w,k*i4 (a-b) (P-b) w=l*f8 m w:=λw=>by have:=congrArg (λv=>f8 v w) ek;simp only[Y3,U1]at this;exact this
 have l0:l≠0:=λq=>hP (by rw[q,v5]at ek;have q1:=congrArg V.x ek;have q2:=congrArg V.y ek;have q3:=congrArg V.z ek;simp only[MJ,OQ,PU,dQ,cO,dE]at q1 q2 q3;exact ext ((aAI.mp q1).resolve_left (by lia)) ((aAI.mp q2).resolve_left (by lia)) ((aAI.mp q3).resolve_left (by lia)))
 have mle:∀Q∈pts,f8 m (Q-b)<=0:=λQ hQ=>by rw[i6];have:=hg.sup Q hQ;lia
 obtain⟨Z,hZ,hz⟩:=hs.below hf.prim.ne hf.sup;by_cases hl:0<l
 ·
  right;obtain⟨O,hO,eO⟩:∃O∈G5 (b8 b a pts).1 (b8 b a pts).2 pts,0<i4 (b8 b a pts).1 (a-b) (O-b):=f1.ac6 b1;obtain⟨pO,dO⟩:=f9.mp hO;obtain⟨_,e1b⟩:=f9.mp b1.p;obtain⟨_,e1a⟩:=f9.mp b1.q;have t1:i4 (a-b) (P-b) (O-b)<=0:=by
   have q:=dl (O-b);have:=aAU (mle O pO) (aAZ hl);rw[aEL]at this;by_cases z:i4 (a-b) (P-b) (O-b)<=0
   ·exact z
   ·have:=aBC hk (show 0<i4 (a-b) (P-b) (O-b)by lia);lia
  have par2:cr (b8 b a pts).1 (cr (a-b)<|O-b)=0:=U5 (by rw[i6];lia) (by rw[i6];lia);obtain⟨k',l',mi,ek'⟩:=F9 f1.prim.ne par2;have dl':∀w,k'*i4 (a-b) (O-b) w=l'*f8 (b8 b a pts).1 w:=λw=>by have:=congrArg (λv=>f8 v w) ek';simp only[Y3,U1]at this;exact this
  have jb:0<l':=by
   have q:=congrArg (f8 (b8 b a pts).1) ek';rw[w4,w4]at q;have q2:0<f8 (b8 b a pts).1 (cr (a-b)<|O-b):=eO;have:=aBC mi q2;have hn:=D6 f1.prim.ne;by_cases z:0<l'
   ·exact z
   ·have:=aAS (show l'<=0 by lia) (aAZ hn);simp at this;lia
  have t2:i4 (a-b) (O-b) (P-b)<=0:=by
   have q:=dl' (P-b);have h0:f8 (b8 b a pts).1 (P-b)<=0:=by rw[i6];have:=f1.sup P pP;lia
   have:=aAU h0 (aAZ jb);rw[aEL]at this;by_cases z:i4 (a-b) (O-b) (P-b)<=0
   ·exact z
   ·have:=aBC mi (show 0<i4 (a-b) (O-b) (P-b)by lia);lia
  have t3:i4 (a-b) (O-b) (P-b)=0:=by rw[j8]at t1;lia
  have q0:=dl' (P-b);rw[t3,aEL]at q0;have onP':f8 (b8 b a pts).1 P=(b8 b a pts).2:=by have:=(aAI.mp q0.symm).resolve_left (by lia);rw[i6]at this;lia
  obtain⟨Z',hZ',hz'⟩:=hs.below hg.prim.ne hg.sup;obtain⟨q1,q2⟩:=nD hg.prim f1.prim hg.sup f1.sup gb ga eP e1b e1a onP' hP hZ' hz';exact aFT q1 q2
 ·
  left;have ko:l<0:=by lia
  obtain⟨O,hO,eO⟩:=hf.ac6 h;obtain⟨pO,dO⟩:=f9.mp hO;rw[qG]at eO;have t1:0<=i4 (a-b) (P-b) (O-b):=by
   have q:=dl (O-b);have h2:0<=l*f8 m (O-b):=by
    have:=aDP (show 0<=-l by lia) (show 0<=-f8 m (O-b)by have:=mle O pO;lia)
    rwa [aFs]at this
   by_cases z:0<=i4 (a-b) (P-b) (O-b)
   ·exact z
   ·have:=aCe hk (show i4 (a-b) (P-b) (O-b)<0 by lia);lia
  have par2:cr n (cr (b-a)<|O-b)=0:=U5 (by rw[i6];lia) (by rw[i6];lia);obtain⟨k',l',mi,ek'⟩:=F9 hf.prim.ne par2;have dl':∀w,k'*i4 (b-a) (O-b) w=l'*f8 n w:=λw=>by have:=congrArg (λv=>f8 v w) ek';simp only[Y3,U1]at this;exact this
  have jb:0<l':=by
   have q:=congrArg (f8 n) ek';rw[w4,w4]at q;have q2:0<f8 n (cr (b-a)<|O-b):=eO;have:=aBC mi q2;have hn:=D6 hf.prim.ne;by_cases z:0<l'
   ·exact z
   ·have:=aAS (show l'<=0 by lia) (aAZ hn);simp at this;lia
  have t2:i4 (b-a) (O-b) (P-b)<=0:=by
   have q:=dl' (P-b);have h0:f8 n (P-b)<=0:=by rw[i6];have:=hf.sup P pP;lia
   have:=aAU h0 (aAZ jb);rw[aEL]at this;by_cases z:i4 (b-a) (O-b) (P-b)<=0
   ·exact z
   ·have:=aBC mi (show 0<i4 (b-a) (O-b) (P-b)by lia);lia
  have e3:i4 (b-a) (O-b) (P-b)=i4 (a-b) (P-b) (O-b):=by simp[i4,f8];grind
  have t3:i4 (b-a) (O-b) (P-b)=0:=by lia
  have q0:=dl' (P-b);rw[t3,aEL]at q0;have onn:f8 n P=d:=by have:=(aAI.mp q0.symm).resolve_left (by lia);rw[i6]at this;lia
  obtain⟨Z',hZ',hz'⟩:=hs.below hg.prim.ne hg.sup;obtain⟨q1,q2⟩:=nD hg.prim hf.prim hg.sup hf.sup gb ga eP db da onn hP hZ' hz';exact aFT q1 q2
end
end G
namespace M
open PySem L2 DL
def wM:D->Option G.V
 |.tup [.int a,.int b,.int c]=>some ⟨a,b,c⟩
 |_=>none
@[simp]def EA (v:G.V):wM (vd v)=some v:=rfl
def rN (h:wM d=some v):d=vd v:=by
 unfold wM at h;split at h
 ·cases h;rfl
 ·cases h
def J0:List D->Option (List G.V)
 |[]=>some []
 |d::ds=>match wM d,J0 ds with
  |some v,some vs=>some (v::vs)
  |_,_=>none
@[simp]theorem u9:∀vs:List G.V,J0 (vs.map vd)=some vs
 |[]=>rfl
 |v::vs=>by rw[aAu,J0,EA,u9 vs]
theorem t7:∀{ds:List D} {vs:List G.V},J0 ds=some vs->ds=vs.map vd
 |[],vs,h=>by cases h;rfl
 |d::ds,vs,h=>by
  unfold J0 at h;split at h
  ·rename_i v ws h1 h2;cases h;rw[rN h1,t7 h2];rfl
  ·cases h
def CQ (h:vd u=vd v):u=v:=by
 have:wM (vd u)=wM (vd v):=by rw[h]
 simpa using this
def TZ {u v:List G.V}(h:u.map vd=v.map vd):u=v:=by
 have:J0 (u.map vd)=J0 (v.map vd):=by rw[h]
 simpa using this
def cS (n:Nat)(pts:List G.V):Prop:=(∀P∈pts,Sz n P)/\pts.length<=1000
def AG:Option G.V->D
 |some v=>vd v
 |none=>.non
def A4:List D->R D
 |[.lst xs]=>match J0 xs with
  |some ws=>.ok (AG (G.B1 ws))
  |none=>.bad
 |_=>.bad
open Classical in
def D2:List D->R D
 |[.lst xs]=>match J0 xs with
  |some pts=>if pts≠[]/\cS 1000 pts then .ok (.int (G.U9 pts))else .bad
  |none=>.bad
 |_=>.bad
open Classical in
def G0:List D->R D
 |[.lst xs]=>match J0 xs with
  |some pts=>if cS 1000 pts/\G.U9 pts=3 then .ok .non else .bad
  |none=>.bad
 |_=>.bad
open Classical in
def y9:List D->R D:=v4 λa b c d=>FO λxs=>jZ (match J0 xs with
 |some pts=>if Sz 10000 ⟨a,b,c⟩/\cS 1000 pts then .ok (.lst ((G.G5 ⟨a,b,c⟩ d pts).map vd))else .bad
 |none=>.bad)
open Classical in
def F8:List D->R D:=ny λys=>FO λxs=>jZ ((v1 λa b c=>v1 λd e f=>jZ (match J0 xs with
 |some pts=>if Sz 1000 ⟨a,b,c⟩/\Sz 1000 ⟨d,e,f⟩/\cS 1000 pts/\G.cR (G.b8 ⟨a,b,c⟩ ⟨d,e,f⟩ pts).1 then .ok (wO (G.b8 ⟨a,b,c⟩ ⟨d,e,f⟩ pts).1 (G.b8 ⟨a,b,c⟩ ⟨d,e,f⟩ pts).2)else .bad
 |none=>.bad)) ys)
abbrev J6 (p:G.V×G.V):D:=.tup [vd p.1,vd p.2]
structure Land (pts:List G.V)(m:G.V):Prop where
 good:G.Good pts m
 sz:cS 900 pts
 few:pts.length<=63
 head:pts.head?=some m
open Classical in
def K4:List D->R D
 |[.lst xs]=>match J0 xs with
  |some (m::pts)=>if Land (m::pts) m then .ok (J6 (G.d9 m (m::pts)))else .bad
  |_=>.bad
 |_=>.bad
open Classical in
def fD:List D->R D:=v1 λa b c=>v1 λd e f=>v1 λg h i=>v1 λj k l=>jZ (
 if Sz 10000 ⟨a,b,c⟩/\Sz 1000 ⟨d,e,f⟩/\Sz 1000 ⟨g,h,i⟩/\Sz 1000 ⟨j,k,l⟩then .ok (.int (G.turn ⟨a,b,c⟩ ⟨d,e,f⟩ ⟨g,h,i⟩ ⟨j,k,l⟩))else .bad)
open Classical in
def U3:List D->R D:=v1 λa b c=>FO λxs=>jZ (match J0 xs with
 |some pts=>if Sz 10000 ⟨a,b,c⟩/\cS 1000 pts then .ok (.lst ((G.A6 ⟨a,b,c⟩ pts).reverse.map vd))else .bad
 |none=>.bad)
open Classical in
def P7:List D->R D:=v1 λa b c=>FO λxs=>jZ (match J0 xs with
 |some pts=>if Sz 10000 ⟨a,b,c⟩/\cS 1000 pts then .ok (.lst ((G.v6 ⟨a,b,c⟩ pts).map vd))else .bad
 |none=>.bad)
def z9:List D->R D
 |[.lst xs]=>match J0 xs with
  |some pts=>if pts.length<=3000 then .ok (.lst ((G.aN pts).map J6))else .bad
  |none=>.bad
 |_=>.bad
abbrev o5 (pts:List G.V)(f:G.V×Int):D:=.tup [wO f.1 f.2,.lst ((G.k7 pts f).map vd)]
def iA (pts:List G.V)(fs:List (G.V×Int)):Prop:=(∀f,f∈fs↔G.IsFace pts f.1 f.2)/\uI T0 (fs.map<|o5 pts)
open Classical in
def G4 (pts:List G.V):List (G.V×Int):=if h:∃fs,iA pts fs then h.choose else[]
def K9:List D->List D->R D
 |[w],[_]=>.ok w
 |_,_=>.bad
def E9:List D->List D->R D
 |[w],[p]=>y9 [p,w]
 |_,_=>.bad
open Classical in
def J9 (d:D) (m1 m2:List D->R D):R D:=match m1 [.non]with
 |.ok (.lst xs)=>match J0 xs with
  |some (m::pts)=>if Land (m::pts) m/\(m::pts).length<=14/\d=J6 (G.d9 m (m::pts))/\m1=K9 [.lst xs]/\m2=E9 [.lst xs]then .ok (.lst ((G4 (m::pts)).map (o5 (m::pts))))else .bad
  |_=>.bad
 |_=>.bad
def n4 (pts:List G.V):List G.V:=(aX<|pts.map vd).filterMap wM
open Classical in
def X1:List D->R D
 |[.lst xs]=>match J0 xs with
  |some pts=>if cS 900 pts/\G.A5 pts/\(n4 pts).length<=14 then .ok (.lst ((G4 (n4 pts)).map (o5 (n4 pts))))else .bad
  |none=>.bad
 |_=>.bad
def cw:D->Option (List G.V)
 |.tup [_,.lst xs]=>J0 xs
 |_=>none
def tR:List D->Option (List (List G.V))
 |[]=>some []
 |d::ds=>match cw d,tR ds with
  |some v,some vs=>some (v::vs)
  |_,_=>none
open Classical in
def J7:List D->R D
 |[.lst xs]=>match tR xs with
  |some rs=>if rs.flatten.length<=3000/\(n4 rs.flatten).length<=63 then .ok (.lst ((n4 rs.flatten).map vd))else .bad
  |none=>.bad
 |_=>.bad
def iS (pts:List G.V):List G.V:=n4 ((G4<|n4 pts).flatMap (G.k7<|n4 pts))
open Classical in
def aO:List D->R D
 |[.lst xs]=>match J0 xs with
  |some pts=>if cS 900 pts/\G.A5 pts/\(n4 pts).length<=14 then .ok (.lst ((iS pts).map vd))else .bad
  |none=>.bad
 |_=>.bad
end M
namespace M
open PySem L2 DL
def ne0 (v:G.V):RF (vd v) (.tup [.int 0,.int 0,.int 0])=.ok (.bl (!decide (v=0))):=by rw[CG];congr 3;rw[aCR];simp only[aAC,beq_iff_eq,decide_eq_true_eq,G.pF];exact⟨λh=>h,λh=>h⟩
def eq0 (v:G.V):WT (vd v) (.tup [.int 0,.int 0,.int 0])=.ok (.bl (decide (v=0))):=by rw[ZD];congr 2;rw[aCR];simp only[aAC,beq_iff_eq,decide_eq_true_eq,G.pF];exact⟨λh=>h,λh=>h⟩
def bE (h1:G d ρ=.ok ρ1)(h2:F ρ1=.ok (.nx ρ2)):X5 G F (d::ds) ρ=X5 G F ds ρ2:=by rw[X5,h1];dsimp only;rw[h2]
def uW (h1:G d ρ=.ok ρ1)(h2:F ρ1=.ok (.rt x)):X5 G F (d::ds) ρ=.ok (.rt x):=by rw[X5,h1];dsimp only;rw[h2]
theorem V3 {α:Type}(rep:α->D)(p:α->Bool)(g:α->D):∀(l:List α),(∀a∈l,∃ρ1,G (rep a) ρ=.ok ρ1/\ft ρ1=.ok (p a)/\(p a=true->fe ρ1=.ok (g a)))->v8 G ft fe ρ (l.map rep)=.ok ((l.filter p).map g)
 |[],_=>rfl
 |a::l,h=>by
  obtain⟨ρ1,h1,h2,h3⟩:=h a (.head _);have ih:=V3 rep p g l λb hb=>h b (.tail _ hb);rw[aAu,v8,h1];dsimp only;rw[h2,R.aa0,ih];cases hp:p a with
  |false=>rw[if_neg (by decide),List.filter_cons_of_neg (by simp[hp])]
  |true=>rw[if_pos rfl,h3 hp,R.aa0,R.aa0,List.filter_cons_of_pos hp];rfl
def fE {α:Type}(rep:α->D)(g:α->D)(l:List α)(h:∀a∈l,∃ρ1,G (rep a) ρ=.ok ρ1/\fe ρ1=.ok (g a)):v8 G (λ_=>.ok true) fe ρ (l.map rep)=.ok (l.map g):=by
 have:=V3 rep (G:=G) (ft:=λ_=>.ok true) (fe:=fe) (ρ:=ρ) (λ_=>true) g l λa ha=>let⟨ρ1,h1,h2⟩:=h a ha;⟨ρ1,h1,rfl,λ_=>h2⟩
 rw[this,List.filter_eq_self.mpr λ_ _=>rfl]
def small (h:n<=1000):n<=sizeLine:=aAr h (by decide)
def JZ (h:n<=3000):n<=sizeLine:=aAr h (by decide)
def cS.sub (h:cS n pts)(hs:∀P∈qs,P∈pts)(hl:qs.length<=pts.length):cS n qs:=⟨λP hP=>h.1 P (hs P hP),aAr hl h.2⟩
def cS.mono (h:cS m pts)(hm:m<=n:=by decide):cS n pts:=⟨λP hP=>(h.1 P hP).mono hm,h.2⟩
def a1j (t:Int):(sgn t==0)=decide (t=0):=by
 unfold sgn;by_cases h:0<t
 ·rw[if_pos h];simp;lia
 ·rw[if_neg h];by_cases h2:t<0
  ·rw[if_pos h2];simp;lia
  ·rw[if_neg h2];simp;lia
def iW (h1:Sz 10000 n)(h2:cS 1000 pts):y9 [wO n d,.lst (pts.map vd)]=.ok (.lst ((G.G5 n d pts).map vd)):=by simp only[y9,v4,FO,jZ,u9];exact if_pos ⟨h1,h2⟩
def ML (h1:pts≠[])(h2:cS 1000 pts):D2 [.lst (pts.map vd)]=.ok (.int (G.U9 pts)):=by simp only[D2,u9];exact if_pos ⟨h1,h2⟩
def BR (ws:List G.V):A4 [.lst (ws.map vd)]=.ok (AG (G.B1 ws)):=by simp only[A4,u9]
def AV (bs:List Bool):S5 (bs.map D.bl)=some bs:=by
 induction bs with
 |nil=>rfl
 |cons b bs ih=>rw[aAu,S5,ih];rfl
def ZK (bs:List Bool):anyR [.lst (bs.map D.bl)]=.ok (.bl (bs.any id)):=by simp only[anyR,AV]
def UW (xs:List D):qQ (.lst xs) none (some (-1))=.ok (.lst xs.dropLast):=by
 show R.ok (D.lst<|cutD xs none<|some (-1))=_;unfold cutD HT.sIx;rw[aDS];simp;congr 1
 lia
def UA (xs:List D):qQ (.lst xs) (some 1) none=.ok (.lst xs.tail):=by
 show R.ok (D.lst<|cutD xs (some 1) none)=_;unfold cutD HT.sIx;cases xs with
 |nil=>rfl
 |cons a l=>simp
def XR (xs:List D):qQ (.lst xs) none (some 1)=.ok (.lst (xs.take 1)):=by
 show R.ok (D.lst<|cutD xs none<|some 1)=_;unfold cutD HT.sIx;cases xs with
 |nil=>rfl
 |cons a l=>simp
def WC (xs:List D)(a b:D):qI (xs++[a,b]) (-1)=some b:=by
 have hl:(xs++[a,b]).length=xs.length+2:=by simp
 unfold qI JI;rw[hl,if_neg (by decide),if_pos (by lia)];show(xs++[a,b])[((-1:Int)+((xs.length+2:Nat):Int)).toNat]?=_;have:((-1:Int)+((xs.length+2:Nat):Int)).toNat=xs.length+1:=by lia
 rw[this,aAx (by lia),show xs.length+1-xs.length=1 by lia];rfl
def WG (xs:List D)(a b:D):qI (xs++[a,b]) (-2)=some a:=by
 have hl:(xs++[a,b]).length=xs.length+2:=by simp
 unfold qI JI;rw[hl,if_neg (by decide),if_pos (by lia)];show(xs++[a,b])[((-2:Int)+((xs.length+2:Nat):Int)).toNat]?=_;have:((-2:Int)+((xs.length+2:Nat):Int)).toNat=xs.length:=by lia
 rw[this,aAx (by lia),Nat.sub_self];rfl
def iz (a:D)(xs:List D):qI (a::xs) 0=some a:=by rw[dS (by decide)];rfl
def qk (a b:D)(xs:List D):qI (a::b::xs) 1=some b:=by rw[dS (by decide)];rfl
def SV {P Q R:G.V}(h:G.cR (G.j6 P Q R).1):G.cr (Q-P) (R-P)≠0:=λe=>by
 have:(G.j6 P Q R).1=0:=by show G.lF (G.cr (Q-P)<|R-P) _=0;rw[e];rfl
 rw[this]at h;unfold G.cR at h;exact absurd h (by decide)
theorem yI:∀{c:List G.V},(G.X9 n P c).length<=c.length
 |[]=>aAh _
 |[a]=>aAh _
 |b::a::r=>by
  unfold G.X9;split
  ·exact aAr (yI (c:=a::r)) (by simp)
  ·exact aAh _
theorem pK:∀(qs c:List G.V),(qs.foldl (λc P=>P::G.X9 n P c) c).length<=qs.length+c.length
 |[],c=>by simp
 |P::qs,c=>by refine aAr (pK qs _) ?_;have:=yI (n:=n) (P:=P) (c:=c);simp;lia
def rR (n:G.V)(ps:List G.V):(G.A6 n ps).length<=ps.length:=by simpa[G.A6]using pK (n:=n) ps []
theorem rM {α β:Type}(f:α->D):∀(xs ys:List α),kC (xs.map f) (ys.map f)=(xs.zip ys).map λp=>D.tup [f p.1,f p.2]
 |[],_=>by simp[kC]
 |_::_,[]=>by simp[kC]
 |x::xs,y::ys=>by have:=rM (β:=β) f xs ys;simp only[kC]at this⊢;simp[this]
def WX (h1:Sz 10000 n)(h2:cS 1000 pts):U3 [vd n,.lst (pts.map vd)]=.ok (.lst ((G.A6 n pts).reverse.map vd)):=by simp only[U3,v1,FO,jZ,u9];exact if_pos ⟨h1,h2⟩
def FI {n P Q R:G.V}(h:Sz 10000 n)(h1:Sz 1000 P)(h2:Sz 1000 Q)(h3:Sz 1000 R):fD [vd n,vd P,vd Q,vd R]=.ok (.int (G.turn n P Q R)):=if_pos ⟨h,h1,h2,h3⟩
def X4 (h1:Sz 1000 A)(h2:Sz 1000 B)(h3:cS 1000 pts)(h4:G.cR (G.b8 A B pts).1):F8 [.tup [vd A,vd B],.lst (pts.map vd)]=.ok (wO (G.b8 A B pts).1 (G.b8 A B pts).2):=by simp only[F8,ny,FO,v1,jZ,u9];exact if_pos ⟨h1,h2,h3,h4⟩
def VL (h1:Sz 10000 n)(h2:cS 1000 pts):P7 [vd n,.lst (pts.map vd)]=.ok (.lst ((G.v6 n pts).map vd)):=by simp only[P7,v1,FO,jZ,u9];exact if_pos ⟨h1,h2⟩
def NM (h:pts.length<=3000):z9 [.lst (pts.map vd)]=.ok (.lst ((G.aN pts).map J6)):=by simp only[z9,u9];exact if_pos h
def FH (h:a.length+b.length<=sizeLine):aQ (.lst a) (.lst b)=.ok (.lst (a++b)):=if_pos h
end M
namespace G
def wW (hs:A5 pts)(hm:m∈pts)(hl:∀X∈pts,X=m\/i8 (X-m)):
  cR (b8 m (m+kk) pts).1/\m∈G5 (b8 m (m+kk) pts).1 (b8 m (m+kk) pts).2 pts/\∃out∈G5 (b8 m (m+kk) pts).1 (b8 m (m+kk) pts).2 pts,m≠out:=by
 have C:ConeM (m+kk-m) (λw=>0<w.x\/(w.x=0/\0<w.y)):=by rw[M2];exact FS
 have bc:m+kk-m≠0:=by rw[M2];intro e;have:=congrArg V.z e;simp[kk]at this
 have hp:∀P∈pts,(0<(P-m).x\/((P-m).x=0/\0<(P-m).y))\/cr (m+kk-m) (P-m)=0:=λP hP=>by
  rw[M2];rcases hl P hP with e|e
  ·right;subst e;rw[y6];apply ext<;>simp
  ·unfold i8 at e;rcases e with e|⟨e1,e|⟨e2,e3⟩⟩
   ·exact .inl (.inl e)
   ·exact .inl (.inr ⟨e1,e⟩)
   ·right;apply ext
    ·simp[kk];simp at e2;lia
    ·simp[kk];simp at e1;lia
    ·simp[kk]
 have hx:∃P∈pts,0<(P-m).x\/((P-m).x=0/\0<(P-m).y):=by
  by_cases z:∃P∈pts,0<(P-m).x\/((P-m).x=0/\0<(P-m).y)
  ·exact z
  ·exfalso;obtain⟨Z,hZ,e⟩:=hs.off (n:=⟨1,0,0⟩) (d:=m.x) (λe=>by have:=congrArg V.x e;simp at this);have w:=(hp Z hZ).resolve_left λq=>z ⟨Z,hZ,q⟩;rw[M2]at w;have:=congrArg V.y w;simp[kk]at this;simp[f8]at e
   lia
 obtain⟨out,g,o1,o2,g0,ge,gp,gd,sup,sB,sO,sP⟩:=X4 C bc hp hx;refine⟨gp,f9.mpr ⟨hm,gd.symm⟩,out,f9.mpr ⟨o1,sO⟩,λe=>?_⟩;subst e;rw[y6]at o2;simp at o2
section
variable{pts:List V} (hs:A5 pts) (ho:pts.Pairwise (λa b=>i8 (b-a)))
include hs ho
theorem MU (hf:IsFace pts f.1 f.2)(hg:IsFace pts g.1 g.2)(h1:(a,b)∈aN (k7 pts f))(h2:(a,b)∈aN (k7 pts g)):f=g:=by
 have e1:=(hf.aa5 ho).aa1.mp h1;have e2:=(hg.aa5 ho).aa1.mp h2;obtain⟨f1,b1⟩:=QK hs ho hf e1;rcases IT hs ho hf hg e1 (f9.mp e2.p).2 (f9.mp e2.q).2 with q|q
 ·exact q.symm
 ·exfalso;have:g=b8 b a pts:=q;rw[<-this]at b1;exact VC hs ho hg e2 b1
theorem GF (h:l.Nodup):(aN l).Nodup:=by
 have:((aN l).map (·.1)).Nodup:=by
  unfold aN;rw[List.map_fst_zip]
  ·exact h
  ·simp;lia
 exact(aBM.mp this).imp λ{a b} h e=>h (by rw[e])
def JB (pts:List V)(fs:List (V×Int)):List (V×V):=fs.flatMap λf=>aN (k7 pts f)
omit hs ho in
theorem QR (fs:List (V×Int)):(JB pts fs).length=(fs.map λf=>(k7 pts f).length).sum:=by
 induction fs with
 |nil=>rfl
 |cons f fs ih=>show(aN (k7 pts f)++JB pts fs).length=_;rw[aAD,ih,aAu,aDL];congr 1;unfold aN;simp;lia
theorem pZ:∀{fs:List (V×Int)},fs.Nodup->(∀f∈fs,IsFace pts f.1 f.2)->(JB pts fs).Nodup
 |[],_,_=>aCw
 |f::fs,nd,hf=>by have n1:=aAM.mp nd;have h1:=hf f (.head _);show(aN (k7 pts f)++JB pts fs).Nodup;rw[aCT];refine⟨GF hs ho ((h1.aa5 ho).aa7),pZ n1.2 λg hg=>hf g (.tail _ hg),λe he e' yp q=>?_⟩;subst q;obtain⟨g,hg,jr⟩:=aBJ.mp yp;exact n1.1 (MU hs ho h1 (hf g<|.tail _ hg) (a:=e.1) (b:=e.2) he jr▸hg)
theorem fH {fs:List (V×Int)}(nd:fs.Nodup)(hf:∀f∈fs,IsFace pts f.1 f.2):(fs.map λf=>(k7 pts f).length).sum+pts.length<=pts.length*pts.length:=by
 have npts:pts.Nodup:=ho.imp λ{a b} h e=>by subst e;exact Q1 h
 have h1:=pZ hs ho nd hf;have h2:(JB pts fs++pts.map λa=>(a,a)).Nodup:=by rw[aCT];refine⟨h1,aBM.mpr (npts.imp λ{a b} h e=>h (Prod.mk.inj e).1),λe he e' yp q=>?_⟩;subst q;obtain⟨g,hg,jr⟩:=aBJ.mp he;obtain⟨a,_,rfl⟩:=aAp.mp yp;exact(((hf g hg).aa5 ho).aa1.mp jr).ne rfl
 have h3:∀e∈JB pts fs++pts.map (λa=>(a,a)),e∈pts.flatMap λa=>pts.map λb=>(a,b):=λe he=>by
  rcases aAH.mp he with he|he
  ·obtain⟨g,hg,jr⟩:=aBJ.mp he;have jr:(e.1,e.2)∈aN (k7 pts g):=jr;have ed:=((hf g hg).aa5 ho).aa1.mp jr;exact aBJ.mpr ⟨e.1,(f9.mp ed.p).1,aAp.mpr ⟨e.2,(f9.mp ed.q).1,rfl⟩⟩
  ·obtain⟨a,ha,rfl⟩:=aAp.mp he;exact aBJ.mpr ⟨a,ha,aAp.mpr ⟨a,ha,rfl⟩⟩
 have h4:=V2 h2 h3;have h5:(pts.flatMap λa=>pts.map λb=>(a,b)).length=pts.length*pts.length:=by
  have:∀l:List V,(l.flatMap λa=>pts.map λb=>(a,b)).length=l.length*pts.length:=λl=>by
   induction l with
   |nil=>simp
   |cons a l ih=>rw[List.flatMap_cons,aAD,ih,aAm,aAv,Nat.succ_mul];lia
  exact this pts
 rw[aAD,QR,aAm,h5]at h4;exact h4
theorem lP {fs:List (V×Int)}(hf:∀f∈fs,IsFace pts f.1 f.2):3*fs.length<=(fs.map λf=>(k7 pts f).length).sum:=by
 induction fs with
 |nil=>simp
 |cons f fs ih=>
  have:=ih λg hg=>hf g (.tail _ hg);obtain⟨r,s,t,l,e⟩:=gN ho (hf f<|.head _);have e2:(k7 pts f).length=l.length+3:=by show(v6 f.1 (G5 f.1 f.2 pts)).length=_;rw[e];simp
  rw[aAu,aDL,aAv,e2]
  lia
end
theorem lC:∀(pts:List V) (up out:V),(G6 a A pts up out).2∈pts\/(G6 a A pts up out).2=out
 |[],up,out=>.inr rfl
 |P::Ps,up,out=>by
  unfold G6;split
  ·rcases lC Ps (cr a (P-A)) P with h|h
   ·exact .inl (.tail _ h)
   ·exact .inl (by rw[h];exact .head _)
  ·rcases lC Ps up out with h|h
   ·exact .inl (.tail _ h)
   ·exact .inr h
end G
namespace M
open PySem L2 DL
def OZ (a b:G.V):HT.lexLt (D5 (vd a)) (D5 (vd b))=true↔G.i8 (b-a):=by
 show HT.lexLt [a.x,a.y,a.z] [b.x,b.y,b.z]=true↔_;unfold G.i8;simp only[HT.lexLt,G.WA,G.WV,G.WJ];by_cases h1:a.x=b.x
 ·by_cases h2:a.y=b.y
  ·by_cases h3:a.z=b.z
   ·simp[h1,h2,h3]
   ·simp[h1,h2,h3];try lia
  ·simp[h1,h2];try lia
 ·simp[h1];try lia
def BG {pts:List G.V}(h:pts.Pairwise λa b=>G.i8 (b-a)):RE (pts.map vd):=aBM.mpr (h.imp λ{a b} q=>(OZ a b).mpr q)
def YW {pts:List G.V}(h:RE (pts.map vd)):pts.Pairwise λa b=>G.i8 (b-a):=(aBM.mp h).imp λ{a b} q=>(OZ a b).mp q
def OV (pts:List G.V):(pts.map vd).all cF=true:=aBz.mpr λd hd=>by obtain⟨v,_,rfl⟩:=aAp.mp hd;rfl
def XU [Tabs]{m:G.V}{pts:List G.V}(h:(m::pts).Pairwise λa b=>G.i8 (b-a)):NU [.lst ((m::pts).map vd)]=.ok (vd m):=by show(if(m::pts).map vd≠[]/\((m::pts).map vd).all cF=true then _ else _)=_;rw[if_pos ⟨by simp,OV _⟩,UZ (BG h) _ (by simp)];rfl
def xY {P Q R:G.V}(p:Sz 1000 P)(q:Sz 1000 Q)(r:Sz 1000 R):Sz 2003 (G.j6 P Q R).1:=by
 have sC:=(q.sub p).cr (r.sub p);by_cases hc:G.cr (Q-P) (R-P)=0
 ·have:(G.j6 P Q R).1=0:=by show G.lF (G.cr (Q-P)<|R-P) _=0;rw[hc];rfl
  rw[this];exact⟨by decide,by decide,by decide⟩
 ·obtain⟨g0,g1,g2⟩:=G.kI hc;have f1:=bits_fdiv (b:=(G.y7 (G.cr (Q-P)<|R-P):Int)) sC.1;have f2:=bits_fdiv (b:=(G.y7 (G.cr (Q-P)<|R-P):Int)) sC.2.1;have f3:=bits_fdiv (b:=(G.y7 (G.cr (Q-P)<|R-P):Int)) sC.2.2;rw[oK g0]at f1 f2 f3;exact⟨f1,f2,f3⟩
def zJ {A B:G.V}{pts:List G.V}(p:Sz 1000 A)(q:Sz 1000 B)(r:cS 1000 pts):Sz 2003 (G.b8 A B pts).1:=by
 unfold G.b8;rcases G.lC (a:=B-A) (A:=A) pts 0 A with h|h
 ·exact xY p q (r.1 _ h)
 ·rw[h];exact xY p q p
def oz (m:G.V):vd (m+G.kk)=.tup [.int m.x,.int m.y,.int (m.z+1)]:=by simp[G.kk]
def QY (h:Sz 900 m):Sz 1000 (m+G.kk):=(h.add (v:=G.kk) ⟨by decide,by decide,by decide⟩).mono
def LX (h:cS k pts):cS k (G.G5 n d pts):=h.sub (λP hP=>(G.f9.mp hP).1) (List.length_filter_le _ _)
def QA {α:Type}{l:List α}{a b:α}(ha:a∈l)(hb:b∈l)(h:a≠b):∃x y r,l=x::y::r:=by
 match l,ha,hb with
 |[x],ha,hb=>exact absurd ((aBb.mp ha).trans (aBb.mp hb).symm) h
 |x::y::r,_,_=>exact⟨x,y,r,rfl⟩
end M
namespace M
open PySem L2 DL
open Classical in
def LC {kvs:List (D×D)}{k v k':D}:k'∈(fL kvs k v).map (·.1)↔k'∈kvs.map (·.1)\/k'=k:=by
 unfold fL;split
 ·rename_i h;rw[aBx];have:((λx=>x.1)∘λp:D×D=>if p.1=k then(p.1,v)else p)=λp=>p.1:=by funext p;simp only[Function.comp];split<;>rfl
  rw[this];exact⟨.inl,λq=>q.elim id λe=>by rw[e];exact h⟩
 ·rw[aBU,aAH];simp
def LW {kvs:List (D×D)}{k v:D}:(fL kvs k v).length<=kvs.length+1:=by
 unfold fL;split
 ·simp
 ·simp
def RL {p q:G.V×G.V}(h:J6 p=J6 q):p=q:=by injection h with h;injection h with h1 h2;injection h2 with h2 _;exact aFT (CQ h1) (CQ h2)
def BU (p:G.V×G.V):R9 7 (J6 p)=true/\JF (J6 p)=true:=⟨rfl,rfl⟩
def ffC:Ev->R Bool:=λρ=>((((wG 5 ρ).bind λd=>R.ok [d]).bind LH).bind λx=>iq x (D.int 0)).bind HM
def ffS:Ev->R Out:=λρ=>
 G8 ((cI 9 ρ).bind λkd=>yY 4 ρ kd (D.bl true)) λρ=>((((wG 9 ρ).bind λx=>O5 x (D.int 1)).bind λd=>(((wG 9 ρ).bind λx=>O5 x (D.int 0)).bind λd=>R.ok [d]).bind λds=>R.ok (d::ds)).bind oB).bind (AE 5 ρ)
theorem EM {a0 a1 a2 a3 a6 a7 a8:Sl}:∀(qs:List (G.V×G.V)) (kvs:List (D×D)) (W:List (G.V×G.V)) (a9:Sl),kvs.length+qs.length<=10000->W.length+qs.length<=10000->
  ∃jn a9',X5 (λd ρ=>R.ok (aDh ρ 9 (Sl.v d))) ffS (qs.map J6) [a0,a1,a2,a3,.d kvs,.o (W.map J6),a6,a7,a8,a9]=.ok (.nx [a0,a1,a2,a3,.d jn,.o ((W++qs.map λq=>(q.2,q.1)).map J6),a6,a7,a8,a9'])/\
   (∀e:G.V×G.V,J6 e∈jn.map (·.1)↔J6 e∈kvs.map (·.1)\/e∈qs)/\jn.length<=kvs.length+qs.length
 |[],kvs,W,a9,_,_=>⟨kvs,a9,by simp,λe=>by simp,by simp⟩
 |q::qs,kvs,W,a9,h1,h2=>by
  simp only[aAv]at h1 h2;have pl:=LW (kvs:=kvs) (k:=J6 q) (v:=.bl true);obtain⟨jn,a9',e,m,l⟩:=EM qs (fL kvs (J6 q)<|.bl true) (W++[(q.2,q.1)]) (.v (J6 q)) (by lia) (by simp;lia);refine⟨jn,a9',?_,λx=>?_,by simp;lia⟩
  ·rw[aAu];refine(bE (ρ2:=[a0,a1,a2,a3,.d (fL kvs (J6 q)<|.bl true),.o ((W++[(q.2,q.1)]).map J6),a6,a7,a8,.v (J6 q)]) rfl ?_).trans ?_
   ·have hk:kvs.length<=sizeLine:=aAr (show kvs.length<=10000 by lia) (by decide);have hw:(W.map J6).length<sizeLine:=by rw[aAm];exact aCH (show W.length<=10000 by lia) (by decide)
    have d1:yY 4 [a0,a1,a2,a3,.d kvs,.o (W.map J6),a6,a7,a8,.v (J6 q)] (J6 q) (.bl true)=.ok (.nx [a0,a1,a2,a3,.d (fL kvs (J6 q)<|.bl true),.o (W.map J6),a6,a7,a8,.v (J6 q)]):=by show(if _ then _ else _)=_;rw[if_pos ⟨(BU q).1,(BU q).2,hk⟩];rfl
    have d2:AE 5 [a0,a1,a2,a3,.d (fL kvs (J6 q)<|.bl true),.o (W.map J6),a6,a7,a8,.v (J6 q)] (J6 (q.2,q.1))=.ok (.nx [a0,a1,a2,a3,.d (fL kvs (J6 q)<|.bl true),.o ((W++[(q.2,q.1)]).map J6),a6,a7,a8,.v (J6 q)]):=by show(if _ then _ else _)=_;rw[if_pos hw,aBU];rfl
    show G8 ((R.ok<|J6 q).bind λkd=>yY 4 [a0,a1,a2,a3,.d kvs,.o (W.map J6),a6,a7,a8,.v (J6 q)] kd (D.bl true)) _=_;rw[R.aa0,d1];exact d2
   ·rw[e];simp
  ·rw[m x,LC,aAe];constructor
   ·rintro((h|h)|h)
    ·exact .inl h
    ·exact .inr (.inl (RL h))
    ·exact .inr (.inr h)
   ·rintro(h|h|h)
    ·exact .inl (.inl h)
    ·exact .inl (.inr (by rw[h]))
    ·exact .inr h
section
variable(Φ:(List D->R D)->Hp->(Addr->Prop)->Addr->Prop)
def ffB:Ev->R Out:=λρ=>
 G8 ((BC 5 ρ).bind λz=>R.ok (Out.nx<|aDh z.snd 6<|Sl.v z.fst)) λρ=>
  ((cI 6 ρ).bind (pW 4 ρ)).bind λt=>
   if t=true then
    G8
     ((((cI 6 ρ).bind λd=>((callC Φ 1 (k8 (λρ=>(wG 6 ρ).bind λx=>O5 x (D.int 0)) M7) ρ).bind λd=>R.ok [d]).bind λds=>R.ok (d::ds)).bind F8).bind λd=>R.ok (Out.nx<|aDh ρ 7<|Sl.v d))
     λρ=>
     G8
      (((((wG 7 ρ).bind λx=>qQ x none (some 3)).bind λd=>((callC Φ 2 (k8 (cI 7) M7) ρ).bind λd=>R.ok [d]).bind λds=>R.ok (d::ds)).bind P7).bind λd=>R.ok (Out.nx<|aDh ρ 8<|Sl.v d))
      λρ=>
      G8 ((((cI 7 ρ).bind λd=>((cI 8 ρ).bind λd=>R.ok [d]).bind λds=>R.ok (d::ds)).bind oB).bind (AE 3 ρ))
       λρ=>((((cI 8 ρ).bind λd=>R.ok [d]).bind z9).bind jE).bind λds=>X5 (λd ρ=>R.ok (aDh ρ 9<|Sl.v d)) ffS ds ρ
   else R.ok (Out.nx ρ)
def xC (L:D) (p0:G.V×G.V) (fs:List D) (kvs:List (D×D)) (W:List (G.V×G.V)) (a b c d:Sl):Ev:=
 [Sl.v (J6 p0),Sl.c (K9 [L]) (Φ<|K9 [L]),Sl.c (E9 [L]) (Φ<|E9 [L]),.o fs,.d kvs,.o (W.map J6),a,b,c,d]
end
def xO {Φ:(List D->R D)->Hp->(Addr->Prop)->Addr->Prop}{i:Nat}{f:Ev->R (List D)}{ρ:Ev}{m:List D->R D}{ds:List D}(h:ρ[i]?=some (.c m (Φ m)))(hf:f ρ=.ok ds):callC Φ i f ρ=m ds:=by unfold callC;rw[h];dsimp only;rw[if_pos rfl,hf];rfl
def gG (pts:List G.V)(fs:List (G.V×Int)):Nat:=(fs.map λf=>(G.k7 pts f).length).sum
def eS (pts:List G.V)(fs:List (G.V×Int))(f:G.V×Int):gG pts (fs++[f])=gG pts fs+(G.k7 pts f).length:=by simp[gG]
def OL {pts:List G.V}{m:G.V}(h:Land pts m):Sz 1000 (G.d9 m pts).1/\Sz 1000 (G.d9 m pts).2:=by
 have sm:Sz 900 m:=h.sz.1 m h.good.mem;obtain⟨hp,tm,out,to,bc⟩:=G.wW h.good.solid h.good.mem h.good.least;unfold G.d9;dsimp only;split
 ·exact⟨sm.mono,QY sm⟩
 ·obtain⟨x,y,r,et⟩:=QA tm to bc;rw[et];have q:∀z∈x::y::r,Sz 1000 z:=λz hz=>by rw[<-et]at hz;exact(h.sz.1 z (G.f9.mp hz).1).mono
  exact⟨q x (.head _),q y (.tail _ (.head _))⟩
def UK {pts:List G.V}{m:G.V}(h:Land pts m){fs:List (G.V×Int)}{wk:G.V×G.V->Prop}{W:List (G.V×G.V)}(L:G.LInv pts (G.d9 m pts) fs wk W){p:G.V×G.V}(hp:p∈W):Sz 1000 p.1/\Sz 1000 p.2:=by
 rcases L.wt p hp with⟨f,hf,he⟩|⟨_,e⟩
 ·have S:=(L.face f hf).aa5 h.good.ord;have ed:=S.aa1.mp he;exact⟨(h.sz.1 _ (G.f9.mp ed.q).1).mono,(h.sz.1 _ (G.f9.mp ed.p).1).mono⟩
 ·rw[e];exact OL h
def QI {pts:List G.V}{m:G.V}(h:Land pts m){f:G.V×Int}(hf:G.IsFace pts f.1 f.2):(G.k7 pts f).length<=pts.length:=by have S:=hf.aa5 h.good.ord;exact G.V2 S.aa7 λx hx=>(G.f9.mp<|S.aa6 hx).1
def yO {pts:List G.V}{f g:G.V×Int}(h:T0 (o5 pts f)=T0 (o5 pts g)):f=g:=by have h:[f.1.x,f.1.y,f.1.z,f.2]=[g.1.x,g.1.y,g.1.z,g.2]:=h;simp only[aFy,and_true]at h;exact aFT (G.ext h.1 h.2.1 h.2.2.1) h.2.2.2
def qY {α β:Type}{f:α->β}(hf:∀a b,f a=f b->a=b){l:List α}(h:l.Nodup):(l.map f).Nodup:=aBM.mpr (h.imp λ{a b} n e=>n (hf a b e))
def SH {Φ:(List D->R D)->Hp->(Addr->Prop)->Addr->Prop}{pts:List G.V}{m:G.V}(hz:Land pts m){fs:List (G.V×Int)}{kvs:List (D×D)}{W:List (G.V×G.V)}{a b c d:Sl}(L:G.LInv pts (G.d9 m pts) fs (λe=>J6 e∈kvs.map (·.1)) W)
  (hk:kvs.length<=gG pts fs) (hW:W.length<=1+gG pts fs) {n:Nat} (hn:W.length+(pts.length*pts.length-gG pts fs)<n+1) (bc:W≠[]):
  ∃yf jn W' a' b' c' d',ffB Φ (xC Φ (.lst (pts.map vd)) (G.d9 m pts) (fs.map (o5 pts)) kvs W a b c d)=.ok (.nx (xC Φ (.lst (pts.map vd)) (G.d9 m pts) (yf.map (o5 pts)) jn W' a' b' c' d'))/\
   G.LInv pts (G.d9 m pts) yf (λe=>J6 e∈jn.map (·.1)) W'/\jn.length<=gG pts yf/\W'.length<=1+gG pts yf/\W'.length+(pts.length*pts.length-gG pts yf)<n:=by
 obtain⟨rest,p,rfl⟩:∃rest p,W=rest++[p]:=⟨W.dropLast,W.getLast bc,(List.dropLast_concat_getLast bc).symm⟩;have sfew:=G.fH hz.good.solid hz.good.ord L.nd L.face;have few:=hz.few;have nn:pts.length*pts.length<=63*63:=aEO few few;have hsum:gG pts fs+pts.length<=pts.length*pts.length:=sfew;have hlW:(rest++[p]).length=rest.length+1:=by simp
 rw[hlW]at hW hn;have pop:BC 5 (xC Φ (.lst (pts.map vd)) (G.d9 m pts) (fs.map<|o5 pts) kvs (rest++[p]) a b c d)=.ok (J6 p,xC Φ (.lst (pts.map vd)) (G.d9 m pts) (fs.map<|o5 pts) kvs rest a b c d):=by show(match((rest++[p]).map J6)[((rest++[p]).map J6).length-1]? with|some d=>_|none=>_:R (D×Ev))=_;rw[aBU];simp;rfl
 have nin:pW 4 (xC Φ (.lst (pts.map vd)) (G.d9 m pts) (fs.map<|o5 pts) kvs rest (.v (J6 p)) b c d) (J6 p)=.ok (!(open Classical in decide (J6 p∈kvs.map (·.1)))):=by unfold pW;rw[show(xC Φ (.lst (pts.map vd)) (G.d9 m pts) (fs.map<|o5 pts) kvs rest (.v (J6 p)) b c d)[4]?=some (.d kvs)from rfl];dsimp only;rw[if_pos (BU p)]
 have s1:cS 1000 pts:=hz.sz.mono;unfold ffB;rw[pop];show∃yf jn W' a' b' c' d',G8 (R.ok<|Out.nx<|xC Φ (.lst (pts.map vd)) (G.d9 m pts) (fs.map<|o5 pts) kvs rest (.v (J6 p)) b c d) _=_/\_;rw[C5];rw[show cI 6 (xC Φ (.lst (pts.map vd)) (G.d9 m pts) (fs.map<|o5 pts) kvs rest (.v (J6 p)) b c d)=.ok (J6 p)from rfl,R.aa0,nin,R.aa0];by_cases hp:J6 p∈kvs.map (·.1)
 ·refine⟨fs,kvs,rest,.v (J6 p),b,c,d,?_,G.MY hz.good L rfl hp,hk,by lia,by lia⟩;rw[decide_eq_true hp];rfl
 ·have hpm:p∈rest++[p]:=by simp
  obtain⟨n1,n2,n3⟩:=G.xP hz.good L hpm hp;obtain⟨sp1,sp2⟩:=UK hz L hpm;have ab:=X4 sp1 sp2 s1 n1.prim;have asz:=zJ sp1 sp2 s1;obtain⟨f,ef⟩:∃f,G.b8 p.1 p.2 pts=f:=⟨_,rfl⟩;rw[ef]at n1 n2 n3 ab asz;have po:=iW (d:=f.2) asz.mono s1;have ro:=VL (n:=f.1) (pts:=G.G5 f.1 f.2 pts) asz.mono (LX s1);have rl:=QI hz n1;have ro:P7 [vd f.1,.lst ((G.G5 f.1 f.2 pts).map vd)]=.ok (.lst ((G.k7 pts f).map vd)):=ro;have pr:=NM (pts:=G.k7 pts f) (by lia);have L':=λ{wk'} {W'} h1 h2=>G.OE hz.good L (rest:=rest) (p:=p) rfl hp (walked':=wk') (waiting':=W') h1 h2;rw[ef]at L';have nd':(fs++[f]).Nodup:=by
   have:=(L' (wk':=λe=>J6 e∈kvs.map (·.1)\/e∈G.aN (G.k7 pts f)) (W':=rest++(G.aN<|G.k7 pts f).map λq=>(q.2,q.1)) (λe=>Iff.rfl) (λq=>by
    rw[aAH,aAp];constructor
    ·rintro(h|⟨x,hx,rfl⟩)
     ·exact .inl h
     ·exact .inr hx
    ·rintro(h|h)
     ·exact .inl h
     ·exact .inr ⟨_,h,rfl⟩))
   exact this.nd
  have sfew2:gG pts (fs++[f])+pts.length<=pts.length*pts.length:=G.fH hz.good.solid hz.good.ord nd' λg hg=>by
   rcases aAH.mp hg with z|z
   ·exact L.face g z
   ·rw[aBb.mp z];exact n1
  rw[eS]at sfew2;have clen:(G.aN<|G.k7 pts f).length=(G.k7 pts f).length:=by unfold G.aN;simp;lia
  obtain⟨jn,a9',run,mem',len'⟩:=EM (a0:=Sl.v (J6<|G.d9 m pts)) (a1:=Sl.c (K9 [.lst (pts.map vd)]) (Φ<|K9 [.lst (pts.map vd)])) (a2:=Sl.c (E9 [.lst (pts.map vd)]) (Φ<|E9 [.lst (pts.map vd)])) (a3:=.o ((fs++[f]).map (o5 pts))) (a6:=.v (J6 p)) (a7:=.v (wO f.1 f.2)) (a8:=.v (.lst ((G.k7 pts f).map vd))) (G.aN<|G.k7 pts f) kvs rest d (by lia) (by lia);refine⟨fs++[f],jn,rest++(G.aN<|G.k7 pts f).map (λq=>(q.2,q.1)),.v (J6 p),.v (wO f.1 f.2),.v (.lst ((G.k7 pts f).map vd)),a9',?_,L' mem' (λq=>?_),?_,?_,?_⟩
  ·have ap:AE 3 (xC Φ (.lst (pts.map vd)) (G.d9 m pts) (fs.map<|o5 pts) kvs rest (.v (J6 p)) (.v (wO f.1 f.2)) (.v (.lst ((G.k7 pts f).map vd))) d) (o5 pts f)=.ok (.nx (xC Φ (.lst (pts.map vd)) (G.d9 m pts) ((fs++[f]).map (o5 pts)) kvs rest (.v (J6 p)) (.v (wO f.1 f.2)) (.v (.lst ((G.k7 pts f).map vd))) d)):=by show(if(fs.map<|o5 pts).length<sizeLine then _ else _)=_;have h3:=G.lP hz.good.solid hz.good.ord L.face;have h3:3*fs.length<=gG pts fs:=h3;rw[if_pos (by rw[aAm];exact aCH (show fs.length<=4000 by lia) (by decide)),aBU];rfl
   have ca:callC Φ 1 (k8 (λρ=>(wG 6 ρ).bind λx=>O5 x (D.int 0)) M7) (xC Φ (.lst (pts.map vd)) (G.d9 m pts) (fs.map<|o5 pts) kvs rest (.v (J6 p)) b c d)=.ok (.lst (pts.map vd)):=by exact(xO (m:=K9 [.lst (pts.map vd)]) (ds:=[vd p.1]) rfl rfl).trans rfl
   have ct:callC Φ 2 (k8 (cI 7) M7) (xC Φ (.lst (pts.map vd)) (G.d9 m pts) (fs.map<|o5 pts) kvs rest (.v (J6 p)) (.v (wO f.1 f.2)) c d)=.ok (.lst ((G.G5 f.1 f.2 pts).map vd)):=by exact(xO (m:=E9 [.lst (pts.map vd)]) (ds:=[wO f.1 f.2]) rfl rfl).trans po
   have sl:qQ (wO f.1 f.2) none (some 3)=.ok (vd f.1):=rfl;rw[decide_eq_false hp];simp only[Bool.not_false,if_true];rw[ca,R.aa0,R.aa0,R.aa0,R.aa0,ab,R.aa0];show G8 (R.ok<|Out.nx<|xC Φ (.lst (pts.map vd)) (G.d9 m pts) (fs.map<|o5 pts) kvs rest (.v (J6 p)) (.v (wO f.1 f.2)) c d) _=_;rw[C5];rw[ct];show G8 ((((R.ok<|wO f.1 f.2).bind λx=>qQ x none (some 3)).bind λd=>(R.ok [D.lst ((G.G5 f.1 f.2 pts).map vd)]).bind λds=>R.ok (d::ds)).bind P7|>.bind λd=>R.ok (Out.nx<|aDh _ 8<|Sl.v d)) _=_;rw[R.aa0,sl,R.aa0,R.aa0,R.aa0,ro,R.aa0];show G8 (R.ok<|Out.nx<|xC Φ (.lst (pts.map vd)) (G.d9 m pts) (fs.map<|o5 pts) kvs rest (.v (J6 p)) (.v (wO f.1 f.2)) (.v (.lst ((G.k7 pts f).map vd))) d) _=_;rw[C5];show G8 (AE 3 (xC Φ (.lst (pts.map vd)) (G.d9 m pts) (fs.map<|o5 pts) kvs rest (.v (J6 p)) (.v (wO f.1 f.2)) (.v (.lst ((G.k7 pts f).map vd))) d)<|o5 pts f) _=_;rw[ap,C5];show((z9 [.lst ((G.k7 pts f).map vd)]).bind jE).bind _=_;rw[pr,R.aa0];exact run
  ·rw[aAH,aAp];constructor
   ·rintro(h|⟨x,hx,rfl⟩)
    ·exact .inl h
    ·exact .inr hx
   ·rintro(h|h)
    ·exact .inl h
    ·exact .inr ⟨_,h,rfl⟩
  ·rw[eS];lia
  ·rw[eS,aAD,aAm];lia
  ·rw[eS,aAD,aAm];lia
end M
namespace M
open PySem L2 DL
def SG (pts:List G.V)(f:G.V×Int):List (G.V×Int)->List (G.V×Int)
 |[]=>[f]
 |x::xs=>if HT.lexLt (T0 (o5 pts f)) (T0 (o5 pts x))=true then f::x::xs else x::SG pts f xs
def FC (pts:List G.V)(fs:List (G.V×Int)):List (G.V×Int):=fs.foldr (SG pts) []
theorem yP (pts:List G.V)(f:G.V×Int):∀xs:List (G.V×Int),tZ T0 (o5 pts f) (xs.map (o5 pts))=(SG pts f xs).map (o5 pts)
 |[]=>rfl
 |x::xs=>by
  unfold SG;rw[aAu,tZ];split
  ·rfl
  ·rw[aAu,yP pts f xs]
theorem eZ (pts:List G.V):∀fs:List (G.V×Int),oP T0 (fs.map (o5 pts))=(FC pts fs).map (o5 pts)
 |[]=>rfl
 |f::fs=>by show tZ T0 (o5 pts f) (oP T0 (fs.map (o5 pts)))=_;rw[eZ pts fs,yP];rfl
def kU (h:o5 pts f=o5 pts g):f=g:=yO (by rw[h])
theorem fT:∀{a b:List (G.V×Int)},a.map (o5 pts)=b.map (o5 pts)->a=b
 |[],[],_=>rfl
 |[],_::_,h=>by cases h
 |_::_,[],h=>by cases h
 |x::a,y::b,h=>by rw[aAu,aAu]at h;injection h with h1 h2;rw[kU h1,fT h2]
def HE:f∈FC pts fs↔f∈fs:=by
 have h:=(W6 T0<|fs.map<|o5 pts).mem_iff (a:=o5 pts f);rw[eZ]at h;constructor
 ·intro q;obtain⟨g,hg,e⟩:=aAp.mp (h.mp<|aDA q);rw[<-kU e];exact hg
 ·intro q;obtain⟨g,hg,e⟩:=aAp.mp (h.mpr<|aDA q);rw[<-kU e];exact hg
def sS [Tabs]{pts:List G.V}{fs:List (G.V×Int)}(h:fs.Nodup):((fs.map (o5 pts)).map T0).Nodup:=by rw[aBx];exact qY (λa b e=>yO (pts:=pts) e) h
def gK (h:uI k l):l.Nodup:=h.imp λ{a b} q e=>by subst e;rw[TS.lex_irrefl]at q;cases q
def bD {pts:List G.V}{fs:List (G.V×Int)}(h:(fs.map (o5 pts)).Nodup):fs.Nodup:=(aBM.mp h).imp λ{a b} n e=>n (by rw[e])
def xN {pts:List G.V}{fs gs:List (G.V×Int)}(h1:iA pts fs)(h2:iA pts gs):fs=gs:=by
 have n1:=bD (gK h1.2);have n2:=bD (gK h2.2);have p:fs.Perm gs:=(aDs n1 n2).mpr λf=>by rw[h1.1,h2.1]
 exact fT (lN h1.2 h2.2 (p.map _))
def pY (h:iA pts fs):G4 pts=fs:=by unfold G4;have q:∃fs,iA pts fs:=⟨fs,h⟩;rw[dif_pos q];exact xN q.choose_spec h
def rV [Tabs]{pts:List G.V}{fs:List (G.V×Int)}(nd:fs.Nodup)(h:∀n d,(n,d)∈fs↔G.IsFace pts n d):iA pts (FC pts fs):=by refine⟨λf=>by rw[HE];exact h f.1 f.2,?_⟩;rw[<-eZ];exact kT (sS nd)
def nq [Tabs]{Φ:(List D->R D)->Hp->(Addr->Prop)->Addr->Prop}{pts:List G.V}{m:G.V}(hz:Land pts m)(vf:pts.length<=14):
  T6 (G8 (S7 ffC (ffB Φ) 5000 (xC Φ (.lst (pts.map vd)) (G.d9 m pts) [] [] [G.d9 m pts] .no .no .no .no)) λρ=>(((wG 3 ρ).bind yq).bind λds=>R.ok (D.lst ds)).bind λd=>R.ok (Out.rt d))=.ok (.lst ((G4 pts).map (o5 pts))):=by
 refine GB (Iv:=λn ρ=>∃fs kvs W a b c d,ρ=xC Φ (.lst (pts.map vd)) (G.d9 m pts) (fs.map<|o5 pts) kvs W a b c d/\G.LInv pts (G.d9 m pts) fs (λe=>J6 e∈kvs.map (·.1)) W/\kvs.length<=gG pts fs/\W.length<=1+gG pts fs/\W.length+(pts.length*pts.length-gG pts fs)<n) ?_ ?_ ?_ (by rintro ρ ⟨_,_,_,_,_,_,_,_,_,_,_,h⟩;lia)
 ·rintro n ρ ⟨fs,kvs,W,a,b,c,d,rfl,L,hk,hW,hn⟩;by_cases bc:W=[]
  ·subst bc;exact .inl rfl
  ·refine .inr ⟨?_,?_⟩
   ·have hl:(0:Int)<((W.map J6).length:Int):=by have:=List.length_pos_iff.mpr bc;rw[aAm];lia
    show(R.ok<|D.bl<|decide ((0:Int)<((W.map J6).length:Int))).bind HM=_;rw[decide_eq_true hl];rfl
   ·obtain⟨yf,jn,W',a',b',c',d',e,L',mi,hW',hn'⟩:=SH (Φ:=Φ) (a:=a) (b:=b) (c:=c) (d:=d) hz L hk hW hn bc;exact⟨_,e,yf,jn,W',a',b',c',d',rfl,L',mi,hW',hn'⟩
 ·refine⟨[],[],[G.d9 m pts],.no,.no,.no,.no,rfl,?_,aAh _,aAh _,?_⟩
  ·have:=G.AS hz.good;refine⟨this.face,this.nd,λe=>?_,this.cl,this.wt,this.ne⟩;rw[<-this.wk e];simp
  ·have nn:pts.length*pts.length<=14*14:=aEO vf vf;show 1+(pts.length*pts.length-0)<5000
   lia
 ·rintro n ρ ⟨fs,kvs,W,a,b,c,d,rfl,L,hk,hW,hn⟩ hc;have hW0:W=[]:=by
   cases W with
   |nil=>rfl
   |cons p W=>have hc:(R.ok<|D.bl<|decide ((0:Int)<(((p::W).map J6).length:Int))).bind HM=.ok false:=hc;rw[decide_eq_true (by simp;try lia)]at hc;cases hc
  subst hW0;obtain⟨bc,qm⟩:=G.KC hz.good L;have FL:=rV L.nd qm;rw[pY FL];have few:=G.fH hz.good.solid hz.good.ord L.nd L.face;have three:=G.lP hz.good.solid hz.good.ord L.face;have nn:pts.length*pts.length<=14*pts.length:=Nat.mul_le_mul_right _ vf;have h63:(fs.map<|o5 pts).length<=63:=by rw[aAm];lia
  have sf:yq (.lst (fs.map<|o5 pts))=.ok ((FC pts fs).map (o5 pts)):=by show(if _ then _ else _)=_;rw[if_pos ⟨aBz.mpr λd hd=>by obtain⟨f,_,rfl⟩:=aAp.mp hd;rfl,sS L.nd,h63⟩,eZ]
  show T6 ((((R.ok<|D.lst<|fs.map<|o5 pts).bind yq).bind λds=>R.ok (D.lst ds)).bind λd=>R.ok (Out.rt d))=_;rw[R.aa0,sf];rfl
end M
namespace M
open PySem L2 DL
theorem EL:∀{ds:List D},(∀d∈ds,∃v,d=vd v)->(ds.filterMap wM).map vd=ds
 |[],_=>rfl
 |d::ds,h=>by obtain⟨v,rfl⟩:=h d (.head _);rw[List.filterMap_cons_some (EA v),aAu,EL λd hd=>h d (.tail _ hd)]
section
variable [Tabs]
def MW (pts:List G.V):∀d∈pts.map vd,cF d=true:=λd hd=>by obtain⟨v,_,rfl⟩:=aAp.mp hd;rfl
def bI (pts:List G.V):aX (pts.map vd)=(n4 pts).map vd:=by unfold n4;refine(EL λd hd=>?_).symm;obtain⟨v,_,rfl⟩:=aAp.mp ((O9 (MW pts) d).mp hd);exact⟨v,rfl⟩
def bB (pts:List G.V):(n4 pts).Pairwise λa b=>G.i8 (b-a):=YW (by rw[<-bI];exact fA _)
def LM {v:G.V}{pts:List G.V}:vd v∈pts.map vd↔v∈pts:=by rw[aAp];exact⟨λ⟨u,hu,e⟩=>by rw[<-CQ e];exact hu,λh=>⟨v,h,rfl⟩⟩
def B9 {pts:List G.V}{v:G.V}:v∈n4 pts↔v∈pts:=by rw[<-LM,<-bI,O9 (MW pts),LM]
def iN (pts:List G.V):(n4 pts).Nodup:=(bB pts).imp λ{a b} h e=>by subst e;exact G.Q1 h
def zC {a b:List G.V}(ha:a.Pairwise λa b=>G.i8 (b-a))(hb:b.Pairwise λa b=>G.i8 (b-a))(h:∀v,v∈a↔v∈b):a=b:=by refine TZ (qF (BG ha) (BG hb) λd=>?_);rw[aAp,aAp];exact⟨λ⟨v,hv,e⟩=>⟨v,(h v).mp hv,e⟩,λ⟨v,hv,e⟩=>⟨v,(h v).mpr hv,e⟩⟩
def WB (h:(n4 pts).length<=63):wz (.lst (pts.map vd))=.ok ((n4 pts).map vd):=by show(if _ then _ else _)=_;rw[if_pos ⟨OV pts,by rw[bI,aAm];exact h⟩,bI]
def HX (h:G.A5 a)(hm:∀v,v∈a->v∈b):G.A5 b:=by obtain⟨A,hA,B,hB,C,hC,D,hD,e⟩:=h;exact⟨A,hm A hA,B,hm B hB,C,hm C hC,D,hm D hD,e⟩
def XN (h:G.A5 pts):G.U9 pts=3:=by
 by_cases e:G.U9 pts=3
 ·exact e
 ·exact absurd h (G.QG e)
def pR (pts:List G.V):(n4 pts).length<=pts.length:=G.V2 (iN pts) λv hv=>B9.mp hv
def nE (hs:cS 900 pts)(hd:G.A5 pts)(hl:(n4 pts).length<=63):∃m r,n4 pts=m::r/\Land (m::r) m:=by
 have sd:G.A5 (n4 pts):=HX hd λv hv=>B9.mpr hv;cases e:n4 pts with
 |nil=>rw[e]at sd;obtain⟨A,hA,_⟩:=sd;cases hA
 |cons m r=>
  refine⟨m,r,rfl,?_⟩;have so:=bB pts;rw[e]at sd hl so;refine⟨⟨sd,so,.head _,λX hX=>?_⟩,⟨λP hP=>hs.1 P (B9.mp (by rw[e];exact hP)),by lia⟩,hl,rfl⟩;rcases aAe.mp hX with h|h
  ·exact .inl h
  ·exact .inr ((aAy.mp so).1 X h)
def TM (h1:cS 1000 pts)(h2:G.A5 pts):G0 [.lst (pts.map vd)]=.ok .non:=by simp only[G0,u9];exact if_pos ⟨h1,XN h2⟩
def a0c (h:Land (m::pts) m):K4 [.lst ((m::pts).map vd)]=.ok (J6 (G.d9 m (m::pts))):=by simp only[K4,u9];exact if_pos h
def ZO (h:Land (m::pts) m)(vf:(m::pts).length<=14):J9 (J6 (G.d9 m (m::pts))) (K9 [.lst ((m::pts).map vd)]) (E9 [.lst ((m::pts).map vd)])=.ok (.lst ((G4 (m::pts)).map (o5 (m::pts)))):=by simp only[J9,show K9 [.lst ((m::pts).map vd)] [.non]=.ok (.lst ((m::pts).map vd))from rfl,u9];exact if_pos ⟨h,vf,rfl,rfl,rfl⟩
def OO (h1:cS 900 pts)(h2:G.A5 pts)(h3:(n4 pts).length<=14):X1 [.lst (pts.map vd)]=.ok (.lst ((G4 (n4 pts)).map (o5 (n4 pts)))):=by simp only[X1,u9];exact if_pos ⟨h1,h2,h3⟩
def VD (h1:cS 900 pts)(h2:G.A5 pts)(h3:(n4 pts).length<=14):aO [.lst (pts.map vd)]=.ok (.lst ((iS pts).map vd)):=by simp only[aO,u9];exact if_pos ⟨h1,h2,h3⟩
omit [Tabs]in
theorem tw {α:Type}:∀l:List α,∃l':List α,l'.Nodup/\∀x,x∈l'↔x∈l
 |[]=>⟨[],aCw,λ_=>Iff.rfl⟩
 |a::l=>by
  obtain⟨l',nd,h⟩:=tw l;by_cases ha:a∈l
  ·exact⟨l',nd,λx=>by rw[h,aAe];exact⟨.inr,λq=>q.elim (λe=>by rw[e];exact ha) id⟩⟩
  ·exact⟨a::l',aAM.mpr ⟨λz=>ha ((h a).mp z),nd⟩,λx=>by rw[aAe,aAe,h]⟩
def dF (h:Land pts m)(vf:pts.length<=14):iA pts (G4 pts):=by
 classical
 obtain⟨fs,nd,hfs⟩:=tw ((G.cands pts).filter λf=>decide (G.IsFace pts f.1 f.2));have hm:∀n d,(n,d)∈fs↔G.IsFace pts n d:=λn d=>by
  rw[hfs,aDj];constructor
  ·intro q;exact of_decide_eq_true q.2
  ·intro q;refine⟨?_,decide_eq_true q⟩;obtain⟨A,hA,B,hB,C,hC,_,e⟩:=G.IH q;unfold G.cands;rw[<-e];exact aBJ.mpr ⟨A,hA,aBJ.mpr ⟨B,hB,aAp.mpr ⟨C,hC,rfl⟩⟩⟩
 have FL:=rV nd hm;rw[pY FL];exact FL
theorem lQ:∀(xs:List D) (rs:List (List G.V)) (acc:List G.V) (x y:Sl),tR xs=some rs->acc.length+rs.flatten.length<=3000->
  ∃x' y',X5 (FR 2 (uY (λd ρ=>R.ok (aDh ρ 2 (Sl.v d))) (uY (λd ρ=>R.ok (aDh ρ 3 (Sl.v d))) WP))) (λρ=>(cI 3 ρ).bind (gj 1 ρ)) xs [a,.o (acc.map vd),x,y]=.ok (.nx [a,.o ((acc++rs.flatten).map vd),x',y'])
 |[],rs,acc,x,y,h,_=>by cases h;exact⟨x,y,by simp⟩
 |d::xs,rs,acc,x,y,h,hl=>by
  unfold tR at h;split at h
  ·rename_i v vs h1 h2;cases h;obtain⟨p,ys,rfl,e1⟩:∃p ys,d=.tup [p,.lst ys]/\J0 ys=some v:=by
    unfold cw at h1;split at h1
    ·exact⟨_,_,rfl,h1⟩
    ·cases h1
   have ey:=t7 e1;subst ey;rw[aCa,aAD]at hl;obtain⟨x',y',e⟩:=lQ xs vs (acc++v) (.v p) (.v (.lst (v.map vd))) h2 (by rw[aAD];lia);refine⟨x',y',?_⟩;have hz:(acc.map vd).length+(v.map vd).length<=sizeLine:=by rw[aAm,aAm];exact JZ (by lia)
   refine(bE (ρ1:=[a,.o (acc.map vd),.v p,.v (.lst (v.map vd))]) (ρ2:=[a,.o ((acc++v).map vd),.v p,.v (.lst (v.map vd))]) rfl ?_).trans ?_
   ·show(if(acc.map vd).length+(v.map vd).length<=sizeLine then _ else _)=_;rw[if_pos hz,aBU];rfl
   ·rw[e,aCa,aDN]
  ·cases h
theorem mC (pts:List G.V):∀fs:List (G.V×Int),tR (fs.map (o5 pts))=some (fs.map (G.k7 pts))
 |[]=>rfl
 |f::fs=>by rw[aAu,tR,mC pts fs];rw[show cw (o5 pts f)=some (G.k7 pts f)from u9 _];rfl
def CI {pts:List G.V}{fs:List (G.V×Int)}(h1:(fs.flatMap (G.k7 pts)).length<=3000)(h2:(n4 (fs.flatMap (G.k7 pts))).length<=63):J7 [.lst (fs.map (o5 pts))]=.ok (.lst ((n4 (fs.flatMap (G.k7 pts))).map vd)):=by have e:(fs.map<|G.k7 pts).flatten=fs.flatMap (G.k7 pts):=rfl;simp only[J7,mC,e];exact if_pos ⟨h1,h2⟩
def zH (ho:pts.Pairwise λa b=>G.i8 (b-a))(hf:G.IsFace pts f.1 f.2)(h:X∈G.k7 pts f):X∈pts:=(G.f9.mp<|(hf.aa5 ho).aa6 h).1
def KD (h1:cS 900 pts)(h2:G.A5 pts)(h3:(n4 pts).length<=14)(h:X∈iS pts):X∈pts:=by obtain⟨m,r,e,L⟩:=nE h1 h2 (by lia);unfold iS at h;rw[B9,aBJ]at h;obtain⟨f,hf,hX⟩:=h;rw[e]at hf hX h3;have FL:=dF L h3;have:=zH L.good.ord ((FL.1 f).mp hf) hX;rw[<-e,B9]at this;exact this
def GY (L:Land pts m)(vf:pts.length<=14):((G4 pts).flatMap (G.k7 pts)).length<=200/\(n4 ((G4 pts).flatMap (G.k7 pts))).length<=14:=by
 have FL:=dF L vf;have nd:=bD (gK FL.2);have few:=G.fH L.good.solid L.good.ord nd λf hf=>(FL.1 f).mp hf;have nn:pts.length*pts.length<=14*14:=aEO vf vf;constructor
 ·rw[List.length_flatMap]
  lia
 ·refine aAr (G.V2 (iN _) λv hv=>?_) vf;rw[B9,aBJ]at hv;obtain⟨f,hf,hX⟩:=hv;exact zH L.good.ord ((FL.1 f).mp hf) hX
end
end M
namespace G
def xJ (ho:pts.Pairwise (λa b=>i8 (b-a)))(hf:IsFace pts n d)(h3:∀X∈pts,f8 n X=d->X=A\/X=B\/X=C):A∈k7 pts (n,d)/\B∈k7 pts (n,d)/\C∈k7 pts (n,d):=by
 obtain⟨r,s,t,l,e⟩:=gN ho hf;have S:=hf.aa5 ho;have nd:=S.aa7;have sub:∀X∈v6 n (G5 n d pts),X=A\/X=B\/X=C:=λX hX=>by have:=f9.mp (S.aa6 hX);exact h3 X this.1 this.2
 show A∈v6 n (G5 n d pts)/\B∈v6 n (G5 n d pts)/\C∈v6 n (G5 n d pts);rw[e]at nd sub⊢;have hr:=sub r (by simp);have hs:=sub s (by simp);have ht:=sub t (by simp);simp only[aAM,aAe,not_or]at nd;obtain⟨⟨n1,n2,_⟩,⟨n3,_⟩,_⟩:=nd;simp only[aAe];rcases hr with rfl|rfl|rfl<;>rcases hs with rfl|rfl|rfl<;>rcases ht with rfl|rfl|rfl<;>simp_all
def fM (hp:∀X∈pts,X=A\/X=B\/X=C\/X=D)(hA:A∈pts)(hB:B∈pts)(hC:C∈pts)(h:i4 (B-A) (C-A) (D-A)<0):∃n d,IsFace pts n d/\∀X∈pts,f8 n X=d->X=A\/X=B\/X=C:=by
 have e0:i4 (B-A) (C-A) (D-A)=f8 (cr (B-A)<|C-A) (D-A):=by simp[i4,f8];grind
 have hc:cr (B-A) (C-A)≠0:=λz=>by rw[e0,z]at h;simp[f8]at h
 obtain⟨g,g0,ge,pr,pd⟩:=iE hc;generalize(j6 A B C).1=n at*
 generalize(j6 A B C).2=d at*
 have gm:∀X:V,f8 (cr (B-A)<|C-A) X=g*f8 n X:=λX=>by rw[ge];simp[f8];grind
 have z:∀X:V,f8 (cr (B-A)<|C-A) (X-A)=0->f8 n X=d:=λX hX=>by
  have:=gm (X-A);rw[hX]at this;have h0:f8 n (X-A)=0:=by
   rcases aAI.mp this.symm with q|q
   ·omega
   ·exact q
  rw[i6]at h0;omega
 have dB:f8 n B=d:=z B (by simp[f8];grind);have dC:f8 n C=d:=z C (by simp[f8];grind);have dA:f8 n A=d:=pd.symm;have dD:f8 n D<d:=by
  have h1:=gm (D-A);rw[<-e0,i6]at h1;have:g*(f8 n D-f8 n A)<0:=by rw[<-h1];exact h
  have:f8 n D-f8 n A<0:=by
   rcases Int.lt_or_le (f8 n D-f8 n A) 0 with q|q
   ·exact q
   ·have:=aDP (aAZ g0) q;omega
  omega
 refine⟨n,d,⟨pr,λX hX=>?_,A,hA,B,hB,C,hC,dA,dB,dC,hc⟩,λX hX hx=>?_⟩
 ·rcases hp X hX with rfl|rfl|rfl|rfl<;>omega
 ·rcases hp X hX with rfl|rfl|rfl|rfl
  ·exact .inl rfl
  ·exact .inr (.inl rfl)
  ·exact .inr (.inr rfl)
  ·omega
def DH (ho:pts.Pairwise (λa b=>i8 (b-a)))(hp:∀X∈pts,X=A\/X=B\/X=C\/X=D)(hA:A∈pts)(hB:B∈pts)(hC:C∈pts)(hD:D∈pts)(h:i4 (B-A) (C-A) (D-A)≠0):∀X∈pts,∃f:V×Int,IsFace pts f.1 f.2/\X∈k7 pts f:=by
 have one:∀{A B C D:V},(∀X∈pts,X=A\/X=B\/X=C\/X=D)->A∈pts->B∈pts->C∈pts->i4 (B-A) (C-A) (D-A)≠0->∃f:V×Int,IsFace pts f.1 f.2/\A∈k7 pts f/\B∈k7 pts f/\C∈k7 pts f:=λ{A B C D} hp hA hB hC h=>by
  rcases Int.lt_or_le (i4 (B-A) (C-A)<|D-A) 0 with q|q
  ·obtain⟨n,d,hf,h3⟩:=fM hp hA hB hC q;exact⟨(n,d),hf,xJ ho hf h3⟩
  ·have e:i4 (C-A) (B-A) (D-A)=-i4 (B-A) (C-A) (D-A):=by simp[i4,f8];grind
   obtain⟨n,d,hf,h3⟩:=fM (A:=A) (B:=C) (C:=B) (D:=D) (λX hX=>by rcases hp X hX with e|e|e|e<;>simp[e]) hA hC hB (by omega);obtain⟨r1,r2,r3⟩:=xJ ho hf h3;exact⟨(n,d),hf,r1,r3,r2⟩
 obtain⟨f,f1,f2,f3,f4⟩:=one hp hA hB hC h;have e2:i4 (C-B) (D-B) (A-B)=-i4 (B-A) (C-A) (D-A):=by simp[i4,f8];grind
 obtain⟨g,g1,g2,g3,g4⟩:=one (A:=B) (B:=C) (C:=D) (D:=A) (λX hX=>by rcases hp X hX with e|e|e|e<;>simp[e]) hB hC hD (by omega);intro X hX;rcases hp X hX with rfl|rfl|rfl|rfl
 ·exact⟨f,f1,f2⟩
 ·exact⟨f,f1,f3⟩
 ·exact⟨f,f1,f4⟩
 ·exact⟨g,g1,g4⟩
end G
namespace M
open PySem L2 DL
variable [Tabs]
def HB {A B C E:G.V}{pts:List G.V}(h1:cS 900 pts)(hp:∀X,X∈pts↔X=A\/X=B\/X=C\/X=E)(h:G.i4 (B-A) (C-A) (E-A)≠0)(h3:(n4 pts).length<=14):G.A5 pts/\iS pts=n4 pts:=by
 have hA:A∈pts:=(hp A).mpr (.inl rfl);have hB:B∈pts:=(hp B).mpr (.inr (.inl rfl));have hC:C∈pts:=(hp C).mpr (.inr (.inr (.inl rfl)));have hE:E∈pts:=(hp E).mpr (.inr (.inr (.inr rfl)));have hs:G.A5 pts:=⟨A,hA,B,hB,C,hC,E,hE,h⟩;refine⟨hs,zC (bB _) (bB _) λv=>⟨λhv=>?_,λhv=>?_⟩⟩
 ·exact B9.mpr (KD h1 hs h3 hv)
 ·obtain⟨m,r,e,L⟩:=nE h1 hs (by lia);unfold iS;rw[B9,aBJ];rw[e]at hv h3⊢;have FL:=dF L h3;have mem:∀X,X∈m::r↔X∈pts:=λX=>by rw[<-e,B9]
  obtain⟨f,hf,hX⟩:=G.DH L.good.ord (λX hX=>(hp X).mp ((mem X).mp hX)) ((mem A).mpr hA) ((mem B).mpr hB) ((mem C).mpr hC) ((mem E).mpr hE) h v hv;exact⟨f,(FL.1 f).mpr hf,hX⟩
end M
namespace DL
open PySem PySem.Spec L2
def TC {K:Params->PySem.W.Frag}{P c:Addr}{tb:List (Pos×Str)}{ts:List Addr}(h1:P∈ts)(h2:∀w:World,PySem.W.codeHdIn (K w.params) c P=true):∀p∈[(P,tb)],p.1∈ts/\∃c,∀w:World,PySem.W.codeHdIn (K w.params) c p.1=true:=λp hp=>by rw[aBb.mp hp];exact⟨h1,c,h2⟩
end DL
namespace DL
open PySem PySem.Spec L2
def Got (K:PySem.W.Frag)(x:Str)(st:Stmt):Prop:=∃f fd,PySem.W.nsIn K mainGlobals x=some (some<|.ref f)/\Fun K x x st f fd
def UM (K:PySem.W.Frag)(x:Str)(st:Stmt)(Pt:Addr):Prop:=∃f fd cd,PySem.W.nsIn K mainGlobals x=some (some<|.ref f)/\PySem.W.codeHdIn K cd Pt=true/\FunC K x x st f fd cd
def aL (K:PySem.W.Frag)(mg:Y0)(x:Str)(st:Stmt):Prop:=∃f fd,mg x=some (.ref f)/\Fun K x x st f fd
def rz (K:PySem.W.Frag)(mg:Y0)(x:Str)(st:Stmt)(Pt:Addr):Prop:=∃f fd cd,mg x=some (.ref f)/\PySem.W.codeHdIn K cd Pt=true/\FunC K x x st f fd cd
section
variable{kV doc pm cdv ct:Value}
def bw (a:PySem.W.nsIn K mainGlobals x=some (some (.ref f)))(l:K.lookup f=some ⟨oc,od,.func (PySem.W.fnOf x x (G7 st) (q8 st) (c6 st) .none kV doc pm an cdv ct),osl⟩)
 (c:PySem.W.codeIn K cdv x=true) (k:PySem.W.keepIn K (.ref f)=true):Got K x st:=⟨f,_,a,MP l c k⟩
def VO (a:PySem.W.nsIn K mainGlobals x=some (some (.ref f)))(l:K.lookup f=some ⟨oc,od,.func (PySem.W.fnOf x x (G7 st) (q8 st) (c6 st) .none kV doc pm an cdv ct),osl⟩)
 (c:PySem.W.codeIn K cdv x=true) (k:PySem.W.keepIn K (.ref f)=true) (e:cdv=.ref cd) (n:PySem.W.codeHdIn K cd Pt=true):UM K x st Pt:=⟨f,_,cd,a,n,SL l e c k⟩
def Got.def (g:Got K x st)(X:K.In h)(G:h.Ns mainGlobals mg):aL K mg x st:=let⟨f,fd,a,b⟩:=g;⟨f,fd,PySem.W.mg_of X G a,b⟩
def UM.def (g:UM K x st Pt)(X:K.In h)(G:h.Ns mainGlobals mg):rz K mg x st Pt:=let⟨f,fd,cd,a,b⟩:=g;⟨f,fd,cd,PySem.W.mg_of X G a,b⟩
def D8 (h1:sc.kind=.function:=by rfl)(h2:sc.isCoroutine=false:=by rfl)(h3:sc.isGenerator=false:=by rfl)(h4:N.Nodup:=by decide+kernel)(h5:N.take ps.length=ps:=by rfl)(h6:∀x∈ps,sc.names.lookup x=some .local\/sc.names.lookup x=some .cell:=by decide+kernel)(h7:∀y∈sc.names,y.2≠.free:=by decide+kernel):FnScope N ps sc:=⟨h1,h2,h3,h4,h5,h6,h7⟩
variable [Tabs]
def m6 (g:aL K mg x st)(S:FnScope N ps (c6 st))(hb:∀{f:Addr} {cdv:Value} {A:Around} {outer:List Env} {s:Shared} {H:Hp} {E:XK},Room k (A.deeper (aEu x (c6 st) s.heap.objs.size f cdv))->(A.deeper (aEu x (c6 st) s.heap.objs.size f cdv)).units+64<cLine->(A.deeper (aEu x (c6 st) s.heap.objs.size f cdv)).units+130<cLine->N.Nodup->
  X8 (UG P w K mg base N x (c6 st) f cdv A outer s H E) (q8 st) F) (hm:∀ds d,ds.length=ps.length->m ds=.ok d->T6 (F (i3 N ds))=.ok d) (xm:∀(kV doc pm:Value) (an:Option Addr) (cdv ct:Value) (us:List Value),us.length=ps.length->bindArgs (PySem.W.fnOf x x (G7 st) (q8 st) (c6 st) .none kV doc pm an cdv ct) ⟨us,[]⟩=pure (ps.zip us):=by
  intro _ _ _ _ _ _ us hl;rcases us with _|⟨_,_|⟨_,_|⟨_,_|⟨_,_|⟨_,_|⟨_,_|⟨_,_⟩⟩⟩⟩⟩⟩⟩<;>first|rfl|exact absurd hl (by simp)):u4 P w K mg base (k+1) x ps.length m:=by
 obtain⟨f,fd,je,F0⟩:=g;exact ZJ F0 S (F0.binds xm) je (λcdv A outer s H E hr=>hb hr hr.units hr.ae4 S.nd) hm
end
end DL
namespace DL
open PySem PySem.Spec L2
open PyProof.Rows hiding St
variable [Tabs]
section
abbrev zV (X:Cx)(e:Expr)(es:List Expr):Prop:=starEach (e::es) X.env=(false,eval e X.env)::starEach es X.env
def A9 {i:Int}{j}:PB X (.Constant (.int i) j pos) (BV (.int i)):=d4.pb
def qU {e1:Expr}{f1:Ev->R D}(c:u4 X.prog X.w X.K X.mg X.base k x 1 m)(hr:Room k' X.A)(a1:PD X e1 f1)(hk:k<=k':=by decide)(s1:zV X e1 []:=by rfl)(hg:Gl X x:=by rfl)(de:(x==("__debug__":Str))=false:=by decide)(bh:(backTo pos (starEach [] X.env)).any (·.1)=false:=by rfl):
 PD X (.Call (.Name x p) [e1] [] pos) (λρ=>((k8 f1 M7) ρ).bind m):=pJ c (hr.mono hk) (c8 a1 j5 s1) (i7 u5) hg de s1 bh
def cH {e1 e2:Expr}{f1 f2:Ev->R D}(c:u4 X.prog X.w X.K X.mg X.base k x 2 m)(hr:Room k' X.A)(a1:PD X e1 f1)(a2:PD X e2 f2)(hk:k<=k':=by decide)(s1:zV X e1 [e2]:=by rfl)(s2:zV X e2 []:=by rfl)(hg:Gl X x:=by rfl)(de:(x==("__debug__":Str))=false:=by decide)(bh:(backTo pos (starEach [e2] X.env)).any (·.1)=false:=by rfl):
 PD X (.Call (.Name x p) [e1,e2] [] pos) (λρ=>((k8 f1 (k8 f2 M7)) ρ).bind m):=pJ c (hr.mono hk) (c8 a1 (c8 a2 j5 s2) s1) (i7<|i7 u5) hg de s1 bh
def pc3 {e1 e2 e3:Expr}{f1 f2 f3:Ev->R D}(c:u4 X.prog X.w X.K X.mg X.base k x 3 m)(hr:Room k' X.A)(a1:PD X e1 f1)(a2:PD X e2 f2)(a3:PD X e3 f3)(hk:k<=k':=by decide)(s1:zV X e1 [e2,e3]:=by rfl)(s2:zV X e2 [e3]:=by rfl)(s3:zV X e3 []:=by rfl)(hg:Gl X x:=by rfl)(de:(x==("__debug__":Str))=false:=by decide)(bh:(backTo pos (starEach [e2,e3] X.env)).any (·.1)=false:=by rfl):
 PD X (.Call (.Name x p) [e1,e2,e3] [] pos) (λρ=>((k8 f1 (k8 f2 (k8 f3 M7))) ρ).bind m):=pJ c (hr.mono hk) (c8 a1 (c8 a2 (c8 a3 j5 s3) s2) s1) (i7<|i7<|i7 u5) hg de s1 bh
def pc4 {e1 e2 e3 e4:Expr}{f1 f2 f3 f4:Ev->R D}(c:u4 X.prog X.w X.K X.mg X.base k x 4 m)(hr:Room k' X.A)(a1:PD X e1 f1)(a2:PD X e2 f2)(a3:PD X e3 f3)(a4:PD X e4 f4)(hk:k<=k':=by decide)(s1:zV X e1 [e2,e3,e4]:=by rfl)(s2:zV X e2 [e3,e4]:=by rfl)(s3:zV X e3 [e4]:=by rfl)(s4:zV X e4 []:=by rfl)(hg:Gl X x:=by rfl)(de:(x==("__debug__":Str))=false:=by decide)(bh:(backTo pos (starEach [e2,e3,e4] X.env)).any (·.1)=false:=by rfl):
 PD X (.Call (.Name x p) [e1,e2,e3,e4] [] pos) (λρ=>((k8 f1 (k8 f2 (k8 f3 (k8 f4 M7)))) ρ).bind m):=pJ c (hr.mono hk) (c8 a1 (c8 a2 (c8 a3 (c8 a4 j5 s4) s3) s2) s1) (i7<|i7<|i7<|i7 u5) hg de s1 bh
def pt2 {e1 e2:Expr}{f1 f2:Ev->R D}{j}(a1:PD X e1 f1)(a2:PD X e2 f2)(s1:zV X e1 [e2]:=by rfl)(s2:zV X e2 []:=by rfl):PD X (.Tuple [e1,e2] j pos) (λρ=>((k8 f1 (k8 f2 M7)) ρ).bind oB):=oJ (c8 a1 (c8 a2 j5 s2) s1)
def JJ {e1 e2 e3:Expr}{f1 f2 f3:Ev->R D}{j}(a1:PD X e1 f1)(a2:PD X e2 f2)(a3:PD X e3 f3)(s1:zV X e1 [e2,e3]:=by rfl)(s2:zV X e2 [e3]:=by rfl)(s3:zV X e3 []:=by rfl):PD X (.Tuple [e1,e2,e3] j pos) (λρ=>((k8 f1 (k8 f2 (k8 f3 M7))) ρ).bind oB):=oJ (c8 a1 (c8 a2 (c8 a3 j5 s3) s2) s1)
def NP {id:String}{g:List D->R D}{e:Expr}{f:Ev->R D}(hc:cG X (.builtin id) g)(a:PB X e f)(hg:Gl X x:=by rfl)(hm:X.mg x=none:=by assumption)(hv:bootBuiltins x=some (.builtin id):=by decide+kernel)(hn:x≠ "__name__":=by decide)(de:(x==("__debug__":Str))=false:=by decide)(s1:zV X e []:=by rfl)(bh:(backTo pos (starEach [] X.env)).any (·.1)=false:=by rfl):
 PD X (.Call (.Name x p) [e] [] pos) (λρ=>(k8 f M7 ρ).bind g):=jA hc (u6 a K0 s1) hg hm hv hn de s1 bh
def RB {fr:List Str}{scope:Scope}{tp:Pos}{elt:Expr}{fe:Ev->R D}(h:∀pins fp s0 H1 C,PD (HS X pins s0 H1 ([x]++fr) scope (eG X scope C) C fp) elt fe)(nd:([x]++fr).Nodup:=by decide+kernel)(hx:Loc (relabel scope X.env) x:=by first|exact aBY rfl|exact aBk rfl)(hf:(scope.names.lookup x==some .cell)=true\/(relabel scope X.env).names.lookup x=some .local:=by first|exact .inl rfl|exact .inr rfl):
  ∀(pins:M5) (fp:List Addr) (X':Cx),(∃se Hb C,X'=HS X pins se Hb ([x]++fr) scope (eG X scope C) C fp)->RG X' (.Name x tp) (λd ρ=>.ok (ρ.set 0 (.v d)))/\WH X' [] (λ_=>.ok true)/\PD X' elt fe:=by
 rintro pins fp X2 ⟨s0,H1,C,rfl⟩;exact⟨F6 0 nd rfl hx hf,RK,h pins fp s0 H1 C⟩
def hxt {fr:List Str}{scope:Scope}{tp:Pos}{elt c:Expr}{fe:Ev->R D}{ft:Ev->R Bool}(h:∀pins fp s0 H1 C,BO (HS X pins s0 H1 ([x]++fr) scope (eG X scope C) C fp) c ft/\PD (HS X pins s0 H1 ([x]++fr) scope (eG X scope C) C fp) elt fe)(nd:([x]++fr).Nodup:=by decide+kernel)(hx:Loc (relabel scope X.env) x:=by first|exact aBY rfl|exact aBk rfl)(hf:(scope.names.lookup x==some .cell)=true\/(relabel scope X.env).names.lookup x=some .local:=by first|exact .inl rfl|exact .inr rfl):
  ∀(pins:M5) (fp:List Addr) (X':Cx),(∃se Hb C,X'=HS X pins se Hb ([x]++fr) scope (eG X scope C) C fp)->RG X' (.Name x tp) (λd ρ=>.ok (ρ.set 0 (.v d)))/\WH X' [c] ft/\PD X' elt fe:=by
 rintro pins fp X2 ⟨s0,H1,C,rfl⟩;exact⟨F6 0 nd rfl hx hf,VF (h pins fp s0 H1 C).1,(h pins fp s0 H1 C).2⟩
end
section
def VG (own fr:List Str)(js:List Nat)(hc:X.calm=true)(S:CompSc X scope own fr js)(hi:XH X tg C8 fi)(hX:∀(pins:M5) (fp:List Addr) (X':Cx),(∃se Hb C,X'=HS X pins se Hb (own++fr) scope (eG X scope C) C fp)->RG X' tg G/\WH X' ifs ft/\PD X' elt fe)(hG:∀ρ d ρ1,G d (j1 own js ρ)=.ok ρ1->AF ρ1 (j1 own js ρ))(hs:∀x,foldedSetIterable C8 X.env x=pure x:=by intro _;rfl):
  PF X (.ListComp elt [⟨tg,C8,ifs,0⟩] scope pos) (λρ=>(fi ρ).bind λds=>if ds.length<=sizeLine then v8 G ft fe (j1 own js ρ) ds else .bad):=by
 refine qO λpins s σ H Q I Ha O0 O ρ E q=>?_;dsimp only at q;rw[eval_ListComp];refine aDC (use:=none) rfl hs (Z4<|Inv.aa9 I S) S.kind S.names ?_;refine D4 (hi pins s σ H (λJ H1=>∃ds rs,Same H H1/\XB X.K J H1 O ds/\ds.length<=sizeLine/\v8 G ft fe (j1 own js ρ) ds=.ok rs/\∀vs H1 a,Same H H1->H1 a=none->Reps X.K H1 O vs rs->Q (.ref a) (upd H1 a<|.lst vs)) I ⟨Ha,O0,O,ρ,E,qX I O E.trk,?_⟩) λv s1 h1=>D4 h1 λitv s2 h2=>?_
 ·cases e1:fi ρ with
  |ex x=>rw[e1]at q;exact q
  |bad=>rw[e1]at q;exact q
  |ok ds=>
   rw[e1,R.aa0]at q;intro J H1 s1 hJ;by_cases hl:ds.length<=sizeLine
   ·rw[if_pos hl]at q;cases e2:v8 G ft fe (j1 own js ρ) ds with
    |ex x=>rw[e2]at q;exact(q H<|Same.refl _).elim
    |bad=>rw[e2]at q;exact q.elim
    |ok rs=>rw[e2]at q;exact⟨ds,rs,s1,hJ,hl,e2,q⟩
   ·rw[if_neg hl]at q;exact q.elim
 ·obtain⟨it,fp,tn,J,H2,e,I2,T,lh,f2,ds,rs,sm,hJ,hl,hrs,q⟩:=h2;subst e;refine oT (RR:=λacc C=>compPost (model X.prog X.w) X.A X.xe none (EP X pins σ Q) acc C) hc S (hX pins fp) (hG ρ) I2 T lh f2 (E.grow sm) hJ hrs hl ?_;intro acc C s' H' m hn _ _ _ sm' r nw _ hI;obtain⟨H1,vs,s1',ha1,eH,rr⟩:=nw;subst eH;exact⟨m,hn,λh' oi=>⟨.ref acc,_,hI h' oi,rfl,q vs H1 acc (sm.trans s1') ha1 rr⟩⟩
def pB {xs es:List Expr}{p:Pos}{env:Env}:starEach (.List xs p::es) env=(false,eval (.List xs p) env)::starEach es env:=rfl
def lsG (ds:List D):R (List D):=if ds.length<=sizeLine then .ok ds else .bad
def RO (h:qH X es f):PF X (.List es pos) (λρ=>(f ρ).bind lsG):=lG h
def ZL (h:ds.length<=1000):lsG ds=.ok ds:=if_pos (aAr h (by decide))
def jD.congr {X:Cx}{sm:Stmt}{F F':Ev->R Out}(h:jD X sm F)(e:∀ρ,F ρ=F' ρ):jD X sm F':=by have:F=F':=funext e;rw[<-this];exact h
def PD.congr {X:Cx}{e:Expr}{f f':Ev->R D}(h:PD X e f)(hf:∀ρ,f ρ=f' ρ):PD X e f':=by have:f=f':=funext hf;rw[<-this];exact h
abbrev cE (a:Int)(p:Pos):Expr:=Expr.Constant (Const.int a) 0 p
abbrev rH (a b c:Int)(p1 p2 p3 q:Pos):Expr:=Expr.List [cE a p1,cE b p2,cE c p3] q
abbrev fK (a b c:Int):D:=D.lst [D.int a,D.int b,D.int c]
def vY {X:Cx}{a b c:Int}{p1 p2 p3 q:Pos}:PD X (rH a b c p1 p2 p3 q) (λ_=>R.ok (fK a b c)):=by have h3:qH X [cE c p3] (k8 (BV<|D.int c) M7):=c8 d4 j5 rfl;have h2:qH X [cE b p2,cE c p3] (k8 (BV<|D.int b)<|k8 (BV<|D.int c) M7):=c8 d4 h3 rfl;have h1:qH X [cE a p1,cE b p2,cE c p3] (k8 (BV<|D.int a)<|k8 (BV<|D.int b)<|k8 (BV<|D.int c) M7):=c8 d4 h2 rfl;refine PD.congr (Z3 h1) λρ=>?_;show qA [D.int a,D.int b,D.int c]=_;exact if_pos (by rw[aEj];simp)
def GG {xs:List Expr}{p:Pos}{t:Option Expr}{l:Nat}{env:Env}:swapsWith (Expr.List xs p) t l env=pure false:=rfl
def NL (i:Nat){x:Str}{eL:Expr}{g:Ev->R (List D)}{vals:List D}{pos' pos:Pos}(h1:PF X eL g)(he:∀ρ,g ρ=R.ok vals)(hN:X.N.Nodup)(h2:swapsWith eL (some (Expr.Name x pos')) pos.line X.env=pure false)(hi:X.N[i]?=some x)(hx:Loc X.env.scope x)(hf:X.fn x=true\/X.env.scope.names.lookup x=some .local):jD X (Stmt.Assign [Expr.Name x pos'] eL pos) (λρ=>R.ok (Out.nx (ρ.set i (Sl.o vals)))):=
 jD.congr (jK i h1 hN hi hx h2 hf) λρ=>by rw[he];rfl
def YY (i:Nat){x:Str}{a1 a2 a3 a4 a5 a6 a7 a8 a9:Int}{p1 p2 p3 p4 p5 p6 p7 p8 p9 q1 q2 q3 q pos' pos:Pos}(hN:X.N.Nodup)(hi:X.N[i]?=some x:=by rfl)(hx:Loc X.env.scope x:=by first|exact aBY rfl|exact aBk rfl)(hf:X.fn x=true\/X.env.scope.names.lookup x=some .local:=by first|exact .inl rfl|exact .inr rfl|assumption):
  jD X (Stmt.Assign [Expr.Name x pos'] (Expr.List [rH a1 a2 a3 p1 p2 p3 q1,rH a4 a5 a6 p4 p5 p6 q2,rH a7 a8 a9 p7 p8 p9 q3] q) pos) (λρ=>R.ok (Out.nx (ρ.set i (Sl.o [fK a1 a2 a3,fK a4 a5 a6,fK a7 a8 a9])))):=by
 have h3:qH X [rH a7 a8 a9 p7 p8 p9 q3] (k8 (λ_=>R.ok (fK a7 a8 a9)) M7):=by with_reducible exact c8 vY j5 pB
 have h2:qH X [rH a4 a5 a6 p4 p5 p6 q2,rH a7 a8 a9 p7 p8 p9 q3] (k8 (λ_=>R.ok (fK a4 a5 a6))<|k8 (λ_=>R.ok (fK a7 a8 a9)) M7):=by with_reducible exact c8 vY h3 pB
 have h1:qH X [rH a1 a2 a3 p1 p2 p3 q1,rH a4 a5 a6 p4 p5 p6 q2,rH a7 a8 a9 p7 p8 p9 q3] (k8 (λ_=>R.ok (fK a1 a2 a3))<|k8 (λ_=>R.ok (fK a4 a5 a6))<|k8 (λ_=>R.ok (fK a7 a8 a9)) M7):=by with_reducible exact c8 vY h2 pB
 have e:∀ρ,((k8 (λ_=>R.ok (fK a1 a2 a3))<|k8 (λ_=>R.ok (fK a4 a5 a6))<|k8 (λ_=>R.ok (fK a7 a8 a9)) M7) ρ).bind lsG=R.ok [fK a1 a2 a3,fK a4 a5 a6,fK a7 a8 a9]:=λρ=>ZL (by simp);have hp:=RO (X:=X) (pos:=q) h1
 with_reducible exact NL i hp e hN GG hi hx hf
def JO:D->Bool
 |.int _=>true
 |_=>false
theorem Reps.ag1 {K:PySem.W.Frag}:∀{vs:List V} {ds:List D},Reps K H O vs ds->ds.all JO=true->Reps K H' O' vs ds
 |_,_,.nil,_=>.nil
 |_,_,.cons (d:=d) h t,e=>by
  rw[aEf,aAC]at e;cases d with
  |int i=>cases h;exact .cons .int (Reps.ag1 t e.2)
  |_=>cases e.1
def DC (i:Nat){x:Str}{e k:Expr}{f:Ev->R (List D)}{g:Ev->R D}{p ps pos:Pos}(he:PF X e f)(hk:PD X k g)(hN:X.N[i]?=some x:=by rfl)(hv:sF X.env.scope x:=by first|exact aBY rfl|exact aBk (aBY rfl)|exact aBk (aBk rfl))(hd:(x==("__debug__":Str))=false:=by decide)(eu:(x==("__classdict__":Str))=false:=by decide)(ha:∀v,assign (.Subscript (.Name x p) k ps) X.env v=(do
   let ov<-holding [v] (eval (.Name x p) X.env)
   let iv<-holding [v,ov] (eval k X.env)
   standAt ps
   holding [v,ov,iv] (setItem ov iv v)
   release [v,ov,iv] []):=by intro _;rfl) (hs:swapsWithSole [.Subscript (.Name x p) k ps] e pos.line X.env=pure false:=by rfl) (hw:swappedStores [.Subscript (.Name x p) k ps] e X.env=pure none:=by rfl) (h1:(assignEach [.Subscript (.Name x p) k ps] X.env).map (·.2)=[assign (.Subscript (.Name x p) k ps) X.env]:=by rfl):
  jD X (.Assign [.Subscript (.Name x p) k ps] e pos) (λρ=>(f (rG i ρ)).bind λds=>if ds.all JO=true then(g ρ).bind λkd=>GM i ρ kd (.lst ds)else .bad):=λHa O0=>
 ED (BI he (AO (M6 hN hv hd eu) hk zO ha) hs hw h1) λD σ H O ρ E fk q=>by
  obtain⟨O',E'⟩:∃O',EnvOk X.K Ha O0 H O' σ (rG i ρ):=by
   unfold rG;cases e:ρ[i]? with
   |none=>exact⟨O,E⟩
   |some sl=>
    cases sl with
    |o xs=>obtain⟨O',E',_⟩:=E.disown e;exact⟨O',E'⟩
    |_=>exact⟨O,E⟩
  refine⟨Ha,O0,O',rG i ρ,E',?_⟩;cases e1:f (rG i ρ)with
  |ex x=>rw[e1]at q;exactλH' s=>q H' (E.same.trans s)
  |bad=>rw[e1]at q;exact q
  |ok ds=>
   rw[e1,R.aa0]at q;intro vs H0 a s0 ha0 r0;by_cases hb:ds.all JO=true
   ·rw[if_pos hb]at q;have s1:Same H (upd H0 a<|.lst vs):=s0.trans (j4 ha0 _);have r1:Rep X.K (upd H0 a<|.lst vs) O (.ref a) (.lst ds):=.lst (O6.of i9) ((E.grow s0).fresh ha0) (r0.ag1 hb);have E1:=E.grow s1;cases e2:g ρ with
    |ok kd=>
     rw[e2,R.aa0]at q;unfold GM at q;cases e3:ρ[i]? with
     |none=>rw[e3]at q;exact aAg q
     |some sl=>
      rw[e3]at q;cases sl with
      |o xs=>
       obtain⟨a',ja,h1,h2,h3,h4,h5⟩:=E1.own i xs e3;refine⟨_,h1,Ha,O0,O,ρ,E1,?_⟩;rw[e2];intro kv H2 s2 r2;have E2:=E1.grow s2;cases kd with
       |int kk=>
        dsimp only at q;cases e4:JI xs.length kk with
        |none=>rw[e4]at q;exact aAg q
        |some j=>rw[e4]at q;cases r2;refine⟨a',ja,kk,j,rfl,rfl,s2 _ _ h4,by rw[h5.length];exact e4,?_⟩;obtain⟨E3,k3⟩:=E2.write e3 h1 ((h5.same s2).set (r1.same s2) j);exact q σ _ O E3 fk (((Kp.of s1).trans (Kp.of s2)).trans k3)
       |_=>exact aAg q
      |_=>exact aAg q
    |ex x=>rw[e2]at q;exact(q H E.same).elim
    |bad=>rw[e2]at q;exact aAg q
   ·rw[if_neg hb]at q;exact q.elim
def oj:List D->Option (List Str)
 |[]=>some []
 |.str x::ds=>(oj ds).map (x::·)
 |_::_=>none
def RY {k:Int}{v:Expr}{f:Ev->R D}{j p1 pos}(hv:PD X v f):PD X (.Dict [some (.Constant (.int k) j p1)] [v] pos) (λρ=>(f ρ).bind λ_=>.ok .dct):=by
 refine qO λpins s σ H Q I Ha O0 O ρ E q=>?_;dsimp only at q;have gn:(s.heap.push {cls:=.type "dict",data:=.dict #[]}).get? s.heap.objs.size=some {cls:=.type "dict",data:=.dict #[]}:=aAn _ rfl;have hn:=I.hok.fresh (aAh s.heap.objs.size);have I1:=I.laid (a:=s.heap.objs.size) (o:=.ext λh=>h.get? s.heap.objs.size=some {cls:=.type "dict",data:=.dict #[]}) (h':=s.heap.push {cls:=.type "dict",data:=.dict #[]}) (t':=s.toks) (λ_ _ q=>aAc _ q) (aAh _)
  ⟨gn,⟨_,gn⟩,λh1 h2 e k=>k _ e⟩
 have s1:=j4 hn (.ext λh=>h.get? s.heap.objs.size=some {cls:=.type "dict",data:=.dict #[]});refine wpAny_Dict_walk (knd:=intKind X.prog X.w) rfl rfl (by simp) (by simp) (pairTrees_cons_walk<|D4 (JX pins _ σ _ (λw H2=>w=V.int k/\H2=upd H s.heap.objs.size (.ext λh=>h.get? s.heap.objs.size=some {cls:=.type "dict",data:=.dict #[]})) I1 ⟨rfl,rfl⟩) λu s2 ⟨x,H2,I2,r2,ex,eH⟩=>?_);subst ex eH;obtain⟨t,rfl⟩:=r2;refine D4 (hv pins s2 σ _ (λw H3=>Same (upd H s.heap.objs.size<|.ext λh=>h.get? s.heap.objs.size=some {cls:=.type "dict",data:=.dict #[]}) H3/\RC X H O (.ok .dct) Q) I2 ⟨Ha,O0,O,ρ,E.grow s1,?_⟩) λu2 s3 ⟨y,H3,I3,r3,sm,q3⟩=>pairTrees_nil_walk ?_
 ·cases e:f ρ with
  |ok d=>rw[e]at q;exactλv H' sm _=>⟨sm,q⟩
  |ex z=>rw[e]at q;exactλH' s=>q H' (s1.trans s)
  |bad=>rw[e]at q;exact q
 ·refine⟨[(k,u2)],⟨by simp[intKind,Value.isInt],rfl,trivial⟩,?_,λh' hD hs=>?_⟩
  ·have g3:=(I3.hok _ _<|sm _ _ i9).1;obtain⟨o,es,ep,a1,a2,a3,a4,a5,a6⟩:=Heap.DictOf.new (knd:=intKind X.prog X.w) s.heap;rw[gn]at a1;cases a1;exact⟨_,es,ep,g3,a2,a3,a4,a5,a6⟩
  ·obtain⟨o',es',ep',g',ex',_⟩:=hD;have I4:=I3.write (x:=s.heap.objs.size) (e:=s.heap.objs.size) (o:=.ext λh=>h.get? s.heap.objs.size=some o') (h':=h') (t':=s3.toks+1) (by rw[sm _ _ i9];trivial) (.inl rfl) (λb u hb e=>(hs.2 b hb).trans e) ⟨o',g'⟩ ⟨g',⟨o',g'⟩,λh1 h2 e k=>k _ e⟩;refine⟨.ref s.heap.objs.size,_,I4,rfl,q3 _ _ (λb o hb=>?_) (.dct i9 ex' (E.fresh hn))⟩;have bc:b≠s.heap.objs.size:=t8 hb hn;rw[j7 bc];exact sm b o (by rw[j7 bc];exact hb)
end
end DL
namespace M
open PySem L2 DL
variable [Tabs]
def cJ {a b:Int}(h:0<b):U8 (.int a) (.int b)=.ok (.int (a.fmod b)):=xA (by lia)
def jF {a b:Int}(h:0<b)(h2:b<1000000000000000):X3 (.int a) (.int b)=.ok (.int (a.fdiv b)):=tL ⟨by lia,B5 (k9 (n:=60) (by lia) (by lia))⟩
def J2 {a b:Int}(h:0<b):0<=a.fmod b/\a.fmod b<b:=by
 have f:=PyProof.Rows.fdiv_fmod_facts a b;have g:=f.2.2.1 h
 lia
def ez (h1:r=.ok (.nx ρ))(h2:T6 (F ρ)=x):T6 (G8 r F)=x:=by rw[h1];exact h2
def jY {J:Ev->Prop}(h1:r=.ok (.nx ρ))(h2:∃ρ2,F ρ=.ok (.nx ρ2)/\J ρ2):∃ρ2,G8 r F=.ok (.nx ρ2)/\J ρ2:=by rw[h1];exact h2
def YF {J:Ev->Prop}(Iv:Ev->Prop)(ht:∀d∈ds,∀ρ,Iv ρ->∃ρ2,iV G F d ρ=.ok (.nx ρ2)/\Iv ρ2)(h0:Iv ρ)(h2:∀au,Iv au->∃ρ2,F2 au=.ok (.nx ρ2)/\J ρ2):∃ρ2,G8 (X5 G F ds ρ) F2=.ok (.nx ρ2)/\J ρ2:=by obtain⟨au,e,h⟩:=kD Iv ht h0;rw[e];exact h2 au h
def i4 (a b c d e f g h i:Int):Int:=a*(e*i-f*h)+b*(f*g-d*i)+c*(d*h-e*g)
def LV:D->Option (List Int)
 |.tup xs=>match xL xs with
  |some ns=>if ns.length=12 then some ns else none
  |none=>none
 |_=>none
def a2l (ns:List Int):Bool:=i4 (ns.getD 0 0) (ns.getD 1 0) (ns.getD 2 0) (ns.getD 3 0) (ns.getD 4 0) (ns.getD 5 0) (ns.getD 6 0) (ns.getD 7 0) (ns.getD 8 0)==1||i4 (ns.getD 0 0) (ns.getD 1 0) (ns.getD 2 0) (ns.getD 3 0) (ns.getD 4 0) (ns.getD 5 0) (ns.getD 6 0) (ns.getD 7 0) (ns.getD 8 0)==-1
def gU (d:D):Bool:=match LV d with
 |some ns=>a2l ns
 |none=>false
def uD (h:LV d=some ns):d=.tup (ns.map D.int)/\ns.length=12:=by
 unfold LV at h;split at h
 ·split at h
  ·rename_i xs ui e;split at h
   ·rename_i hl;cases h;exact⟨by rw[rO e],hl⟩
   ·cases h
  ·cases h
 ·cases h
def YS (a b c d e f g h i p q r:Int):gU (.tup [.int a,.int b,.int c,.int d,.int e,.int f,.int g,.int h,.int i,.int p,.int q,.int r])=(i4 a b c d e f g h i==1||i4 a b c d e f g h i==-1):=rfl
def SA:D->Prop
 |.tup xs=>(∀i,D.int i∈xs->bits i<=100000)/\K6 xs<=30
 |_=>True
theorem uQ {k:Nat}:∀{xs:List D},(∀d∈xs,G9 d<=k)->K6 xs<=k
 |[],_=>by rw[K6];exact aAX _
 |x::xs,h=>by rw[K6];exact Nat.max_le.mpr ⟨h x aAK,uQ λd hd=>h d (aAd _ hd)⟩
def yG (ns:List Int):∀d∈ns.map D.int,G9 d<=0:=λd hd=>by obtain⟨j,_,rfl⟩:=aAp.mp hd;simp[G9]
open Classical in
def sR:List D->R D
 |[d]=>if SA d then .ok (.bl (gU d))else .bad
 |_=>.bad
def OJ (h:SA d):sR [d]=.ok (.bl (gU d)):=if_pos h
def V1:List D->R D:=ny λxs=>jZ (if xs.length=12 then .ok (.lst [.tup (xs.take 3),.tup ((xs.drop 3).take 3),.tup ((xs.drop 6).take 3)])else .bad)
def MK {α β:Type}{r:R α}{f:α->R β}{x:β}(h:r.bind f=.ok x):∃a,r=.ok a/\f a=.ok x:=by
 cases r with
 |ok a=>exact⟨a,rfl,h⟩
 |ex e=>cases h
 |bad=>cases h
def vR (d:D):R G.V:=match wM d with
 |some v=>.ok v
 |none=>.bad
def LU (h:vR d=.ok v):d=vd v:=by
 unfold vR at h;split at h
 ·rename_i e;cases h;exact rN e
 ·cases h
def cj (xs:List D)(f:D->D->D->R D):R D:=match xs with
 |[x,y,z]=>f x y z
 |_=>.bad
def VN {f:D->D->D->R D}(h:cj xs f=.ok r):∃x y z,xs=[x,y,z]/\f x y z=.ok r:=by
 unfold cj at h;split at h
 ·exact⟨_,_,_,rfl,h⟩
 ·cases h
def r3F (k:G.V×G.V×G.V->List D->R D):List D->R D:=FO λxs ds=>cj xs λx y z=>(vR x).bind λa=>(vR y).bind λb=>(vR z).bind λc=>k (a,b,c) ds
def KA {k:G.V×G.V×G.V->List D->R D}(h:r3F k ds=.ok x):∃a b c e,ds=.lst [vd a,vd b,vd c]::e/\k (a,b,c) e=.ok x:=by obtain⟨xs,e,rfl,h⟩:=dR h;obtain⟨x1,x2,x3,rfl,h⟩:=VN h;obtain⟨a,h1,h⟩:=MK h;obtain⟨b,h2,h⟩:=MK h;obtain⟨c,h3,h⟩:=MK h;exact⟨a,b,c,e,by rw[LU h1,LU h2,LU h3],h⟩
open Classical in
def kK:List D->R D:=r3F λr=>jZ (if Sz 100000 r.1/\Sz 100000 r.2.1/\Sz 100000 r.2.2 then .ok (.int (i4 r.1.x r.1.y r.1.z r.2.1.x r.2.1.y r.2.1.z r.2.2.x r.2.2.y r.2.2.z))else .bad)
def OR {xs:List D}(h:xs.all N3=false):gU (.tup xs)=false:=by
 unfold gU;split
 ·rename_i ns e;obtain⟨e,_⟩:=uD e;injection e with e;subst e;rw[List.all_eq_false]at h;obtain⟨x,hx,hw⟩:=h;obtain⟨i,_,rfl⟩:=aAp.mp hx;exact absurd rfl hw
 ·rfl
def a0f {xs:List D}(h:xs.length≠12):gU (.tup xs)=false:=by
 unfold gU;split
 ·rename_i ns e;obtain⟨e,hl⟩:=uD e;injection e with e;subst e;rw[aAm]at h;exact absurd hl h
 ·rfl
def KY {ns:List Int}(h:ns.length=12):ns=[ns.getD 0 0,ns.getD 1 0,ns.getD 2 0,ns.getD 3 0,ns.getD 4 0,ns.getD 5 0,ns.getD 6 0,ns.getD 7 0,ns.getD 8 0,ns.getD 9 0,ns.getD 10 0,ns.getD 11 0]:=by
 have e:ns=(aBL ns.length).map λi=>ns.getD i 0:=List.ext_getElem (by simp) λi h _=>by simp[aAi h]
 rw[h]at e;exact e
def SS {xs:List D}(h:xs.length=12)(hw:xs.all N3=true):∃a b c d e f g h i p q r:Int,xs=[.int a,.int b,.int c,.int d,.int e,.int f,.int g,.int h,.int i,.int p,.int q,.int r]:=by
 have go:∀xs:List D,xs.all N3=true->∃ns:List Int,xs=ns.map D.int:=λxs=>by
  induction xs with
  |nil=>exactλ_=>⟨[],rfl⟩
  |cons x xs ih=>
   intro hx;rw[aEf,aAC]at hx;obtain⟨ns,rfl⟩:=ih hx.2;cases x with
   |int i=>exact⟨i::ns,rfl⟩
   |_=>cases hx.1
 obtain⟨ns,rfl⟩:=go xs hw;rw[aAm]at h;exact⟨_,_,_,_,_,_,_,_,_,_,_,_,congrArg (aCY D.int) (KY h)⟩
abbrev R3:=G.V×G.V×G.V
def vl (v:G.V):D:=.lst [.int v.x,.int v.y,.int v.z]
def O7 (r:R3):List D:=[vl r.1,vl r.2.1,vl r.2.2]
def bP (r:R3)(i:Int):G.V:=if i=0 then r.1 else if i=1 then r.2.1 else r.2.2
def pQ (r:R3)(i:Int)(v:G.V):R3:=if i=0 then(v,r.2.1,r.2.2)else if i=1 then(r.1,v,r.2.2)else(r.1,r.2.1,v)
def NK (c:Int):Int:=if(c.fdiv 210).fmod 8=5 then((c.fdiv 6).fmod 7-3)*1000000007 else(c.fdiv 6).fmod 7-3
def jx (c:Int):Int:=(c.fmod 3+1+(c.fdiv 3).fmod 2).fmod 3
def Q7 (r:R3)(c:Int):R3:=
 if(c.fdiv 42).fmod 5<3 then pQ r (jx c) ⟨(bP r<|jx c).x+NK c*(bP r<|c.fmod 3).x,(bP r<|jx c).y+NK c*(bP r<|c.fmod 3).y,(bP r<|jx c).z+NK c*(bP r<|c.fmod 3).z⟩
 else if(c.fdiv 42).fmod 5=3 then pQ (pQ r (c.fmod 3)<|bP r<|jx c) (jx c) (bP r<|c.fmod 3)
 else pQ r (c.fmod 3) ⟨-(bP r<|c.fmod 3).x,-(bP r<|c.fmod 3).y,-(bP r<|c.fmod 3).z⟩
def IX:R3:=(⟨1,0,0⟩,⟨0,1,0⟩,⟨0,0,1⟩)
def AX:D->Int
 |.int i=>i
 |_=>0
def Y1 (xs:List D):R3:=(xs.map AX).foldl Q7 IX
def rJ (n:Nat)(r:R3):Prop:=Sz n r.1/\Sz n r.2.1/\Sz n r.2.2
def rJ.get (h:rJ n r)(i:Int):Sz n (bP r i):=by
 unfold bP;split
 ·exact h.1
 ·split
  ·exact h.2.1
  ·exact h.2.2
def rJ.set (h:rJ n r)(i:Int)(hv:Sz n v):rJ n (pQ r i v):=by
 unfold pQ;split
 ·exact⟨hv,h.2.1,h.2.2⟩
 ·split
  ·exact⟨h.1,hv,h.2.2⟩
  ·exact⟨h.1,h.2.1,hv⟩
def rJ.mono (h:rJ m r)(hm:m<=n):rJ n r:=⟨h.1.mono hm,h.2.1.mono hm,h.2.2.mono hm⟩
def yR (c:Int):bits (NK c)<=38:=by
 have h:=J2 (a:=c.fdiv 6) (b:=7) (by decide);unfold NK;split
 ·exact k9 (by lia) (by lia)
 ·exact k9 (by lia) (by lia)
def xQ (h:rJ n r)(c:Int):rJ (n+40) (Q7 r c):=by
 have ht:=yR c;have ad:∀{x y:Int},bits x<=n->bits y<=n->bits (x+NK c*y)<=n+40:=λh1 h2=>A8 (bits_add (A8 h1<|aFt n 38)<|bits_mul ht h2) (by lia);have hi:=h.get (c.fmod 3);have hj:=h.get (jx c);unfold Q7;split
 ·exact(h.mono<|aCq n 40).set _ ⟨ad hj.1 hi.1,ad hj.2.1 hi.2.1,ad hj.2.2 hi.2.2⟩
 ·split
  ·exact((h.set _ hj).set _ hi).mono (aCq n 40)
  ·exact(h.set _ ⟨bits_neg hi.1,bits_neg hi.2.1,bits_neg hi.2.2⟩).mono (aCq n 40)
theorem DW:∀(cs:List Int) {n:Nat} {r:R3},rJ n r->rJ (n+40*cs.length) (cs.foldl Q7 r)
 |[],n,r,h=>h
 |c::cs,n,r,h=>(DW cs (xQ h c)).mono (by rw[aAv];lia)
def yA (xs:List D)(h:xs.length<=5):rJ 300 (Y1 xs):=(DW (xs.map AX) (n:=1) (r:=IX) ⟨⟨by decide,by decide,by decide⟩,⟨by decide,by decide,by decide⟩,by decide,by decide,by decide⟩).mono (by rw[aAm];lia)
def rj (v:G.V):O5 (vl v) (.int 0)=.ok (.int v.x):=rfl
def tx (v:G.V):O5 (vl v) (.int 1)=.ok (.int v.y):=rfl
def iw (v:G.V):O5 (vl v) (.int 2)=.ok (.int v.z):=rfl
def DT (v:G.V):jE (vl v)=.ok [.int v.x,.int v.y,.int v.z]:=rfl
def XA (a:Sl)(xs:List D)(r:Ev):rG 1 (a::.o xs::r)=a::.v (.lst xs)::r:=rfl
def QE (r:R3){i:Int}(h0:0<=i)(h1:i<3)(v:G.V)(a:Sl)(ρ:Ev):GM 1 (a::.o (O7 r)::ρ) (.int i) (vl v)=.ok (.nx (a::.o (O7 (pQ r i v))::ρ)):=by rcases(show i=0\/i=1\/i=2 by lia)with rfl|rfl|rfl<;>rfl
def XC (r:R3){i:Int}(h0:0<=i)(h1:i<3)(x y z:Int)(a:Sl)(ρ:Ev):GM 1 (a::.o (O7 r)::ρ) (.int i) (.lst [.int x,.int y,.int z])=.ok (.nx (a::.o (O7 (pQ r i ⟨x,y,z⟩))::ρ)):=QE r h0 h1 ⟨x,y,z⟩ a ρ
def DK {xs:List D}{i:Int}(h0:0<=i)(h:i<xs.length):qQ (.tup xs) none (some i)=.ok (.tup (xs.take i.toNat)):=by
 obtain⟨n,rfl⟩:=aDa h0;have hn:n<xs.length:=by lia
 show(if HT.sIx xs.length 0 none=0/\HT.sIx xs.length xs.length (some (n:Int))=xs.length then R.bad else R.ok (D.tup<|cutD xs none<|some (n:Int)))=_;unfold cutD;rw[HT.sIx_nat,HT.sIx_none,aDJ (by lia),if_neg (by lia)];simp
def tN {xs:List D}{i:Int}(h0:0<i)(h:i<=xs.length):qQ (.tup xs) (some i) none=.ok (.tup (xs.drop i.toNat)):=by
 obtain⟨n,rfl⟩:=aDa (aAZ h0);have hn:n<=xs.length:=by lia
 show(if HT.sIx xs.length 0 (some (n:Int))=0/\HT.sIx xs.length xs.length none=xs.length then R.bad else R.ok (D.tup<|cutD xs (some (n:Int)) none))=_;unfold cutD;rw[HT.sIx_nat,HT.sIx_none,aDJ hn,if_neg (by lia),aFn (by simp)];simp
def iZ {xs:List D}{i j:Int}(h0:0<=i)(ma:i<=j)(h:j<=xs.length)(hn:0<i\/j<xs.length):qQ (.tup xs) (some i) (some j)=.ok (.tup ((xs.drop i.toNat).take (j.toNat-i.toNat))):=by obtain⟨n,rfl⟩:=aDa h0;obtain⟨m,rfl⟩:=aDa (Int.le_trans h0 ma);show(if HT.sIx xs.length 0 (some (n:Int))=0/\HT.sIx xs.length xs.length (some (m:Int))=xs.length then R.bad else R.ok (D.tup<|cutD xs (some (n:Int))<|some (m:Int)))=_;unfold cutD;rw[HT.sIx_nat,HT.sIx_nat,aDJ (by lia),aDJ (by lia),if_neg (by lia)];simp
def MI {xs ys:List D}(h:xs.length+ys.length<=1000):aQ (.tup xs) (.tup ys)=.ok (.tup (xs++ys)):=by
 have hs:(1000:Nat)<=sizeLine:=by decide
 cases xs with
 |nil=>rfl
 |cons x xs=>
  cases ys with
  |nil=>show(if(x::xs).length<=sizeLine then _ else _)=_;rw[if_pos (by simp at h⊢;lia),aBu]
  |cons y ys=>show(if(x::xs).length+(y::ys).length<=sizeLine then _ else _)=_;rw[if_pos (by lia)]
def YD (as bs:List Int)(h:as.length+bs.length<=1000):aQ (.tup (as.map D.int)) (.tup (bs.map D.int))=.ok (.tup ((as++bs).map D.int)):=by rw[MI (by simpa using h),aBU]
def nk (g:Int->D){fe:Ev->R D}{i:Nat}{ρ:Ev}{ms:List Int}(h:∀m∈ms,fe (ρ.set i (.v (.int m)))=.ok (g m)):v8 (λd ρ=>.ok (ρ.set i (Sl.v d))) (λ_=>.ok true) fe ρ (ms.map D.int)=.ok (ms.map g):=by
 induction ms with
 |nil=>rfl
 |cons m ms ih=>rw[aAu,DG,h m aAK,ih λk hk=>h k (aAd _ hk)];rfl
def YJ {xs:List D}{i:Int}(h0:0<=i)(h:i<xs.length):O5 (.lst xs) (.int i)=.ok (xs.getD i.toNat .non):=jP (by rw[dS h0,aAo,aAi (show i.toNat<xs.length by lia)];rfl)
def a4q (x0 x1 x2 x3 x4 x5 x6 x7 x8 x9 x10 x11:D):qQ (.tup [x0,x1,x2,x3,x4,x5,x6,x7,x8,x9,x10,x11]) none (some 9)=.ok (.tup [x0,x1,x2,x3,x4,x5,x6,x7,x8]):=rfl
def IK (l:List Bool):S5 (l.map D.bl)=some l:=by
 induction l with
 |nil=>rfl
 |cons b l ih=>rw[aAu,S5,ih];rfl
def gq (l:List Bool):OU [.lst (l.map D.bl)]=.ok (.bl (l.all id)):=by simp only[OU,IK]
def three {i:Int}(h0:0<=i)(h1:i<3):i=0\/i=1\/i=2:=by lia
def FA (r:R3){i:Int}(h0:0<=i)(h1:i<3):O5 (.lst (O7 r)) (.int i)=.ok (vl (bP r i)):=by rcases three h0 h1 with rfl|rfl|rfl<;>rfl
open Classical in
def uC:List D->R D:=FO λxs=>jZ (if Z9 2000000 xs/\xs.length<=5 then .ok (.lst (O7<|Y1 xs))else .bad)
def WD (r:R3)(f:Int):List Int:=[r.1.x,r.1.y,r.1.z,r.2.1.x,r.2.1.y,r.2.1.z,r.2.2.x,r.2.2.y,r.2.2.z,f.fmod 41-20,(f.fdiv 41).fmod 2001-1000,(f.fdiv 7).fmod 1000000000000-1000000]
open Classical in
def vU:List D->R D:=FO λxs=>itD λf=>jZ (if Z9 2000000 xs/\xs.length<=5/\bits f<=2000000 then .ok (.tup ((WD (Y1 xs) f).map D.int))else .bad)
def xy (n:Nat)(ns:List Int):Prop:=ns.length=12/\∀i∈ns,bits i<=n
def qw (xs:List D)(h:xs.length<=5)(f:Int):xy 300 (WD (Y1 xs) f):=by obtain⟨⟨a,b,c⟩,⟨d,e,g⟩,i,j,k⟩:=yA xs h;have h1:=J2 (a:=f) (b:=41) (by decide);have h2:=J2 (a:=f.fdiv 41) (b:=2001) (by decide);have h3:=J2 (a:=f.fdiv 7) (b:=1000000000000) (by decide);have k1:bits (f.fmod 41-20)<=300:=B5 (k9 (n:=50) (by lia) (by lia));have k2:bits ((f.fdiv 41).fmod 2001-1000)<=300:=B5 (k9 (n:=50) (by lia) (by lia));have k3:bits ((f.fdiv 7).fmod 1000000000000-1000000)<=300:=B5 (k9 (n:=50) (by lia) (by lia));refine⟨rfl,λx hx=>?_⟩;simp only[WD,aAe,aAw,or_false]at hx;rcases hx with rfl|rfl|rfl|rfl|rfl|rfl|rfl|rfl|rfl|rfl|rfl|rfl<;>assumption
def zD (ns:List Int):(ns.map D.int).map AX=ns:=by rw[aBx];exact List.map_id ns
def trD:Int->D:=λi=>if i=1\/i=0 then .bl (i==1)else .int i
def a2h (ns:List Int):List D:=[.lst (ns.map D.int),.tup ((ns.take 11).map D.int),.tup ((ns++[0]).map D.int),.tup (ns.map trD),.str (Txt.join ","<|ns.map λi=>aCW (toString i)),.dct,.non,.int 1,.tup [],.tup [.tup (ns.map D.int)],.tup ((ns.take 9).map D.int),.tup (ns.map λi=>.tup [.int i]),.bl true]
end M
namespace M
open PySem L2 DL
variable [Tabs]
def kB (r:R3):Int:=i4 r.1.x r.1.y r.1.z r.2.1.x r.2.1.y r.2.1.z r.2.2.x r.2.2.y r.2.2.z
def ZB (c:Int):(c.fmod 3=0\/c.fmod 3=1\/c.fmod 3=2)/\(jx c=0\/jx c=1\/jx c=2)/\jx c≠c.fmod 3:=by have h1:=J2 (a:=c) (b:=3) (by decide);have h2:=J2 (a:=c.fdiv 3) (b:=2) (by decide);have h3:0<=jx c/\jx c<3:=J2 (by decide);refine⟨by omega,by omega,?_⟩;unfold jx;rw[aEB _ (by decide)];omega
def GN (r:R3)(c:Int):kB (Q7 r c)=kB r\/kB (Q7 r c)=-kB r:=by
 obtain⟨⟨a,b,d⟩,⟨e,f,g⟩,⟨h,k,l⟩⟩:=r;obtain⟨hi,hj,hn⟩:=ZB c;unfold Q7;generalize jx c=j at*
 generalize c.fmod 3=i at*
 generalize NK c=t at*
 split
 ·left;rcases hi with rfl|rfl|rfl<;>rcases hj with rfl|rfl|rfl<;>first|exact absurd rfl hn|(simp[kB,i4,pQ,bP];grind)
 ·right;split
  ·rcases hi with rfl|rfl|rfl<;>rcases hj with rfl|rfl|rfl<;>first|exact absurd rfl hn|(simp[kB,i4,pQ,bP];grind)
  ·rcases hi with rfl|rfl|rfl<;>(simp[kB,i4,pQ,bP];grind)
theorem wX:∀(cs:List Int) (r:R3),(kB r=1\/kB r=-1)->(kB (cs.foldl Q7 r)=1\/kB (cs.foldl Q7 r)=-1)
 |[],r,h=>h
 |c::cs,r,h=>wX cs (Q7 r c) (by rcases GN r c with e|e<;>rw[e]<;>omega)
def II (xs:List D):kB (Y1 xs)=1\/kB (Y1 xs)=-1:=wX _ _ (.inl (by decide))
end M
namespace SZ
open PySem
abbrev WK (h:Heap)(T:Addr)(a b c:Value):Prop:=h.get? T=some {cls:=.type "tuple",data:=.seq #[a,b,c]}
section
def St3 (n t1 t2 t3:Nat)(xs ys zs:Array Value)(k:Nat)(h:Heap):Prop:=
 (∃f0 f1,Zs h (n+5) (n+3) (n+4) f0 f1/\sJ f0)/\WK h (n+3) (.ref n) (.ref (n+1)) (.ref (n+2))/\(∃a b c,WK h (n+4) a b c)/\h.IsTupleIter n t1 k/\h.IsTupleIter (n+1) t2 k/\h.IsTupleIter (n+2) t3 k/\h.IsTuple t1 xs/\h.IsTuple t2 ys/\h.IsTuple t3 zs
abbrev ti (t:Addr):Obj:={cls:=.type "tuple_iterator",data:=.fields #[.ref t,.int 0 0]}
end
end SZ
namespace SZ
open PySem
end SZ
namespace DL
open PySem PySem.Spec L2
open PyProof.Rows hiding St
variable [Tabs]
end DL
namespace DL
open PySem PySem.Spec L2
open PyProof.Rows hiding St
section
variable [Tabs]
end
end DL
namespace DL
open PySem PySem.Spec L2
open PyProof.Rows hiding St st
variable [Tabs]
section
def pk (r:R Out)(F:Ev->R (List D)):R (List D):=match r with
 |.ok (.nx ρ)=>F ρ
 |_=>.bad
@[simp]def mq (ρ:Ev)(F:Ev->R (List D)):pk (.ok (.nx ρ)) F=F ρ:=rfl
def a2w (r:R (List D)):R D:=r.bind λrs=>.ok (.lst rs)
@[simp]def a0r (ds:List D):a2w (.ok ds)=.ok (.lst ds):=rfl
def unl (r:R D):R (List D):=match r with
 |.ok (.lst rs)=>.ok rs
 |.ex x=>.ex x
 |_=>.bad
@[simp]def a1r (ds:List D):unl (.ok (.lst ds))=.ok ds:=rfl
end
end DL
namespace G
abbrev T3:=V×V×V
def mL (r:T3)(v:V):V:=⟨f8 r.1 v,f8 r.2.1 v,f8 r.2.2 v⟩
def tr (r:T3):T3:=(⟨r.1.x,r.2.1.x,r.2.2.x⟩,⟨r.1.y,r.2.1.y,r.2.2.y⟩,⟨r.1.z,r.2.1.z,r.2.2.z⟩)
def crs (r:T3):T3:=(cr r.2.1 r.2.2,cr r.2.2 r.1,cr r.1 r.2.1)
def WF (k:Int)(v:V):V:=⟨v.x*k,v.y*k,v.z*k⟩
def VA (f:V->V)(r:T3):T3:=(f r.1,f r.2.1,f r.2.2)
def dZ (r:T3):Int:=f8 r.1 (cr r.2.1 r.2.2)
def IX:T3:=(⟨1,0,0⟩,⟨0,1,0⟩,⟨0,0,1⟩)
def HC (r:T3):T3:=tr (VA (WF<|dZ r)<|crs r)
def a4b (r:T3):tr (tr r)=r:=rfl
def UN (r c:T3):dZ (VA (mL r) c)=dZ r*dZ c:=by obtain⟨⟨a,b,c1⟩,⟨d,e,f⟩,⟨g,h,i⟩⟩:=r;obtain⟨⟨j,k,l⟩,⟨m,n,o⟩,⟨p,q,s⟩⟩:=c;simp[dZ,VA,mL,f8];grind
def VH (r:T3)(v:V):mL (HC r) (mL r v)=WF (dZ r*dZ r) v:=by obtain⟨⟨a,b,c⟩,⟨d,e,f⟩,⟨g,h,i⟩⟩:=r;obtain⟨x,y,z⟩:=v;simp[HC,dZ,crs,VA,WF,tr,mL,f8];refine⟨?_,?_,?_⟩<;>grind
def SN (v:V):WF 1 v=v:=by simp[WF]
def cq (h:dZ r=1\/dZ r=-1):dZ r*dZ r=1:=by rcases h with h|h<;>rw[h]<;>rfl
def SY (r:T3)(u v:V):mL r (u-v)=mL r u-mL r v:=by apply ext<;>simp[mL,f8]<;>grind
def VB (r:T3)(u v:V):mL r (u+v)=mL r u+mL r v:=by apply ext<;>simp[mL,f8]<;>grind
abbrev Mv:=T3×V
def o8 (m:Mv)(P:V):V:=mL m.1 P+m.2
def a3f (m:Mv):Mv:=(HC m.1,WF (-1) (mL (HC m.1) m.2))
def VY:Mv:=(IX,0)
def MZ (r:T3):Prop:=dZ r=1\/dZ r=-1
def oR (m:Mv)(P Q:V):o8 m P-o8 m Q=mL m.1 (P-Q):=by rw[SY];apply ext<;>simp[o8]<;>lia
def ON (m:Mv)(A B C D:V):i4 (o8 m B-o8 m A) (o8 m C-o8 m A) (o8 m D-o8 m A)=dZ m.1*i4 (B-A) (C-A) (D-A):=by rw[oR,oR,oR];exact UN m.1 (B-A,C-A,D-A)
def wR (h:MZ m.1)(P:V):o8 (a3f m) (o8 m P)=P:=by show mL (HC m.1) (mL m.1 P+m.2)+WF (-1) (mL (HC m.1) m.2)=P;rw[VB,VH,cq h,SN];apply ext<;>simp[WF]<;>lia
def JV (h:MZ m.1)(e:o8 m P=o8 m Q):P=Q:=by rw[<-wR h P,e,wR h]
end G
namespace M
open PySem L2 DL
variable [Tabs]
def XJ (r:G.T3):D:=.lst [vd r.1,vd r.2.1,vd r.2.2]
def qL (m:G.Mv):D:=.tup [.int m.1.1.x,.int m.1.1.y,.int m.1.1.z,.int m.1.2.1.x,.int m.1.2.1.y,.int m.1.2.1.z,.int m.1.2.2.x,.int m.1.2.2.y,.int m.1.2.2.z,.int m.2.x,.int m.2.y,.int m.2.z]
def jq (d:D):Option G.Mv:=(LV d).map λns=>((⟨ns.getD 0 0,ns.getD 1 0,ns.getD 2 0⟩,⟨ns.getD 3 0,ns.getD 4 0,ns.getD 5 0⟩,⟨ns.getD 6 0,ns.getD 7 0,ns.getD 8 0⟩),⟨ns.getD 9 0,ns.getD 10 0,ns.getD 11 0⟩)
def IR (h:jq d=some m):d=qL m:=by obtain⟨ns,h1,rfl⟩:=aCB.mp h;obtain⟨rfl,hl⟩:=uD h1;exact congrArg (λl=>D.tup (l.map D.int)) (KY hl)
def XM {k:G.T3->List D->R D}(h:r3F k ds=.ok x):∃r e,ds=XJ r::e/\k r e=.ok x:=by obtain⟨a,b,c,e,h1,h2⟩:=KA h;exact⟨(a,b,c),e,h1,h2⟩
def qj (k:G.Mv->List D->R D):List D->R D
 |d::ds=>match jq d with
  |some m=>k m ds
  |none=>.bad
 |[]=>.bad
def CL (h:qj k ds=.ok x):∃m e,ds=qL m::e/\k m e=.ok x:=by
 unfold qj at h;split at h
 ·split at h
  ·rename_i d ds m hm;exact⟨m,_,by rw[IR hm],h⟩
  ·cases h
 ·cases h
def TR (n:Nat)(m:G.Mv):Prop:=rJ n m.1/\Sz n m.2
def TR.mono (h:TR n m)(hn:n<=k):TR k m:=⟨h.1.mono hn,h.2.mono hn⟩
def Gd (n:Nat)(m:G.Mv):Prop:=TR n m/\G.MZ m.1
def Gd.mono (h:Gd n m)(hn:n<=k):Gd k m:=⟨h.1.mono hn,h.2⟩
def AB (h:Sz m u)(h':Sz n v):bits (G.f8 u v)<=m+n+2:=by have a1:=bits_mul h.1 h'.1;have a2:=bits_mul h.2.1 h'.2.1;have a3:=bits_mul h.2.2 h'.2.2;exact A8 (bits_add (bits_add a1 a2) (A8 a3 (by lia))) (by lia)
def cx (h:rJ m r)(h':Sz n v):Sz (m+n+2) (G.mL r v):=⟨AB h.1 h',AB h.2.1 h',AB h.2.2 h'⟩
def UR (h:TR m k)(h':Sz n v):Sz (m+n+3) (G.o8 k v):=(cx h.1 h').add (h.2.mono (by lia))
def a4l (a b c d e f:D):aQ (.tup [a,b,c]) (.tup [d,e,f])=.ok (.tup [a,b,c,d,e,f]):=rfl
def a3q (a b c d e f g h i:D):aQ (.tup [a,b,c,d,e,f]) (.tup [g,h,i])=.ok (.tup [a,b,c,d,e,f,g,h,i]):=rfl
def a1f (a b c d e f g h i p q r:D):aQ (.tup [a,b,c,d,e,f,g,h,i]) (.tup [p,q,r])=.ok (.tup [a,b,c,d,e,f,g,h,i,p,q,r]):=rfl
def a3x (a b c:D):aQ (.lst []) (.lst [a,b,c])=.ok (.lst [a,b,c]):=rfl
def a4f (a b c d e f:D):aQ (.lst [a,b,c]) (.lst [d,e,f])=.ok (.lst [a,b,c,d,e,f]):=rfl
def a4r (a b c d e f g h i:D):aQ (.lst [a,b,c,d,e,f]) (.lst [g,h,i])=.ok (.lst [a,b,c,d,e,f,g,h,i]):=rfl
def rg3:gH [.int 3]=.ok [.int 0,.int 1,.int 2]:=rfl
def a2r (m:G.Mv):qQ (qL m) (some 9) none=.ok (vd m.2):=rfl
def a2b (r:G.T3):O5 (XJ r) (.int 0)=.ok (vd r.1):=rfl
def a1c (r:G.T3):O5 (XJ r) (.int 1)=.ok (vd r.2.1):=rfl
def a2n (r:G.T3):O5 (XJ r) (.int 2)=.ok (vd r.2.2):=rfl
def N2:List D->R D:=v1 λa b c=>v1 λd e f=>jZ (.ok (vd ⟨a+d,b+e,c+f⟩))
open Classical in
def vL:List D->R D:=r3F λr=>v1 λa b c=>jZ (if rJ 1000000 r/\Sz 1000000 ⟨a,b,c⟩then .ok (vd<|G.mL r ⟨a,b,c⟩)else .bad)
def PQ (h:rJ 1000000 r)(h':Sz 1000000 v):vL [XJ r,vd v]=.ok (vd (G.mL r v)):=if_pos ⟨h,h'⟩
def RM (m:G.Mv):V1 [qL m]=.ok (XJ m.1):=rfl
open Classical in
def R8:List D->R D
 |[d]=>if SA d/\gU d=true then .ok .non else .bad
 |_=>.bad
def LS (h:TR 100000 m):SA (qL m):=⟨λi hi=>by simp only[aAe,aAw,or_false,D.int.injEq]at hi;obtain⟨⟨⟨a,b,c⟩,⟨d,e,f⟩,g,p,q⟩,r,s,t⟩:=h;rcases hi with rfl|rfl|rfl|rfl|rfl|rfl|rfl|rfl|rfl|rfl|rfl|rfl<;>assumption,by simp[K6,G9]⟩
def ZX (m:G.Mv):gU (qL m)=(G.dZ m.1==1||G.dZ m.1==-1):=rfl
def NX (h:Gd n m):gU (qL m)=true:=by rw[ZX];rcases h.2 with e|e<;>rw[e]<;>rfl
def sV (h:Gd 100000 m):R8 [qL m]=.ok .non:=if_pos ⟨LS h.1,NX h⟩
open Classical in
def K7:List D->R D:=v1 λa b c=>qj λm=>jZ (if TR 200000 m/\Sz 200000 ⟨a,b,c⟩then .ok (vd<|G.o8 m ⟨a,b,c⟩)else .bad)
def tV (h:TR 200000 m)(h':Sz 200000 v):K7 [vd v,qL m]=.ok (vd (G.o8 m v)):=if_pos ⟨h,h'⟩
open Classical in
def mZ:List D->R D:=v1 λa b c=>qj λm=>jZ (if Gd 100000 m/\Sz 100000 ⟨a,b,c⟩then .ok (vd<|G.o8 m ⟨a,b,c⟩)else .bad)
def QM (h:Gd 100000 m)(h':Sz 100000 v):mZ [vd v,qL m]=.ok (vd (G.o8 m v)):=if_pos ⟨h,h'⟩
def MB (m:G.Mv)(pts:List G.V):Prop:=Gd 100000 m/\cS 100000 pts/\cS 900 (pts.map<|G.o8 m)/\G.A5 (pts.map<|G.o8 m)/\(n4<|pts.map<|G.o8 m).length<=14
open Classical in
def N1:List D->R D:=FO λxs=>qj λm=>jZ (match J0 xs with
 |some pts=>if MB m pts then .ok (.lst ((iS<|pts.map<|G.o8 m).map vd))else .bad
 |none=>.bad)
def GE (h:MB m pts):N1 [.lst (pts.map vd),qL m]=.ok (.lst ((iS (pts.map (G.o8 m))).map vd)):=by show(match J0 (pts.map vd)with|some pts=>_|none=>_)=_;rw[u9];exact if_pos h
end M
namespace M
open PySem L2 DL
variable [Tabs]
def uN (c:Int):Int:=if c.fmod 11=0 then 2+(c.fdiv 33).fmod 1000 else if c.fmod 11=1 then-2-(c.fdiv 33).fmod 1000 else 0
def fU (ns:List Int):List D:=[.tup ((ns++[0]).map D.int),.tup ((ns.take 11).map D.int),.lst (ns.map D.int),.tup ([.bl true,.int 0,.int 0,.int 0,.int 1,.int 0,.int 0,.int 0,.int 1]++(ns.drop 9).map D.int),.str "1,0,0,0,1,0,0,0,1,0,0,0",.non,.dct,.int 12]
def jQ (ns:List Int)(c:Int):D:=
 let r:=(3*(c.fdiv 11).fmod 3).toNat
 if c.fmod 11<3 then .tup ((ns.take r++((ns.drop r).take 3).map (· *uN c)++ns.drop (r+3)).map D.int)
 else(fU ns).getD (c.fmod 11-3).toNat .non
def qC (c:Int)(h:c.fmod 11<3):uN c≠1/\uN c≠-1/\bits (uN c)<=20:=by
 have h1:=J2 (a:=c) (b:=11) (by decide);have h2:=J2 (a:=c.fdiv 33) (b:=1000) (by decide);unfold uN;split
 ·exact⟨by lia,by lia,k9 (by lia) (by lia)⟩
 ·split
  ·exact⟨by lia,by lia,k9 (by lia) (by lia)⟩
  ·exact⟨by lia,by lia,by decide⟩
def TY {t d:Int}(h1:t≠1)(h2:t≠-1)(hd:d=1\/d=-1):¬(t*d=1)/\¬(t*d=-1):=by rcases hd with rfl|rfl<;>lia
def KN {a b c d e f g h i p q r:Int}(hd:i4 a b c d e f g h i=1\/i4 a b c d e f g h i=-1)(k:Int):gU (jQ [a,b,c,d,e,f,g,h,i,p,q,r] k)=false:=by
 unfold jQ;dsimp only;have h1:=J2 (a:=k) (b:=11) (by decide);have h2:=J2 (a:=k.fdiv 11) (b:=3) (by decide);by_cases hw:k.fmod 11<3
 ·rw[if_pos hw];obtain⟨t1,t2,_⟩:=qC k hw;generalize uN k=t at*
  obtain⟨f1,f2⟩:=TY t1 t2 hd;rcases(show(k.fdiv 11).fmod 3=0\/(k.fdiv 11).fmod 3=1\/(k.fdiv 11).fmod 3=2 by lia)with z|z|z<;>rw[z]
  ·have e1:i4 (a*t) (b*t) (c*t) d e f g h i=t*i4 a b c d e f g h i:=by unfold i4;grind
   show(i4 (a*t) (b*t) (c*t) d e f g h i==1||i4 (a*t) (b*t) (c*t) d e f g h i==-1)=false;rw[e1];simp[f1,f2]
  ·have e1:i4 a b c (d*t) (e*t) (f*t) g h i=t*i4 a b c d e f g h i:=by unfold i4;grind
   show(i4 a b c (d*t) (e*t) (f*t) g h i==1||i4 a b c (d*t) (e*t) (f*t) g h i==-1)=false;rw[e1];simp[f1,f2]
  ·have e1:i4 a b c d e f (g*t) (h*t) (i*t)=t*i4 a b c d e f g h i:=by unfold i4;grind
   show(i4 a b c d e f (g*t) (h*t) (i*t)==1||i4 a b c d e f (g*t) (h*t) (i*t)==-1)=false;rw[e1];simp[f1,f2]
 ·rw[if_neg hw];have:∀x∈fU [a,b,c,d,e,f,g,h,i,p,q,r],gU x=false:=λx hx=>by simp only[fU,aAe,aAw,or_false]at hx;rcases hx with rfl|rfl|rfl|rfl|rfl|rfl|rfl|rfl<;>rfl
  rw[aAo];cases e:(fU [a,b,c,d,e,f,g,h,i,p,q,r])[(k.fmod 11-3).toNat]? with
  |none=>rfl
  |some x=>exact this x (aAs e)
end M
namespace DL
open PySem PySem.Spec L2
open PyProof.Rows hiding St
variable [Tabs]
def PEX (X:Cx)(E:XK)(e:Expr)(G:Ev->Option Value):Prop:=∀(Ha:Hp) (O0:Addr->Prop) (pins:M5) (s:Shared) (σ:St) (H:Hp) (O:Addr->Prop) (ρ:Ev) (C:Value),
 Inv X pins σ H s->EnvOk X.K Ha O0 H O σ ρ->S6 X.K O->G ρ=some C->(∀H',Same Ha H'->E C none H')->wpAny (model X.prog X.w) X.A (eval e X.env) (λ_ _=>False) X.xe s
def PX (X:Cx)(E:XK)(st:Stmt)(G:Ev->Option Value):Prop:=∀(Ha:Hp) (O0:Addr->Prop) (pins:M5) (s:Shared) (σ:St) (H:Hp) (O:Addr->Prop) (ρ:Ev) (C:Value),
 Inv X pins σ H s->EnvOk X.K Ha O0 H O σ ρ->S6 X.K O->G ρ=some C->(∀H',Same Ha H'->E C none H')->wpAny (model X.prog X.w) X.A (exec st X.env) (λ_ _=>False) X.xe s
def NA (X:Cx)(E:XK)(st:List Stmt)(G:Ev->Option Value):Prop:=∀(Ha:Hp) (O0:Addr->Prop) (pins:M5) (s:Shared) (σ:St) (H:Hp) (O:Addr->Prop) (ρ:Ev) (C:Value),
 Inv X pins σ H s->EnvOk X.K Ha O0 H O σ ρ->S6 X.K O->G ρ=some C->(∀H',Same Ha H'->E C none H')->wpAny (model X.prog X.w) X.A (execs st X.env) (λ_ _=>False) X.xe s
def spX (K:PySem.W.Frag)(n:Nat)(m:List D->Option Value):Sp:=λvs H _ E=>∃O ds C,Reps K H O vs ds/\ds.length=n/\(∀a,O a->∃o,H a=some o/\Mt o)/\Tb H/\S6 K O/\m ds=some C/\∀H',Same H H'->E C none H'
def C9 {P:Program}{w:World}{K:PySem.W.Frag}{mg:Y0}{base:Heap}{N:List Str}{qual:Str}{sc:Scope}{f:Addr}{cd:Value}{A:Around}{outer:List Env}{s:Shared}{H:Hp}{E:XK}:
 LeavesBy (uO (PY P w) P w K mg base N qual sc f cd A outer s H E) E:=⟨λ_ _ h=>h,rfl,rfl,rfl⟩
section
variable{P:Program} {w:World} {K:PySem.W.Frag} {mg:Y0} {base:Heap}
abbrev cxX (P:Program)(w:World)(K:PySem.W.Frag)(mg:Y0)(base:Heap)(N:List Str)(qual:Str)(sc:Scope)(f:Addr)(cdv:Value)(A:Around)(outer:List Env)(s:Shared)(H:Hp)(E:XK):Cx:=uO (PY P w) P w K mg base N qual sc f cdv A outer s H E
def fnX {x qual:Str}{st:Stmt}{f:Addr}{fd:FuncData}{N ps:List Str}{k:Nat}{m:List D->Option Value}{G:Ev->Option Value}(F0:Fun K x qual st f fd)(S:FnScope N ps (c6 st))
  (hb:∀(cdv:Value) (A:Around) (outer:List Env) (s:Shared) (H:Hp) (E:XK),Room k (A.deeper (envOfC qual (c6 st) s.heap.objs.size f cdv))->NA (cxX P w K mg base N qual (c6 st) f cdv A outer s H E) E (q8 st) G)
  (hm:∀ds C,ds.length=ps.length->m ds=some C->G (i3 N ds)=some C):FnOk P w K mg base (PY P w) (k+1) f fd ps (spX K ps.length m):=by
 obtain⟨oc,od,kV,doc,pm,an,cdv,ct,osl,rfl,lk,eu⟩:=F0.ex;refine KJ lk eu S (λvs H Q E ⟨O,ds,C,r,hl,_⟩=>by rw[r.length];exact hl) λA outer s H vs Q E hr ⟨O,ds,C,r,hl,ht,tb,fk,e,q⟩=>?_;refine⟨λD σ H'=>H'=H/\EnvOk K H O H O σ (i3 N ds),λpins s1 σ H1 D I ⟨e1,E1⟩=>?_,rfl,lI r ht tb⟩;subst e1;exact aBG (hb cdv A outer s H1 E hr H1 O pins s1 σ H1 O _ C I E1 fk (hm ds C hl e) q) (λ_ _ z=>z.elim) λ_ _ z=>z
end
section
variable{X:Cx} {E:XK} {st:Stmt} {rest:List Stmt} {F:Ev->R Out} {G Ga Gb:Ev->Option Value} {pos:Pos}
def rY (r:R Out)(G:Ev->Option Value):Option Value:=match r with
 |.ok (.nx ρ)=>G ρ
 |_=>none
def oW (h1:jD X st F)(h2:NA X E rest G):NA X E (st::rest) (λρ=>rY (F ρ) G):=by
 intro Ha O0 pins s σ H O ρ C I Ev fk e q;cases e1:F ρ with
 |ok o=>
  cases o with
  |nx au=>
   have e2:G au=some C:=by dsimp only at e;rw[e1]at e;exact e
   refine aCF (D4 (h1 Ha O0 pins s σ H {nx:=λao H'=>∃O',EnvOk X.K Ha O0 H' O' ao au/\S6 X.K O',rt:=λ_ _=>False} I ⟨O,ρ,Ev,fk,?_⟩) λf s1 z=>?_)
   ·rw[e1];exactλao H' O' E' f' _=>⟨O',E',f'⟩
   ·cases f with
    |next=>obtain⟨ao,H',I',O',E',f'⟩:=z;exact h2 Ha O0 pins s1 ao H' O' au C I' E' f' e2 q
    |ret v=>obtain⟨_,_,_,_,_,z⟩:=z;exact z.elim
    |brk=>obtain⟨_,_,_,z⟩:=z;exact z.elim
    |cont=>obtain⟨_,_,_,z⟩:=z;exact z.elim
  |rt d=>dsimp only at e;rw[e1]at e;cases e
  |bk au=>dsimp only at e;rw[e1]at e;cases e
  |ct au=>dsimp only at e;rw[e1]at e;cases e
 |ex z=>dsimp only at e;rw[e1]at e;cases e
 |bad=>dsimp only at e;rw[e1]at e;cases e
def w8 (h1:PX X E st G):NA X E (st::rest) G:=λHa O0 pins s σ H O ρ C I Ev fk e q=>aCF (D4 (h1 Ha O0 pins s σ H O ρ C I Ev fk e q) λ_ _ z=>z.elim)
def V4 {sts:List Stmt}:NA X E sts (λ_=>none):=λ_ _ _ _ _ _ _ _ _ _ _ _ e=>by cases e
def dz (r:R Bool)(a b:Option Value):Option Value:=match r with
 |.ok true=>a
 |.ok false=>b
 |_=>none
def rP {c:Expr}{a b:List Stmt}{fc:Ev->R Bool}(hc:BO X c fc)(ha:NA X E a Ga)(hb:NA X E b Gb):PX X E (.If c a b pos) (λρ=>dz (fc ρ) (Ga ρ) (Gb ρ)):=by
 intro Ha O0 pins s σ H O ρ C I Ev fk e q;cases e1:fc ρ with
 |ok t=>
  refine wpAny_If (D4 (hc pins s σ H (λd H1=>d=t/\Same H H1) I ⟨Ha,O0,O,ρ,Ev,?_⟩) λd s1 ⟨H1,I1,ed,sm⟩=>?_)
  ·rw[e1];exactλH' s'=>⟨rfl,s'⟩
  ·subst ed;dsimp only at e;rw[e1]at e;cases d with
   |true=>exact ha Ha O0 pins s1 σ H1 O ρ C I1 (Ev.grow sm) fk e q
   |false=>exact hb Ha O0 pins s1 σ H1 O ρ C I1 (Ev.grow sm) fk e q
 |ex z=>dsimp only at e;rw[e1]at e;cases e
 |bad=>dsimp only at e;rw[e1]at e;cases e
def Q0 {e:Expr}(h:PEX X E e G)(hs:swapsWith e none pos.line X.env=pure false:=by rfl):PX X E (.Expr e pos) G:=λHa O0 pins s σ H O ρ C I Ev fk ec q=>aFJ (D4 (h Ha O0 pins s σ H O ρ C I Ev fk ec q) λ_ _ z=>z.elim) I.quiet hs
def LI {k:Nat}{g:Addr}{gd:FuncData}{ps:List Str}{n:Nat}{m:List D->Option Value}{x:Str}{p:Pos}{e:Expr}{es:List Expr}{f:Ev->R (List D)}(hx:oN (PY X.prog X.w) X E)(F:FnOk X.prog X.w X.K X.mg X.base (PY X.prog X.w) k g gd ps (spX X.K n m))(hr:Room k X.A)(hm:X.mg x=some (.ref g))
  (hk:PySem.W.keepIn X.K (.ref g)=true) (hb:Binds X.K gd ps []) (ha:qH X (e::es) f) (hl:∀ρ ds,f ρ=.ok ds->ds.length=n) (hg:Gl X x:=by rfl)
  (de:(x==("__debug__":Str))=false:=by decide) (he:starEach (e::es) X.env=(false,eval e X.env)::starEach es X.env:=by rfl) (bh:(backTo pos (starEach es X.env)).any (·.1)=false:=by rfl):
  PEX X E (.Call (.Name x p) (e::es) [] pos) (λρ=>match f ρ with|.ok ds=>m ds|_=>none):=by
 intro Ha O0 pins s σ H O ρ C I Ev fk ec q;dsimp only at ec;cases e1:f ρ with
 |ex z=>rw[e1]at ec;cases ec
 |bad=>rw[e1]at ec;cases ec
 |ok ds=>rw[e1]at ec;refine aBG (FT F hr hg hm hk hb .nil hx ha de he bh pins s σ H (λ_ _=>False) I ⟨Ha,O0,O,ρ,Ev,?_⟩) (λu s' ⟨_,_,_,_,z⟩=>z.elim) λ_ _ z=>z;rw[e1];intro vs H1 s1 r1;rw[aBu];exact⟨O,ds,C,r1,hl ρ ds e1,(Ev.grow s1).trk,(Ev.grow s1).tab,fk,ec,λH' s2=>q H' (Ev.same.trans<|s1.trans s2)⟩
end
section
variable{K:PySem.W.Frag} {h:Heap} {C:Addr} {yd:List Value} {newId:String}
def EG (X:K.In h)(q:PySem.W.excIn K C yd newId=true):∃bm N nm qn bs hdct sn sub ab col dd k0 k1 k2 k3 k5 mN,
  h.get? C=some (excClassObj nm qn C N bs bm hdct sn sub ab col dd k0 k1 k2 k3 k5 newId)/\h.Ns N mN/\mN "__init__"=none/\OwnTail h yd bm:=by
 unfold PySem.W.excIn at q;split at q
 ·rename_i dd cd sl ho;split at q
  ·rename_i C' bm k0 k1 k2 k3 n k5 hm hs;simp only[aAC,beq_iff_eq,Bool.not_eq_true']at q;obtain⟨⟨⟨⟨⟨rfl,rfl⟩,hdel⟩,ht⟩,hok⟩,hni⟩:=q;obtain⟨nm,bs,mro,ns,qn,hd,sn,sub,ab,col,del⟩:=cd;dsimp only at hm hdel hok hni;subst hm;subst hdel;have hsl:sl=#[k0,k1,k2,k3,some (.builtin n),k5]:=by obtain⟨l⟩:=sl;simp only at hs;rw[hs]
   subst hsl;exact⟨bm,ns,nm,qn,bs,hd,sn,sub,ab,col,dd,k0,k1,k2,k3,k5,_,X _ _ ho,.of_isNs (PySem.W.isNs_of_in X hok),PySem.W.nsMap_none_of_in X hok hni,PySem.W.tail_of_in X ht⟩
  ·cases q
 ·cases q
end
section
variable{X:Cx} {E:XK} {pos bp np:Pos} {x:Str} {C:Addr} {yd:List Value} {B newId initId:String}
def KM {e9:Expr}{rest:List Expr}{f:Ev->R (List D)}(L:LeavesBy X E)(hc:X.calm=true)(hq:PySem.W.excIn X.K C yd newId=true)(FB:ExcBaseFacts B newId initId yd)(hm:X.mg x=some (.ref C))
  (ha:qH X (e9::rest) f) (hg:Gl X x:=by rfl) (de:(x==("__debug__":Str))=false:=by decide)
  (he:starEach (e9::rest) X.env=(false,eval e9 X.env)::starEach rest X.env:=by rfl) (bh:(backTo bp (starEach rest X.env)).any (·.1)=false:=by rfl):
  PX X E (.Raise (some (.Call (.Name x np) (e9::rest) [] bp)) none pos) (λρ=>match f ρ with|.ok ds=>if ds.length<=1000 then some (.ref C)else none|_=>none):=by
 intro Ha O0 pins s σ H O ρ C' I Ev fk ec q;dsimp only at ec;cases e1:f ρ with
 |ex z=>rw[e1]at ec;cases ec
 |bad=>rw[e1]at ec;cases ec
 |ok ds=>
  rw[e1]at ec;dsimp only at ec;split at ec
  ·rename_i hl;cases ec;obtain⟨tl,N,nm,qn,bs,hdct,sn,sub,ab,col,dd,k0,k1,k2,k3,k5,mN,hC,hN,hni,T⟩:=EG I.mod.kin hq;refine wpAny_Raise_call_subT (C:=C) (nm:=nm) (q:=qn) (N:=N) (bs:=bs) (bm:=tl) (hdct:=hdct) (sn:=sn) (sub:=sub) (ab:=ab) (col:=col) (dd:=dd) (k0:=k0) (k1:=k1) (k2:=k2) (k3:=k3) (k5:=k5)
    FB (mN:=mN) (T.hasType FB.hasBase) (I.ok.hd hc) (by rw[he];show(false||(backTo bp<|starEach rest X.env).any (·.1))=false;rw[bh];rfl) hni (fI I hg hm ⟨rfl,?_⟩ de)
   have h1:=ha bp pins s σ H (λvs H1=>vs.length=ds.length/\Same H H1) I ⟨Ha,O0,O,ρ,Ev,by rw[e1];exactλvs H1 s1 r1=>⟨r1.length,s1⟩⟩;rw[he]at h1⊢;refine aFC (D4 h1 λus s2 ⟨vs,H1,I1,r,l,sm⟩=>⟨rfl,?_,I1.bk _ _ hC,hN.keeps I1.bk,T.keeps I1.bk,λh' e hx=>?_⟩)
   ·rw[<-r.length,l];exact aCV (HA hl)
   ·exact HZ L I1 hx (q H1<|Ev.same.trans sm)
  ·cases ec
end
end DL
namespace DL
open PySem PySem.Spec PySem.Calls PySem.W Builtin Builtin.ObjectAttr Builtin.Getset_descriptor
open PyProof.Rows hiding St
section
variable{prog:Program} {w:World} {A:Around} {E:F1} {K:Frag} {h:Heap} {g:Array GenState} {d:Drawn} {t:Nat} {os:OsState} {a C:Addr} {o:Obj}
def xD (a C:Addr)(h:Heap):Prop:=∃o,h.get? a=some o/\o.cls=.ref C
def nC {M:Model}(p:xD a C h):Looks M h (typeOf (.ref a)) (.ref C):=by obtain⟨o,h1,h2⟩:=p;exact h2▸(Looks.ld h1).andThen .now
def rK {R:Result->Shared->Prop}{tp:Value}(X:K.In h)(p:xD a C h)(hm:mroIn K C (.type "object")=some true)(q:R (.ok (.ret (.ref C))) ⟨h,g,d,t,os⟩):
  codeAny (model prog w) A (.call (.builtin "getset_descriptor.__get__") ⟨[.builtin "object.__class__",.ref a,tp],[]⟩) R ⟨h,g,d,t,os⟩:=by
 have L0:=nC (M:=model prog w) p;have L1:=looks_mroIn (M:=model prog w) X hm;refine aEe (s:=⟨h,g,d,t,os⟩) KF.slot_gs.plain KF.entry_gs (KF.slot_gs.check _ _ _ _ _ _ _ _ KF.type_class (KF.args_gs _ _ _) ?_);unfold Builtin.«getset_descriptor.__get__» descrGet;rw[dga_obj];refine aAa (aAb ?_);unfold descrGetter descrCheckInstance descrNameAndClass isInstance;simp only[KF.owner_class];repeat lk
 refine⟨Code.quiet_builtin _ (by decide+kernel),aBw KF.entry_class ?_⟩;unfold Builtin.«object.__class__» shownTypeOf;repeat lk
 exact q
def mS {tk:Tok}{Q:Fin->Shared->Prop}(X:K.In h)(p:xD a C h)(hm:mroIn K C (.type "object")=some true)(qi:findIn K (.ref C) "__class__"=some (some (.builtin "object.__class__")))
  (q:Q (.done (.ret (.ref C))) ⟨h,g,d,t,os⟩):
  wpAny (model prog w) A (Builtin.«object.__getattribute__» ⟨[.ref a,.str "__class__" tk],[]⟩) Q E ⟨h,g,d,t,os⟩:=by
 have L0:=nC (M:=model prog w) p;have L1:=looks_findIn (M:=model prog w) X qi;have hT5:(⟨h,g,d,t,os⟩:Shared).TypeIs (.builtin "object.__class__") "getset_descriptor":=F.typeOf_object_class;have f5:=F.typeOf_object_class;have f6:=F.slot_gs_get.lookup;have f7:=F.slot_gs_set.lookup;repeat(any_goals(first|assumption|with_reducible refine L0.at ?_|with_reducible refine L1.at ?_|wp_step))
 refine rK X p hm ?_;repeat(any_goals(first|assumption|wp_step))
def HF {M:Model}{nameV:Value}{Q:Unit->Shared->Prop}(X:K.In h)(p:xD a C h)(hmb:mroIn K C (.type "BaseException")=some true)(q:Q () ⟨h,g,d,t,os⟩):
  wpAny M A (checkBuiltinCall "BaseException.__getattribute__" ⟨[.ref a,nameV],[]⟩) Q E ⟨h,g,d,t,os⟩:=by
 obtain⟨o,hx,hc⟩:=id p;have L2:=looks_mroIn (M:=M) X hmb;have hk:builtinKind "BaseException.__getattribute__"=some .slot:=by decide+kernel
 have hsplit:splitId "BaseException.__getattribute__"=some ("BaseException", "__getattribute__"):=by decide+kernel
 have ha:=F.args_bexc_ga (.ref a) nameV;simp only[checkBuiltinCall,hk,hsplit];refine aAa ?_;unfold isInstance;repeat(first|(with_reducible refine aEZ hx ?_;rw[hc])|with_reducible refine L2.at ?_|wp_step)
 exact q
def vO {tk:Tok}{Q:F1}(X:K.In h)(p:xD a C h)(hm:mroIn K C (.type "object")=some true)(hmb:mroIn K C (.type "BaseException")=some true)(qi:findIn K (.ref C) "__class__"=some (some (.builtin "object.__class__")))
  (hga:findIn K (.ref C) "__getattribute__"=some (some (.builtin "BaseException.__getattribute__"))) (hgn:findIn K (.ref C) "__getattr__"=some none) (q:Q (.ref C) ⟨h,g,d,t,os⟩):
  wpAny (model prog w) A (getAttrBy (.ref a) (.str "__class__" tk) false) Q E ⟨h,g,d,t,os⟩:=by
 have L0:=nC (M:=model prog w) p;have L1:=looks_findIn (M:=model prog w) X hga;have L2:=looks_mroIn (M:=model prog w) X hmb;have L3:=looks_findIn (M:=model prog w) X hgn;have f3:=F.attr_ValueError.ga.bind (.ref a);have hx2:(aDp "BaseException.__getattribute__"==aDp "object.__getattribute__")=false:=by decide+kernel
 have RB:(onTheHeap (aDb C)&&aDp "BaseException.__getattribute__"==aDp "object.__getattribute__")=false:=by rw[hx2];rfl
 repeat(any_goals(first|assumption|with_reducible refine L0.at ?_|with_reducible refine L1.at ?_|with_reducible refine L3.at ?_|wp_step))
 refine aEe F.attr_ValueError.ga.plain F.entry_bexc_ga (HF X p hmb<|mS X p hm qi ?_);repeat(any_goals(first|assumption|wp_step))
def pM {Q:Option Value->Shared->Prop}(X:K.In h)(p:xD a C h)(hm:mroIn K C (.type "object")=some true)(hmb:mroIn K C (.type "BaseException")=some true)(qi:findIn K (.ref C) "__class__"=some (some (.builtin "object.__class__")))
  (hga:findIn K (.ref C) "__getattribute__"=some (some (.builtin "BaseException.__getattribute__"))) (hgn:findIn K (.ref C) "__getattr__"=some none) (q:Q (some (.ref C)) ⟨h,g,d,t+1,os⟩):
  wpAny (model prog w) A (getAttr? (.ref a) "__class__") Q E ⟨h,g,d,t,os⟩:=by
 unfold getAttr? getAttrBy?;repeat(any_goals(first|assumption|with_reducible apply vO X p hm hmb qi hga hgn|wp_step))
end
structure ExCls (K:Frag)(C:Addr):Prop where
 cls:(clsIn K C).isSome=true
 ob:mroIn K C (.type "object")=some true
 be:mroIn K C (.type "BaseException")=some true
 at_:findIn K (.ref C) "__class__"=some (some (.builtin "object.__class__"))
 ga:findIn K (.ref C) "__getattribute__"=some (some (.builtin "BaseException.__getattribute__"))
 gn:findIn K (.ref C) "__getattr__"=some none
def OT {K:Frag}{a C:Addr}(Z:ExCls K C):KitX K (.ref a) (.ref C) (xD a C)where
 ty:=λ_ _ _ p=>nC p
 it:=λ_ _ X _=>by
  have z:=Z.cls;unfold clsIn at z;split at z
  ·rename_i c' d' cd' sl' ho;intro A' Q' E' s' k q;unfold isType loadHead;exact aAa (wpAny_loadPart (k _ _<|X _ _ ho)<|aAb q)
  ·cases z
 ne:=λh tp dd its n sl X htp=>by
  refine Bool.eq_false_iff.mpr λq=>?_;have e:C=tp:=Value.ref.inj (beq_iff_eq.mp q);subst e;have z:=Z.cls;unfold clsIn at z;split at z
  ·rename_i c' d' cd' sl' ho;have z:=(X _ _ ho).symm.trans htp;cases z
  ·cases z
 ca:=λ{_ _ _ _ _ s} X p k=>by obtain⟨h,g,d,t,os⟩:=s;exact pM X p Z.ob Z.be Z.at_ Z.ga Z.gn k
end DL
namespace DL
open PySem PySem.Spec L2
open PyProof.Rows hiding St
variable [Tabs]
def OS (X:Cx)(E:XK)(pins:M5)(σ:St):Prop:=∀(H1:Hp) (s1:Shared) (e:Value) (s':Shared),Inv X pins σ H1 s1->PY X.prog X.w X.stack H1 s1 E e s'->X.xe e s'
def PEC (X:Cx)(e:Expr)(G:Ev->Option Value):Prop:=∀(Ha:Hp) (O0:Addr->Prop) (pins:M5) (s:Shared) (σ:St) (H:Hp) (O:Addr->Prop) (ρ:Ev) (C:Value) (E:XK) (W:F1),
 Inv X pins σ H s->EnvOk X.K Ha O0 H O σ ρ->S6 X.K O->G ρ=some C->(∀H',Same H H'->E C none H')->OS (X.ab1 W) E pins σ->wpAny (model X.prog X.w) X.A (eval e X.env) (λ_ _=>False) W s
def PSC (X:Cx)(st:List Stmt)(G:Ev->Option Value):Prop:=∀(Ha:Hp) (O0:Addr->Prop) (pins:M5) (s:Shared) (σ:St) (H:Hp) (O:Addr->Prop) (ρ:Ev) (C:Value) (E:XK) (W:F1),
 Inv X pins σ H s->EnvOk X.K Ha O0 H O σ ρ->S6 X.K O->G ρ=some C->(∀H',Same H H'->E C none H')->OS (X.ab1 W) E pins σ->wpAny (model X.prog X.w) X.A (execs st X.env) (λ_ _=>False) W s
section
variable{X:Cx} {pos:Pos}
def NW {e:Expr}{rest:List Stmt}{G:Ev->Option Value}(h:PEC X e G)(hs:swapsWith e none pos.line X.env=pure false:=by rfl):PSC X (.Expr e pos::rest) G:=λHa O0 pins s σ H O ρ C E W I Ev fk ec q c=>aCF (aFJ (D4 (h Ha O0 pins s σ H O ρ C E W I Ev fk ec q c) λ_ _ z=>z.elim) I.quiet hs)
def LP {k:Nat}{g:Addr}{gd:FuncData}{ps:List Str}{n:Nat}{m:List D->Option Value}{x:Str}{p:Pos}{e:Expr}{es:List Expr}{f:Ev->R (List D)}(F:FnOk X.prog X.w X.K X.mg X.base (PY X.prog X.w) k g gd ps (spX X.K n m))(hr:Room k X.A)(hm:X.mg x=some (.ref g))
  (hk:PySem.W.keepIn X.K (.ref g)=true) (hb:Binds X.K gd ps []) (ha:qH X.nox (e::es) f) (hl:∀ρ ds,f ρ=.ok ds->ds.length=n) (hg:Gl X x:=by rfl)
  (de:(x==("__debug__":Str))=false:=by decide) (he:starEach (e::es) X.env=(false,eval e X.env)::starEach es X.env:=by rfl) (bh:(backTo pos (starEach es X.env)).any (·.1)=false:=by rfl):
  PEC X (.Call (.Name x p) (e::es) [] pos) (λρ=>match f ρ with|.ok ds=>m ds|_=>none):=by
 intro Ha O0 pins s σ H O ρ C E W I Ev fk ec q cg;dsimp only at ec;cases e1:f ρ with
 |ex z=>rw[e1]at ec;cases ec
 |bad=>rw[e1]at ec;cases ec
 |ok ds=>
  rw[e1]at ec;refine aAP (fI I hg hm ?_ de);have h1:=ha pos pins s σ H (λvs H1=>Reps X.K H1 O vs ds/\Same H H1) (I.ab1 _) ⟨Ha,O0,O,ρ,Ev,by rw[e1];exactλvs H1 s1 r1=>⟨r1,s1⟩⟩;refine PySem.W.callWith_K (h₀:=X.base) I.ok.mod.kin hk (aBG h1 (λus s1 ⟨vs,H1,I1,r,r1,sm⟩=>⟨I1.kIn,?_⟩) λ_ _ z=>aAg z) he bh;have ko:us.length=ps.length:=by have e2:=F.len vs H1 (λ_ _=>False) E ⟨O,ds,C,r1,hl ρ ds e1,(Ev.grow sm).trk,(Ev.grow sm).tab,fk,ec,λH' s2=>q H' (sm.trans s2)⟩;rw[<-r.length];exact e2
  refine aFz (aDl (F.run X.A X.stack s1 H1 ⟨us,[]⟩ us vs (λ_ _=>False) E hr I1.aa3.ae9 (by have:=hb s1 us I1.kIn (by rw[aBu];exact ko);rw[aBu]at this;exact this) r
   ⟨O,ds,C,r1,hl ρ ds e1,(Ev.grow sm).trk,(Ev.grow sm).tab,fk,ec,λH' s2=>q H' (sm.trans s2)⟩) λrr s' hq=>?_)
  cases rr with
  |error ee=>exact cg H1 s1 ee s' (I1.aa3.ab1 W) hq
  |ok fl=>
   cases fl with
   |ret u=>obtain⟨_,_,_,_,_,_,_,z⟩:=hq;exact z.elim
   |next=>exact aAg hq
   |brk=>exact aAg hq
   |cont=>exact aAg hq
end
section
variable{X:Cx} {pins:M5} {σ:St} {H H':Hp} {s s':Shared}
def KB (I:Inv X pins σ H s){h3 B:Heap}(U:Un (W4 X.stack) [] H H' s.heap s'.heap)(k:aM X.prog X.w H' s'.heap)(b2:B.StaysIn s'.heap)(b3:B.StaysIn h3)(us:s'.heap.UpToSlots h3)(os:s'.os=s.os)(bare:AllBare s'.gens)
  (c1:∀b o,s.heap.get? b=some o->H b=none->b∉W4 X.stack->B.get? b=some o) (c2:∀b o,s.heap.get? b=some o->b∉W4 X.stack->∃u,B.get? b=some u) (c3:∀b u,H' b=some u->∃o,B.get? b=some o):
  Inv X pins σ H' {s' with heap:=h3}:=by
 have nx:∀b:Addr,b∉([]:List Addr):=λb=>aAw;have sl:∀b o,s.heap.get? b=some o->H b=none->b∈W4 X.stack->∃sl,h3.get? b=some {o with slots:=sl}:=λb o q n hb=>by obtain⟨_,o',ho,hd⟩:=I.stack.mem hb;rw[q]at ho;cases ho;obtain⟨s2,e2⟩:=U.slot b _ q n hb (nx b);obtain⟨s3,e3⟩:=us b _ e2 hd;exact⟨s3,e3⟩
 refine I.af1 (ch:=[]) os ⟨λb o q n hb _=>b3 b o (c1 b o q n hb),λb o q n hb _=>sl b o q n hb,U.free,λb o q _=>?_,U.tups,U.frzs,U.tbls⟩ (aM.over k b2 b3 c3) bare λb z=>absurd z (nx b);by_cases hb:b∈W4 X.stack
 ·obtain⟨s3,e3⟩:=sl b o q (I.ab7 b hb) hb;exact⟨_,e3⟩
 ·obtain⟨u,z⟩:=c2 b o q hb;exact⟨u,b3 b u z⟩
def _root_.L2.Inv.ag6 (I:Inv X pins σ H s){a:Addr}{o:Obj}(e:s.heap.get? a=some o)(n:H a=none)(nl:a≠X.env.locals)(nc:∀x c,X.env.cells.lookup x=some c->c≠a)(np:∀p∈X.pn++pins,p.1≠a)(n0:X.se.heap.get? a=none):
  Inv X pins σ (upd H a (.frz o (.own a))) s:=by
 have sm:Same H (upd H a<|.frz o (.own a)):=j4 n _;have ne:∀b,b≠a->upd H a (.frz o (.own a)) b=H b:=λb h=>j7 h;refine⟨I.ok,I.os,I.bare,⟨I.base.keep,I.base.slot,λb u q z hx=>?_,I.base.there,λb xs q=>sm b _ (I.base.tups b xs q),λb u v q=>sm b _ (I.base.frzs b u v q),λb ps q=>?_⟩,I.loc,I.cell,?_,λx c q=>?_,λp hp=>?_,λb u q=>?_,I.len⟩
 ·rw[ne b (λz'=>by rw[z',n0]at q;cases q)];exact I.base.free b u q z hx
 ·exact sm b _ (I.base.tbls b ps q)
 ·rw[ne _ (aCh nl)];exact I.free
 ·rw[ne c (nc x c q)];exact I.freeC x c q
 ·obtain⟨p1,p2,p3⟩:=I.pin p hp;exact⟨p1,by rw[ne _ (np p hp)];exact p2,p3⟩
 ·by_cases hb:b=a
  ·subst hb;rw[i9]at q;cases q;exact⟨e,⟨o,e⟩⟩
  ·rw[ne b hb]at q;exact(I.hok b u q).ab4 (λ_ _ _ z=>z) (λc z=>sm c _ z) λc xs _ z=>sm c _ z
def _root_.L2.Inv.forget (I:Inv X pins σ H s){n:Str}{i:Nat}{m:Y0}{h':Heap}{v:Option Value}{tk:Nat}(hN:X.N.Nodup)(hi:X.N[i]?=some n)(hl:∀(j:Nat) (x:Str) (v:V),X.N[j]?=some x->σ[j]?=some (some v)->sF X.env.scope x->∃u,RelV v u/\Look X.env s.heap m x u)
  (hn':h'.Ns X.env.locals (λx=>if x=n then v else m x)) (hs:Heap.SameBut X.env.locals s.heap h'):Inv X pins (σ.set i none) H {s with heap:=h',toks:=tk}:=by
 have cne:=I.cne;obtain⟨m0,⟨oL,es0,ep0,hoL,_⟩,_⟩:=id I.loc;have hk:aM X.prog X.w H h':=λb ob e=>by
  refine(I.hok b ob e).ab4 (λc w' hc q=>(hs.2 c ?_).trans q) (λ_ q=>q) λ_ _ _ q=>q;rintro rfl;rcases hc with hc|hc
  ·rw[<-hc,I.free]at e;cases e
  ·rw[I.free]at hc;cases hc
 refine⟨I.ok,I.os,I.bare,⟨λb o e n hb hx=>?_,λb o e n hb hx=>?_,I.base.free,λb o e hx=>?_,I.base.tups,I.base.frzs,I.base.tbls⟩,⟨_,hn',λj y v' e1 e2 e3=>?_⟩,λy c e=>?_,I.free,I.freeC,λp hp=>?_,hk,by simpa using I.len⟩
 ·exact(hs.2 b (aAk<|aAq (aAf e) I.ok.above)).trans (I.base.keep b o e n hb hx)
 ·obtain⟨sl,e1⟩:=I.base.slot b o e n hb hx;exact⟨sl,(hs.2 b (aAk<|aAq (aAf e) I.ok.above)).trans e1⟩
 ·obtain⟨o',e1⟩:=I.base.there b o e hx;exact⟨o',(hs.2 b (aAk<|aAq (aAf e) I.ok.above)).trans e1⟩
 ·by_cases hj:i=j
  ·subst hj;have zd:i<σ.length:=by rw[I.len];exact(aAz.mp hi).1
   rw[aBt zd]at e2;cases e2
  ·rw[aCr hj]at e2;obtain⟨u',r',q⟩:=hl j y v' e1 e2 e3;refine⟨u',r',?_⟩;rcases q with⟨k,e⟩|⟨k,c,e,z⟩
   ·refine .inl ⟨k,?_⟩;have:y≠n:=λe=>hj (pS hN hi<|e▸e1);simp[this,e]
   ·exact .inr ⟨k,c,e,z.sameBut hs (cne y c e)⟩
 ·obtain⟨w',z⟩:=I.cell y c e;exact⟨w',z.sameBut hs (cne y c e)⟩
 ·obtain⟨e,n,ne,nf,d⟩:=I.pin p hp;exact⟨(hs.2 p.1 ne).trans e,n,ne,nf,d⟩
abbrev inX (X:Cx)(e:Value):Cx:={X with A:=X.A.mark (some e),calm:=false,xe:=λ_ _=>False}
def _root_.L2.Inv.inX (I:Inv X pins σ H s)(e:Value):Inv (DL.inX X e) pins σ H s:=
 ⟨⟨I.ok.mod,I.ok.kind,I.ok.glob,I.ok.blt,I.ok.above,I.ok.inj,I.ok.has,I.ok.cab,λz=>(by cases z),I.ok.frames,I.ok.stk,I.ok.exf,I.ok.bs,I.ok.bsz,I.ok.noex,I.ok.exfs,I.ok.funs,I.ok.frf⟩,I.os,I.bare,I.base,I.loc,I.cell,I.free,I.freeC,I.pin,I.hok,I.len⟩
def _root_.L2.Inv.ag3 {e:Value}(ok:X.Ok)(I:Inv (DL.inX X e) pins σ H s):Inv X pins σ H s:=⟨ok,I.os,I.bare,I.base,I.loc,I.cell,I.free,I.freeC,I.pin,I.hok,I.len⟩
end
section
variable{K:PySem.W.Frag} {Ha H:Hp} {O0 O:Addr->Prop} {σ:St} {ρ:Ev}
def EnvOk.unset (E:EnvOk K Ha O0 H O σ ρ)(i:Nat):EnvOk K Ha O0 H O (σ.set i none) (ρ.set i .no):=E.put i (λz=>z) trivial
def EnvOk.ag5 (E:EnvOk K Ha O0 H O σ ρ)(i:Nat){a:Addr}{o:Obj}(h:H a=some (.frz o (.own a))):EnvOk K Ha O0 H O (σ.set i (some (.ref a))) (ρ.set i (.x o.cls)):=E.put i (λz=>z) ⟨a,o,rfl,h,rfl⟩
end
def yB {K:PySem.W.Frag}{M:Model}{A:Around}{E:F1}{h:Heap}{g:Array GenState}{d:Drawn}{t:Nat}{os:OsState}{a C Ch:Addr}{yd:List Value}{newId:String}{Q:wN}(X:K.In h)(p:xD a C h)
  (hc:PySem.W.mroIn K C (.ref Ch)=some true) (hq:PySem.W.excIn K Ch yd newId=true) (hb:yd.contains (.type "BaseException")=true) (q:Q true ⟨h,g,d,t,os⟩):wpAny M A (excMatches (.ref a) (.ref Ch)) Q E ⟨h,g,d,t,os⟩:=by
 obtain⟨oe,he,hcls⟩:=p;obtain⟨bm,N,nm,qn,bs,hdct,sn,sub,ab,col,dd,k0,k1,k2,k3,k5,mN,hC,hN,hni,T⟩:=EG X hq;have hcB:(aDb Ch::bm).contains (.type "BaseException")=true:=by rw[List.contains_cons,T.hasType hb,Bool.or_true]
 have L2:=PySem.W.looks_mroIn (M:=M) X hc;have f:=tc_notTuple;unfold excMatches;repeat(first|(with_reducible refine aEZ he ?_;rw[hcls])|with_reducible refine aEZ hC ?_|with_reducible refine L2.at ?_|(with_reducible refine wpAny_isSubtype_exc hC ?_;rw[hcB])|wp_step)
 exact q
def unset (i:Nat):R Out->R Out
 |.ok (.nx ρ)=>.ok (.nx (ρ.set i .no))
 |.ok (.bk ρ)=>.ok (.bk (ρ.set i .no))
 |.ok (.ct ρ)=>.ok (.ct (ρ.set i .no))
 |r=>r
def ZA (i:Nat)(ok:Value->Bool)(G:Ev->Option Value)(F Fs:Ev->R Out)(ρ:Ev):R Out:=match G ρ with
 |some C=>if ok C=true then unset i (Fs<|ρ.set i<|.x C)else .bad
 |none=>F ρ
section
variable{X:Cx} {pos ur np:Pos}
def VQ (i:Nat){x n:Str}{Ch:Addr}{yd:List Value}{newId:String}{body suite:List Stmt}{b7:Stmt}{F Fs:Ev->R Out}{G:Ev->Option Value}(ok:Value->Bool)
  (hN:X.N.Nodup) (hstk:X.stack=X.env::X.outer) (hfr:X.env.frame=some X.env.locals) (hex:X.ex=[])
  (hok:∀C,ok C=true->∃c,C=.ref c/\PySem.W.mroIn X.K c (.ref Ch)=some true)
  (hq:PySem.W.excIn X.K Ch yd newId=true) (hb:yd.contains (.type "BaseException")=true) (hm:X.mg x=some (.ref Ch))
  (h1:X8 X.nox body F) (h2:PSC X body G) (h3:∀e,X8 (inX X e) (b7::suite) Fs)
  (hi:X.N[i]?=some n:=by rfl) (hl:X.env.scope.names.lookup n=some .local:=by rfl) (hg:Gl X x:=by rfl) (de:(x==("__debug__":Str))=false:=by decide):
  jD X (.Try body [.ExceptHandler (some (.Name x np)) (some n) (b7::suite) ur] [] [] pos) (ZA i ok G F Fs):=by
 intro Ha O0 pins s σ H D I ⟨O,ρ,Ev,fk,q⟩;refine wpAny_Try_except ?_;have zh:X.env.kindOf n=some .local:=hl;unfold ZA at q;cases e:G ρ with
 |none=>
  rw[e]at q;refine aBG (h1 Ha O0 pins s σ H D (I.ab1 _) ⟨O,ρ,Ev,fk,q⟩) (λf s1 z=>?_) λ_ _ z=>aAg z;have z:=z.aa3;cases f with
  |next=>exact aDE z
  |ret v=>exact z
  |brk=>exact z
  |cont=>exact z
 |some C=>
  rw[e]at q;dsimp only at q;split at q
  case isFalse=>exact q.elim
  case isTrue hC=>
  obtain⟨c,rfl,hmro⟩:=hok C hC;refine D4 (h2 Ha O0 pins s σ H O ρ (.ref c) (λC' _ H'=>C'=.ref c/\Same H H') _ I Ev fk e (λH' s'=>⟨rfl,s'⟩) ?_) λ_ _ z=>z.elim;intro H1 s1 ee s' I1 ⟨a,cls,a0,B,H',e1,os,bare,fl,U,k,c1,c2,c3,ec,sm⟩;subst e1;subst ec;have I1:=I1.aa3;have hfra:X.A.frames=some (X.env::X.outer):=by rw[<-hstk];exact I.ok.frames
  have fl0:Heap.FlyingW B (X.env::X.outer) a (.ref c) a0 s'.heap:=by rw[<-hstk];exact fl
  show wpAny _ _ (noteFrame (.ref a) X.env) _ _ _;refine wpAny_looks_onW hfra hfr fl0 λh4 held us4=>?_;refine wpAny_landsW held λh5 fl5 us5=>?_;have I5:Inv X pins σ H' {s' with heap:=h5}:=KB I1 U k fl.1 fl5.1 (us4.trans us5) os bare c1 c2 c3;refine wpAny_handleBy_cons (codeAny_handlers_test ?_) (by intro z;cases z);obtain⟨ob,hob,hobc⟩:=fl5.there;refine fI (X:=inX X (.ref a)) (s:={s' with heap:=h5}) (I5.inX<|.ref a) hg hm (yB I5.kIn ⟨ob,hob,hobc⟩ hmro hq hb ?_) de;show codeAny _ _ (.handlers _ _ _) _ _;refine codeAny_handlers_suite_as (lands_againW fl5 λh6 fl6 us6=>?_);have I6:Inv X pins σ H' {s' with heap:=h6}:=KB I1 U k fl.1 fl6.1 ((us4.trans us5).trans us6) os bare c1 c2 c3;obtain⟨oe,vs,he,hec,hed,_⟩:=fl6.first;have nB:B.get? a=none:=fl6.2.1;have na:H' a=none:=by
   cases z:H' a with
   |none=>rfl
   |some u=>obtain⟨o,z⟩:=c3 a u z;rw[nB]at z;cases z
  have nl:a≠X.env.locals:=λz=>by obtain⟨m,⟨o',es,ep,vh,mh,_⟩,_⟩:=I6.loc;rw[<-z]at vh;have w1:some oe=some o':=he.symm.trans vh;cases w1;rw[hed]at mh;cases mh
  have nf:a∉W4 X.stack:=λz=>by
   have ff:h6.FunFrames B X.stack:=by rw[hstk];exact fl6.2.2.1
   obtain⟨_,o',ho,hd⟩:=ff.mem z;have w1:some oe=some o':=he.symm.trans ho;cases w1;exact hd vs hed
  have nc:∀y c',X.env.cells.lookup y=some c'->c'≠a:=λy c' hc z=>by obtain⟨v,o',ho,hd⟩:=I6.cell y c' hc;rw[z]at ho;have w1:some oe=some o':=he.symm.trans ho;cases w1;rw[hed]at hd;cases hd
  have pf:∀p∈X.pn++pins,p.1≠a:=λp hp z=>by obtain⟨p1,p2,p3,p4,_⟩:=I1.pin p hp;have w1:=c1 p.1 p.2 p1 p2 (λzz=>by rcases aAe.mp (I1.ab0 p.1 zz)with w|w;exact p3 w;exact p4 w);rw[z,nB]at w1;cases w1
  have n0:X.se.heap.get? a=none:=by
   cases z:X.se.heap.get? a with
   |none=>rfl
   |some o=>obtain⟨o',z'⟩:=I1.base.there a o z (by rw[hex];exact aAw);obtain⟨u,w1⟩:=c2 a o' z' nf;rw[nB]at w1;cases w1
  have I7:=I6.ag6 he na nl nc pf n0;refine X0 (X:=X) (v:=.ref a) I7 hN hi (.inl hl) rfl (λs8 I8=>?_) (.inr hl);have sm8:Same H (upd H' a<|.frz oe (.own a)):=sm.trans (j4 na _);have Ev8:=(Ev.grow sm8).ag5 i (a:=a) (o:=oe) i9;rw[hec]at Ev8;have run:=h3 (.ref a) Ha O0 pins s8 _ _ {nx:=λao H9=>D.nx (ao.set i none) H9,rt:=D.rt,bk:=λao H9=>D.bk (ao.set i none) H9,ct:=λao H9=>D.ct (ao.set i none) H9} (I8.inX _) ⟨O,_,Ev8,fk,by
   have q':=RS.grow q (Kp.of (O:=O) sm8);cases e2:Fs (ρ.set i<|.x (.ref c))with
   |ok o=>
    rw[e2]at q';cases o with
    |nx au=>exactλao H9 O' E' f' kp=>q' _ H9 O' (E'.unset i) f' kp
    |bk au=>exactλao H9 O' E' f' kp=>q' _ H9 O' (E'.unset i) f' kp
    |ct au=>exactλao H9 O' E' f' kp=>q' _ H9 O' (E'.unset i) f' kp
    |rt d=>exact q'
   |ex z=>rw[e2]at q';exact q'
   |bad=>rw[e2]at q';exact q'⟩
  refine aBG run (λf s9 z=>?_) λ_ _ z=>aAg z;have go:∀{ao:St} {H9:Hp} {Q:Unit->Shared->Prop},Inv (inX X<|.ref a) pins ao H9 s9->(∀s10,Inv X pins (ao.set i none) H9 s10->Q () s10)->wpAny (model X.prog X.w) X.A (do bindName X.env n .none;unbindBehindTheSuite X.env n ur) Q X.xe s9:=λ{ao H9 Q} I9 hQ=>by have I9':=Inv.ag3 I.ok I9;obtain⟨m,hn,hloc⟩:=id I9'.loc;refine wpAny_nameGoes_keeps zh hn (by rw[I.ok.kind];rfl) λh10 v hn' oi=>hQ _ ?_;exact I9'.forget hN hi hloc hn' oi
  cases f with
  |next=>obtain⟨ao,H9,I9,q9⟩:=z;exact go I9 λs10 I10=>⟨_,H9,I10,q9⟩
  |brk=>obtain⟨ao,H9,I9,q9⟩:=z;exact go I9 λs10 I10=>⟨_,H9,I10,q9⟩
  |cont=>obtain⟨ao,H9,I9,q9⟩:=z;exact go I9 λs10 I10=>⟨_,H9,I10,q9⟩
  |ret u=>obtain⟨v,ao,H9,I9,r9,q9⟩:=z;exact go I9 λs10 I10=>⟨v,_,H9,I10,r9,q9⟩
end
def BX (K:PySem.W.Frag)(c:Addr):Bool:=(PySem.W.clsIn K c).isSome&&(PySem.W.mroIn K c (.type "object")==some true&&(PySem.W.mroIn K c (.type "BaseException")==some true&&
 (PySem.W.findIn K (.ref c) "__class__"==some (some<|.builtin "object.__class__")&&(PySem.W.findIn K (.ref c) "__getattribute__"==some (some<|.builtin "BaseException.__getattribute__")&&PySem.W.findIn K (.ref c) "__getattr__"==some none))))
def BX.cls {K:PySem.W.Frag}{c:Addr}(h:BX K c=true):ExCls K c:=by unfold BX at h;simp only[aAC,beq_iff_eq]at h;exact⟨h.1,h.2.1,h.2.2.1,h.2.2.2.1,h.2.2.2.2.1,h.2.2.2.2.2⟩
def kw (K:PySem.W.Frag)(i:Nat)(cv:Value)(ρ:Ev):R D:=match ρ[i]? with
 |some (.x (.ref c))=>if BX K c=true then(match PySem.W.kitOne K (.ref c) cv with|some b=>.ok (.bl b)|none=>.bad)else .bad
 |_=>.bad
section
variable{X:Cx} {pos:Pos}
def QO (i:Nat){n x:Str}{p pn pt:Pos}{cv:Value}{vc:V}(hc:PE X (.Name x pt) (tC vc))(rc:RelV vc cv)(hu:∀u,RelV vc u->u=cv)(hm:X.mg "isinstance"=none)(hN:X.N[i]?=some n:=by rfl)(hv:sF X.env.scope n:=by first|exact aBY rfl|exact aBk (aBY rfl)|exact aBk (aBk rfl))(hg:Gl X "isinstance":=by rfl)
  (de:(n==("__debug__":Str))=false:=by decide) (eu:(n==("__classdict__":Str))=false:=by decide)
  (he:starEach [.Name n pn,.Name x pt] X.env=(false,eval (.Name n pn) X.env)::starEach [.Name x pt] X.env:=by rfl) (jr:starEach [Expr.Name x pt] X.env=[(false,eval (.Name x pt) X.env)]:=by rfl) (bh:(backTo pos (starEach [Expr.Name x pt] X.env)).any (·.1)=false:=by rfl):
  PD X (.Call (.Name "isinstance" p) [.Name n pn,.Name x pt] [] pos) (kw X.K i cv):=by
 refine qO λpins s σ H Q I Ha O0 O ρ E q=>?_;refine aAP (P6 (u:=.builtin "isinstance") I hg hm (by decide+kernel) ?_);unfold kw at q;split at q
 case h_2=>exact q.elim
 case h_1 c e=>
 split at q
 case isFalse=>exact q.elim
 case isTrue ho=>
 split at q
 case h_2=>exact q.elim
 case h_1 b ek=>
 obtain⟨a,o,h1,h2,h3⟩:=E.exc i _ e;have h:=J8 (M6 (pos:=pn) hN hv de eu) (J8 hc cC (by rw[jr];rfl)) he pos pins s σ H (λvs H1=>vs=[.ref a,vc]/\H1=H) I ⟨_,h1,rfl,rfl⟩;refine aBF (D4 h λus s1 ⟨vs,H1,I1,r1,e1,e2⟩=>?_) he bh;subst e1;subst e2;obtain⟨u,w,rfl,ru,rw'⟩:=vals2 r1;cases ru;obtain rfl:=hu w rw';obtain⟨hob,_⟩:=I1.hok a _ h2;exact PySem.W.kia_one (OT<|BX.cls ho) I1.kIn ⟨o,hob,h3⟩ ek (λz=>nomatch z) λtk=>⟨.bl b,H1,I1.tok _,rfl,q _ H1 (Same.refl _) .bl⟩
end
def ax (ds:List D):D->R D
 |.int k=>if 0<=k/\k<=1000/\ds.length<=1000 then .ok (.lst (aAF k.toNat ds).flatten)else .bad
 |_=>.bad
theorem Reps.rep {K:PySem.W.Frag}{H:Hp}{O:Addr->Prop}{vs:List V}{ds:List D}(r:Reps K H O vs ds):∀n:Nat,Reps K H O (aAF n vs).flatten (aAF n ds).flatten
 |0=>.nil
 |n+1=>by rw[aBh,aBh,aCa,aCa];exact r.append (Reps.rep r n)
def YZ {X:Cx}{a b:Expr}{fa:Ev->R (List D)}{fb:Ev->R D}{pos:Pos}(ha:PF X a fa)(hb:PD X b fb):PD X (.BinOp a .Mult b pos) (λρ=>(fa ρ).bind λds=>(fb ρ).bind λk=>ax ds k):=by
 refine qO λpins s σ H Q I Ha O0 O ρ E q=>?_;refine wpAny_BinOp (HW (R:=λx y H2=>pz x y H2 Q) ha hb I ?_ λv u s2 x y H2 I2 rx ry h=>ZR pins s2 σ H2 x y v u Q I2 rx ry h);refine⟨Ha,O0,O,ρ,E,?_⟩;dsimp only at q;cases e1:fa ρ with
 |ex z=>rw[e1]at q;exact q
 |bad=>rw[e1]at q;exact q
 |ok ds=>
  rw[e1,R.aa0]at q;intro vs H1 p s1 hp r1;have s2:=s1.trans (j4 hp<|.lst vs);refine⟨Ha,O0,O,ρ,E.grow s2,?_⟩;cases e2:fb ρ with
  |ex z=>rw[e2]at q;exactλH' s'=>q H' (s2.trans s')
  |bad=>rw[e2]at q;exact q
  |ok d=>
   rw[e2,R.aa0]at q;intro v H2 s3 r3;cases d with
   |int k=>
    simp only[ax]at q;split at q
    ·rename_i hk;obtain⟨k0,k1,k2⟩:=hk;cases r3;refine⟨p,k,vs,rfl,rfl,s3 _ _ i9,by omega,by omega,?_,λp' xh=>?_⟩
     ·rw[r1.length];have:k.toNat<=1000:=by omega
      exact aAr (aEO k2 this) (by decide)
     ·have s4:=s3.trans (j4 xh<|.lst (aAF k.toNat vs).flatten);exact q _ _ (s2.trans s4) (.lst (O6.of i9) ((E.grow<|s2.trans s3).fresh xh) (((r1.same<|j4 hp _).same s4).rep _))
    ·exact q.elim
   |_=>exact aAg q
abbrev vBm:List Value:=[.type "ValueError",.type "Exception",.type "BaseException",.type "object"]
def T9 (P:Program)(w:World)(K:PySem.W.Frag)(mg:Y0)(base:Heap)(k:Nat)(x:Str)(n:Nat)(m:List D->Option Value):Prop:=
 ∃g gd ps,FnOk P w K mg base (PY P w) k g gd ps (spX K n m)/\Binds K gd ps []/\PySem.W.keepIn K (.ref g)=true/\mg x=some (.ref g)
def fG {P:Program}{w:World}{K:PySem.W.Frag}{mg:Y0}{base:Heap}{x qual:Str}{st:Stmt}{f:Addr}{fd:FuncData}{N ps:List Str}{k:Nat}{m:List D->Option Value}{G:Ev->Option Value}(F0:Fun K x qual st f fd)(S:FnScope N ps (c6 st))(xm:Binds K fd ps [])(je:mg x=some (.ref f))
  (hb:∀(cdv:Value) (A:Around) (outer:List Env) (s:Shared) (H:Hp) (E:XK),Room k (A.deeper (envOfC qual (c6 st) s.heap.objs.size f cdv))->NA (cxX P w K mg base N qual (c6 st) f cdv A outer s H E) E (q8 st) G)
  (hm:∀ds C,ds.length=ps.length->m ds=some C->G (i3 N ds)=some C):T9 P w K mg base (k+1) x ps.length m:=
 ⟨f,fd,ps,fnX F0 S hb hm,xm,F0.kp,je⟩
def mX (f:Ev->R (List D))(m:List D->Option Value)(ρ:Ev):Option Value:=match f ρ with|.ok ds=>m ds|_=>none
section
variable{X:Cx} {pos:Pos}
def VS {k:Nat}{n:Nat}{m:List D->Option Value}{x:Str}{p:Pos}{e:Expr}{es:List Expr}{f:Ev->R (List D)}(c:T9 X.prog X.w X.K X.mg X.base k x n m)(hr:Room k X.A)(ha:qH X.nox (e::es) f)(hl:yD f n)(hg:Gl X x:=by rfl)
  (de:(x==("__debug__":Str))=false:=by decide) (he:starEach (e::es) X.env=(false,eval e X.env)::starEach es X.env:=by rfl) (bh:(backTo pos (starEach es X.env)).any (·.1)=false:=by rfl):
  PEC X (.Call (.Name x p) (e::es) [] pos) (mX f m):=by
 obtain⟨g,gd,ps,F,b,kp,em⟩:=c;exact LP F hr em kp b ha hl hg de he bh
def Q4 {E:XK}{k:Nat}{n:Nat}{m:List D->Option Value}{x:Str}{p:Pos}{e:Expr}{es:List Expr}{f:Ev->R (List D)}(L:LeavesBy X E)(c:T9 X.prog X.w X.K X.mg X.base k x n m)(hr:Room k X.A)(ha:qH X (e::es) f)(hl:yD f n)(hg:Gl X x:=by rfl)
  (de:(x==("__debug__":Str))=false:=by decide) (he:starEach (e::es) X.env=(false,eval e X.env)::starEach es X.env:=by rfl) (bh:(backTo pos (starEach es X.env)).any (·.1)=false:=by rfl):
  PEX X E (.Call (.Name x p) (e::es) [] pos) (mX f m):=by
 obtain⟨g,gd,ps,F,b,kp,em⟩:=c;exact LI (KW L) F hr em kp b ha hl hg de he bh
def Y6 {K:PySem.W.Frag}{i:Nat}{n x:Str}{p pn pt:Pos}{c:Addr}(k:X.mg x=some (.ref c))(hm:X.mg "isinstance"=none)(hN:X.N[i]?=some n:=by rfl)(hv:sF X.env.scope n:=by first|exact aBY rfl|exact aBk (aBY rfl)|exact aBk (aBk rfl))(hg:Gl X "isinstance":=by rfl)(hgx:Gl X x:=by rfl)
  (de:(n==("__debug__":Str))=false:=by decide) (eu:(n==("__classdict__":Str))=false:=by decide) (zv:(x==("__debug__":Str))=false:=by decide)
  (he:starEach [.Name n pn,.Name x pt] X.env=(false,eval (.Name n pn) X.env)::starEach [.Name x pt] X.env:=by rfl) (jr:starEach [Expr.Name x pt] X.env=[(false,eval (.Name x pt) X.env)]:=by rfl) (bh:(backTo pos (starEach [Expr.Name x pt] X.env)).any (·.1)=false:=by rfl) (hK:X.K=K:=by rfl):
  PD X (.Call (.Name "isinstance" p) [.Name n pn,.Name x pt] [] pos) (kw K i (.ref c)):=by
 subst hK;exact QO i (DZ (v:=.ref c) hgx k rfl zv) rfl (λ_ h=>h) hm hN hv hg de eu he jr bh
def RP {K:PySem.W.Frag}{i:Nat}{n x:Str}{p pn pt:Pos}{T:String}(hT:bootBuiltins x=some (.type T))(k:X.mg x=none)(hm:X.mg "isinstance"=none)(hN:X.N[i]?=some n:=by rfl)(hv:sF X.env.scope n:=by first|exact aBY rfl|exact aBk (aBY rfl)|exact aBk (aBk rfl))(hg:Gl X "isinstance":=by rfl)(hgx:Gl X x:=by rfl)
  (de:(n==("__debug__":Str))=false:=by decide) (eu:(n==("__classdict__":Str))=false:=by decide) (zv:(x==("__debug__":Str))=false:=by decide) (hnx:x≠ "__name__":=by decide)
  (he:starEach [.Name n pn,.Name x pt] X.env=(false,eval (.Name n pn) X.env)::starEach [.Name x pt] X.env:=by rfl) (jr:starEach [Expr.Name x pt] X.env=[(false,eval (.Name x pt) X.env)]:=by rfl) (bh:(backTo pos (starEach [Expr.Name x pt] X.env)).any (·.1)=false:=by rfl) (hK:X.K=K:=by rfl):
  PD X (.Call (.Name "isinstance" p) [.Name n pn,.Name x pt] [] pos) (kw K i (.type T)):=by
 subst hK;exact QO i (GA (v:=.ty T) hgx k hT rfl hnx zv) rfl (λ_ h=>h) hm hN hv hg de eu he jr bh
def AT {st:List Stmt}:X8 X st (λ_=>.bad):=λ_ _ _ _ _ _ _ _ ⟨_,_,_,_,q⟩=>q.elim
end
structure XCls (K:PySem.W.Frag)(mg:Y0)(Bc:Addr)(x:Str)(c:Addr):Prop where
 nm:mg x=some (.ref c)
 ex:PySem.W.excIn K c vBm "ValueError.__new__"=true
 ok:BX K c=true
 sub:PySem.W.mroIn K c (.ref Bc)=some true
def DS {K:PySem.W.Frag}{mg:Y0}{Bc c:Addr}{x:Str}{cd:ClassData}(nm:mg x=some (.ref c))(ex:PySem.W.excIn K c vBm "ValueError.__new__"=true)(h1:PySem.W.clsIn K c=some cd)(h2:PySem.W.mroIn K c (.type "object")=some true)
  (h3:PySem.W.mroIn K c (.type "BaseException")=some true) (h4:PySem.W.findIn K (.ref c) "__class__"=some (some (.builtin "object.__class__"))) (h5:PySem.W.findIn K (.ref c) "__getattribute__"=some (some (.builtin "BaseException.__getattribute__")))
  (h6:PySem.W.findIn K (.ref c) "__getattr__"=some none) (sub:PySem.W.mroIn K c (.ref Bc)=some true):XCls K mg Bc x c:=
 ⟨nm,ex,by unfold BX;rw[h1,h2,h3,h4,h5,h6];rfl,sub⟩
def OC (c:Addr):Value->Bool
 |.ref a=>a==c
 |_=>false
def UT {K:PySem.W.Frag}{mg:Y0}{Bc c:Addr}{x:Str}(h:XCls K mg Bc x c):∀C,OC c C=true->∃a,C=.ref a/\PySem.W.mroIn K a (.ref Bc)=some true:=λC e=>by
 cases C with
 |ref a=>simp only[OC,beq_iff_eq]at e;subst e;exact⟨a,rfl,h.sub⟩
 |_=>cases e
def pI {X:Cx}{E:XK}{sts:List Stmt}{G1 G2:Ev->Option Value}(h1:NA X E sts G1)(h2:NA X E sts G2):NA X E sts (λρ=>(G1 ρ).or (G2 ρ)):=by
 intro Ha O0 pins s σ H O ρ C I Ev fk e q;dsimp only at e;cases e1:G1 ρ with
 |some c=>rw[e1]at e;cases e;exact h1 Ha O0 pins s σ H O ρ _ I Ev fk e1 q
 |none=>rw[e1,Option.none_or]at e;exact h2 Ha O0 pins s σ H O ρ C I Ev fk e q
end DL
namespace M
open PySem L2 DL
variable [Tabs]
def RA (d:D):Prop:=SA d/\gU d=false
def ik (d:D):Prop:=SA d/\gU d=true
open Classical in
def aZ (c:Addr):List D->Option Value
 |[d]=>if RA d then some (.ref c)else none
 |_=>none
open Classical in
def fO (c:Addr):List D->Option Value
 |[_,d]=>if RA d then some (.ref c)else none
 |_=>none
open Classical in
def tJ (c:Addr):List D->Option Value
 |[a,b]=>if RA a\/(ik a/\RA b)then some (.ref c)else none
 |_=>none
open Classical in
def yN (c:Addr):List D->Option Value
 |[.int w,t,m,_,_]=>if 0<=w/\w<5/\RA t/\ik m then some (.ref c)else none
 |_=>none
open Classical in
def fB:List D->R D
 |[.int w,t,m,_,_]=>if 0<=w/\w<5/\RA t/\ik m then .ok (.bl true)else .bad
 |_=>.bad
def SO (h:RA d):sR [d]=.ok (.bl false):=by rw[OJ h.1,h.2]
def CF (h:ik d):R8 [d]=.ok .non:=if_pos h
def aR (h:RA d):aZ c [d]=some (.ref c):=if_pos h
def KP (h:RA d):fO c [e,d]=some (.ref c):=if_pos h
def LF (h:ik d):aZ c [d]=none:=if_neg λz=>by have:=z.2;rw[h.2]at this;cases this
open Classical in
def pH:List D->R D
 |[.tup xs,.int c]=>if(∃ns,xs=ns.map D.int/\xy 300 ns)/\bits c<=3000000 then .ok (jQ (xs.map AX) c)else .bad
 |_=>.bad
def SE (h:xy 300 ns)(hk:bits k<=3000000):pH [.tup (ns.map D.int),.int k]=.ok (jQ ns k):=by refine(if_pos ⟨⟨ns,rfl,h⟩,hk⟩).trans ?_;rw[zD]
def TL (h:xy 300 ns)(k:Int):SA (jQ ns k):=by
 have hI:∀ms:List Int,(∀i∈ms,bits i<=400)->SA (.tup (ms.map D.int)):=λms hm=>⟨λi hi=>by obtain⟨j,hj,e⟩:=aAp.mp hi;cases e;exact aAr (hm _ hj) (by decide),aAr (uQ<|yG ms) (by decide)⟩
 have up:∀i∈ns,bits i<=400:=λi hi=>aAr (h.2 i hi) (by decide);unfold jQ;dsimp only;by_cases hw:k.fmod 11<3
 ·rw[if_pos hw];have ht:=(qC k hw).2.2;refine hI _ λi hi=>?_;rcases aAH.mp hi with hi|hi
  ·rcases aAH.mp hi with hi|hi
   ·exact up i (aCN hi)
   ·obtain⟨j,hj,rfl⟩:=aAp.mp hi;exact aAr (bits_mul (h.2 j (aCs<|aCN hj)) ht) (by decide)
  ·exact up i (aCs hi)
 ·rw[if_neg hw];have all:∀d∈fU ns,SA d:=λd hd=>by
   simp only[fU,aAe,aAw,or_false]at hd;rcases hd with rfl|rfl|rfl|rfl|rfl|rfl|rfl|rfl
   ·refine hI _ λi hi=>?_;rcases aAH.mp hi with hi|hi
    ·exact up i hi
    ·rw[aBb.mp hi];decide
   ·exact hI _ λi hi=>up i (aCN hi)
   ·trivial
   ·refine⟨λi hi=>?_,aAr (uQ (k:=0) λd hd=>?_) (by decide)⟩
    ·rcases aAH.mp hi with hi|hi
     ·simp only[aAe,aAw,or_false,D.int.injEq,reduceCtorEq,false_or]at hi;rcases hi with rfl|rfl|rfl|rfl|rfl|rfl|rfl|rfl<;>decide
     ·obtain⟨j,hj,e⟩:=aAp.mp hi;cases e;exact aAr (up _<|aCs hj) (by decide)
    ·rcases aAH.mp hd with hd|hd
     ·simp only[aAe,aAw,or_false]at hd;rcases hd with rfl|rfl|rfl|rfl|rfl|rfl|rfl|rfl|rfl<;>simp[G9]
     ·exact yG _ d hd
   ·trivial
   ·trivial
   ·trivial
   ·trivial
  rw[aAo];cases e:(fU ns)[(k.fmod 11-3).toNat]? with
  |none=>trivial
  |some d=>exact all d (aAs e)
def wj (m:G.Mv):List Int:=[m.1.1.x,m.1.1.y,m.1.1.z,m.1.2.1.x,m.1.2.1.y,m.1.2.1.z,m.1.2.2.x,m.1.2.2.y,m.1.2.2.z,m.2.x,m.2.y,m.2.z]
def YG (m:G.Mv):qL m=.tup ((wj m).map D.int):=rfl
def MR (h:TR n m):xy n (wj m):=⟨rfl,λi hi=>by simp only[wj,aAe,aAw,or_false]at hi;obtain⟨⟨⟨a,b,c⟩,⟨d,e,f⟩,g,p,q⟩,r,s,t⟩:=h;rcases hi with rfl|rfl|rfl|rfl|rfl|rfl|rfl|rfl|rfl|rfl|rfl|rfl<;>assumption⟩
def JR (h:Gd 300 m)(k:Int):RA (jQ (wj m) k):=⟨TL (MR h.1) k,KN h.2 k⟩
def cy (h:Gd 300 m):ik (qL m):=⟨LS (h.1.mono (by decide)),NX h⟩
def VV {xs:List D}{f:Int}(hi:Z9 2000000 xs)(hl:xs.length<=5)(hf:bits f<=2000000):∃F:G.Mv,vU [.lst xs,.int f]=.ok (qL F)/\Gd 300 F:=by have e:vU [.lst xs,.int f]=.ok (.tup ((WD (Y1 xs) f).map D.int)):=if_pos ⟨hi,hl,hf⟩;have h12:=(qw xs hl f).2;refine⟨(Y1 xs,⟨f.fmod 41-20,(f.fdiv 41).fmod 2001-1000,(f.fdiv 7).fmod 1000000000000-1000000⟩),e,⟨yA xs hl,h12 _ (by simp[WD]),h12 _ (by simp[WD]),h12 _ (by simp[WD])⟩,II xs⟩
def PN {m:G.Mv}{d e f:Int}(hm:Gd 300 m)(hd:1<=d/\d<10)(he:0<=e/\e<9)(hf:0<=f/\f<9):∃rs:List D,N1 [.lst [.tup [.int 0,.int 0,.int 0],.tup [.int 0,.int 0,.int d],.tup [.int 0,.int 2,.int e],.tup [.int 3,.int f,.int 1]],qL m]=.ok (.lst rs)/\rs.length=4:=by
 obtain⟨pts,ep⟩:∃p:List G.V,p=[⟨0,0,0⟩,⟨0,0,d⟩,⟨0,2,e⟩,⟨3,f,1⟩]:=⟨_,rfl⟩;have hp:∀X,X∈pts↔X=⟨0,0,0⟩\/X=⟨0,0,d⟩\/X=⟨0,2,e⟩\/X=⟨3,f,1⟩:=λX=>by rw[ep];simp
 have hl:pts.length=4:=by rw[ep];rfl
 have nd:pts.Nodup:=by
  rw[ep];simp only[aAM,aAe,aAw,or_false,not_or,G.V.mk.injEq,aCw,not_false_eq_true,and_true]
  lia
 have sz:∀P∈pts,Sz 10 P:=λP hP=>by have go:∀i:Int,0<=i->i<10->bits i<=10:=λi h1 h2=>k9 (n:=10) (by lia) (by lia);rcases(hp P).mp hP with rfl|rfl|rfl|rfl<;>exact⟨go _ (by simp;try lia) (by simp;try lia),go _ (by simp;try lia) (by simp;try lia),go _ (by simp;try lia) (by simp;try lia)⟩
 have h4:∀X,X∈pts.map (G.o8 m)↔X=G.o8 m ⟨0,0,0⟩\/X=G.o8 m ⟨0,0,d⟩\/X=G.o8 m ⟨0,2,e⟩\/X=G.o8 m ⟨3,f,1⟩:=λX=>by rw[ep];simp
 have s9:cS 900 (pts.map<|G.o8 m):=⟨λX hX=>by obtain⟨P,hP,rfl⟩:=aAp.mp hX;exact(UR hm.1 (sz P hP)).mono,by rw[aAm];lia⟩
 have jb:(n4<|pts.map<|G.o8 m).length<=14:=aAr (pR _) (by rw[aAm];lia);have hdet:G.i4 ((⟨0,0,d⟩:G.V)-⟨0,0,0⟩) ((⟨0,2,e⟩:G.V)-⟨0,0,0⟩) ((⟨3,f,1⟩:G.V)-⟨0,0,0⟩)≠0:=by simp[G.i4,G.f8];lia
 have mh:G.i4 (G.o8 m ⟨0,0,d⟩-G.o8 m ⟨0,0,0⟩) (G.o8 m ⟨0,2,e⟩-G.o8 m ⟨0,0,0⟩) (G.o8 m ⟨3,f,1⟩-G.o8 m ⟨0,0,0⟩)≠0:=by
  rw[G.ON];generalize G.i4 ((⟨0,0,d⟩:G.V)-⟨0,0,0⟩) ((⟨0,2,e⟩:G.V)-⟨0,0,0⟩) ((⟨3,f,1⟩:G.V)-⟨0,0,0⟩)=x at*
  rcases hm.2 with h|h<;>rw[h]<;>lia
 obtain⟨b1,b2⟩:=HB s9 h4 mh jb;have b:=GE (m:=m) (pts:=pts) ⟨hm.mono (by decide),⟨λP hP=>(sz P hP).mono,by lia⟩,s9,b1,jb⟩;rw[b2]at b;refine⟨_,by rw[ep]at b;exact b,?_⟩;rw[aAm];have nd':(pts.map<|G.o8 m).Nodup:=by
  have go:∀l:List G.V,l.Nodup->(l.map<|G.o8 m).Nodup:=λl=>by
   induction l with
   |nil=>exactλ_=>aCw
   |cons P l ih=>
    intro h;rw[aAM]at h;rw[aAu,aAM];exact⟨λz=>by obtain⟨Q,hQ,e⟩:=aAp.mp z;rw[G.JV hm.2 e]at hQ;exact h.1 hQ,ih h.2⟩
  exact go pts nd
 have l1:=G.V2 nd' λv hv=>B9.mpr hv;have l2:=pR (pts.map<|G.o8 m);rw[aAm]at l1 l2;rw[hl]at l1 l2;rw[ep]at l1 l2;exact Nat.le_antisymm l2 l1
def uq (v:G.V):RF (vd v) (vd v)=.ok (.bl false):=by simp[RF,G9,K6,V9]
open Classical in
def iT:List D->R D
 |[.lst xs]=>if xs.length<=63/\Z9 1048576 xs then .ok (.bl true)else .bad
 |_=>.bad
end M
namespace K73
open PySem L2 DL M
def cB (i:Nat):Stmt:=PySem.Challenge.pw_stakebodies_k73_no_moves_refused.main.body.getD i (.Pass ⟨0,0,0,0⟩)
abbrev gW:Stmt:=cB 11
abbrev CP:List Str:=["thing"]
def xK:FnScope CP ["thing"] (c6 gW):=D8
abbrev Z0:Stmt:=cB 12
abbrev rF:List Str:=["P", "Q"]
def pT:FnScope rF ["P", "Q"] (c6 Z0):=D8
abbrev V7:Stmt:=cB 13
abbrev nT:List Str:=["u", "v"]
def mV:FnScope nT ["u", "v"] (c6 V7):=D8
abbrev gM:Stmt:=cB 15
abbrev AI:List Str:=["u", "v"]
def xW:FnScope AI ["u", "v"] (c6 gM):=D8
abbrev bM:Stmt:=cB 16
abbrev vC:List Str:=["u", "v"]
def rA:FnScope vC ["u", "v"] (c6 bM):=D8
abbrev P8:Stmt:=cB 17
abbrev kH:List Str:=["numbers", "divisor", "number", "rest", "further"]
def iP:FnScope kH ["numbers"] (c6 P8):=D8
abbrev S1:Stmt:=cB 18
abbrev mW:List Str:=["P", "Q", "R", "cross", "divisor", "upright"]
def lB:FnScope mW ["P", "Q", "R"] (c6 S1):=D8
abbrev kY:Stmt:=cB 19
abbrev HL:List Str:=["plane", "P", "height"]
def AH:FnScope HL ["plane", "P"] (c6 kY):=D8
abbrev P3:Stmt:=cB 22
abbrev lH:List Str:=["ways", "way"]
def iO:FnScope lH ["ways"] (c6 P3):=D8
abbrev D3:Stmt:=cB 23
abbrev N4:List Str:=["points", "ways", "along", "upright"]
def mO:FnScope N4 ["points"] (c6 D3):=D8
abbrev aF:Stmt:=cB 24
abbrev rE:List Str:=["points"]
def oC:FnScope rE ["points"] (c6 aF):=D8
abbrev Y5:Stmt:=cB 25
abbrev mD:List Str:=["plane", "points"]
def vI:FnScope mD ["plane", "points"] (c6 Y5):=D8
abbrev Z8:Stmt:=cB 26
abbrev rB:List Str:=["pair", "points", "along", "upright", "outermost", "P", "way"]
def oO:FnScope rB ["pair", "points"] (c6 Z8):=D8
abbrev bN:Stmt:=cB 27
abbrev vJ:List Str:=["points", "least", "upward", "touched"]
def rD:FnScope vJ ["points"] (c6 bN):=D8
abbrev kX:Stmt:=cB 28
abbrev HD:List Str:=["upright", "P", "Q", "R"]
def CV:FnScope HD ["upright", "P", "Q", "R"] (c6 kX):=D8
abbrev bS:Stmt:=cB 29
abbrev vD:List Str:=["upright", "points", "chain", "P"]
def qN:FnScope vD ["upright", "points"] (c6 bS):=D8
abbrev lO:Stmt:=cB 30
abbrev HH:List Str:=["upright", "points", "there", "back"]
def AY:FnScope HH ["upright", "points"] (c6 lO):=D8
abbrev Z5:Stmt:=cB 31
abbrev qJ:List Str:=["ring"]
def qD:FnScope qJ ["ring"] (c6 Z5):=D8
abbrev bA:Stmt:=cB 32
abbrev uT:List Str:=["first", "about", "touched_by", "faces", "walked", "waiting", "pair", "plane", "ring", "step"]
def fS:FnScope uT ["first", "about", "touched_by"] (c6 bA):=D8
abbrev L8:Stmt:=cB 33
abbrev fY:List Str:=["points", "spread", "about", "touched_by"]
def mG:FnScope fY ["points"] (c6 L8):=D8
abbrev bL:Stmt:=cB 34
abbrev wF:List Str:=["faces", "corners", "plane", "ring"]
def qP:FnScope wF ["faces"] (c6 bL):=D8
abbrev kG:Stmt:=cB 35
abbrev IE:List Str:=["points"]
def AD:FnScope IE ["points"] (c6 kG):=D8
abbrev kO:Stmt:=cB 37
abbrev GC:List Str:=["move"]
def DE:FnScope GC ["move"] (c6 kO):=D8
abbrev gI:Stmt:=cB 39
abbrev BM:List Str:=["rows", "u"]
def wQ:FnScope BM ["rows", "u"] (c6 gI):=D8
abbrev bV:Stmt:=cB 41
abbrev vF:List Str:=["rows"]
def qW:FnScope vF ["rows"] (c6 bV):=D8
abbrev eT:Stmt:=cB 42
abbrev tE:List Str:=["thing"]
def DF:FnScope tE ["thing"] (c6 eT):=D8
abbrev K3:Stmt:=cB 43
abbrev lA:List Str:=["thing"]
def N7:FnScope lA ["thing"] (c6 K3):=D8
abbrev aK:Stmt:=cB 44
abbrev qR:List Str:=["P", "move"]
def pL:FnScope qR ["P", "move"] (c6 aK):=D8
abbrev nA:Stmt:=cB 45
abbrev UE:List Str:=["P", "move"]
def pE:FnScope UE ["P", "move"] (c6 nA):=D8
abbrev oZ:Stmt:=cB 46
abbrev PV:List Str:=["first", "second", "columns", "rows"]
def sK:FnScope PV ["first", "second"] (c6 oZ):=D8
abbrev fX:Stmt:=cB 47
abbrev CK:List Str:=["move", "rows", "columns", "back"]
def lS:FnScope CK ["move"] (c6 fX):=D8
abbrev N6:Stmt:=cB 48
abbrev iU:List Str:=["land", "move"]
def Z6:FnScope iU ["land", "move"] (c6 N6):=D8
abbrev dG:Stmt:=cB 50
abbrev xG:List Str:=["script", "k"]
def wC:FnScope xG ["script", "k"] (c6 dG):=D8
abbrev Q5:Stmt:=cB 51
abbrev cT:List Str:=["cells", "rows", "cell", "i", "j", "times_v", "kept"]
def vT:FnScope cT ["cells"] (c6 Q5):=D8
abbrev cV:Stmt:=cB 52
abbrev xX:List Str:=["cells", "far", "rows", "off"]
def vK:FnScope xX ["cells", "far"] (c6 cV):=D8
abbrev Y8:Stmt:=cB 53
abbrev lR:List Str:=["move", "cell", "way", "row", "times_v", "truth", "some"]
def wJ:FnScope lR ["move", "cell"] (c6 Y8):=D8
abbrev bK:Stmt:=cB 54
abbrev uJ:List Str:=["way", "thing", "move", "P", "land"]
def fR:FnScope uJ ["way", "thing", "move", "P", "land"] (c6 bK):=D8
abbrev W0:Stmt:=cB 55
abbrev pC:List Str:=["way", "thing", "move", "P", "land", "kinds", "e"]
def mJ:FnScope pC ["way", "thing", "move", "P", "land"] (c6 W0):=D8
abbrev fN:Stmt:=cB 56
abbrev VZ:List Str:=["script", "k", "cells", "move", "P", "land", "where", "thing", "way"]
def NT:FnScope VZ ["script"] (c6 fN):=D8
def dM:Stmt:=(q8 L8).getD 2 (.Pass ⟨0,0,0,0⟩)
abbrev EU:Str:= "faces_of.<locals>.about"
def K8:Stmt:=(q8 L8).getD 3 (.Pass ⟨0,0,0,0⟩)
abbrev jR:Str:= "faces_of.<locals>.touched_by"
def tbK:List (Pos×Str):=[(EN dM,EU),(EN K8,jR)]
section
variable [Tabs]
variable{P:Program} {w:World} {K:PySem.W.Frag} {mg:Y0} {base:Heap}
variable{af jf br df ae dg dh gu bu:Addr}
def gP (ag:mg "isinstance"=none)(ye:mg "bool"=none)(b_int:mg "int"=none)(g:aL K mg "is_whole" gW):u4 P w K mg base 1 "is_whole" 1 R6:=by
 refine' m6 (k:=0) (F:=_) g xK (λhr hu fu nd=>?b) λds d hl h=>?_
 case b=>refine' (d5<|j2<|QH (zZ SK<|b9 0)<|LY<|ZE<|zZ KL<|b9 0)
 match ds,h with
 |[x],h=>rw[<-h];cases x<;>rfl
def o9 (g:aL K mg "way_between" Z0):u4 P w K mg base 1 "way_between" 2 v9:=by
 refine' m6 (k:=0) (F:=_) g pT (λhr hu fu nd=>?b) λds d hl h=>?_
 case b=>refine' (d5<|j2<|JJ (d8 L9 (PD.pb<|i5 (b9 1) d4)<|PD.pb<|i5 (b9 0) d4) (d8 L9 (PD.pb<|i5 (b9 1) d4)<|PD.pb<|i5 (b9 0) d4)<|d8 L9 (PD.pb<|i5 (b9 1) d4)<|PD.pb<|i5 (b9 0) d4)
 replace h:=K5 h;obtain⟨a,b,c,ds,rfl,h⟩:=h;replace h:=K5 h;obtain⟨a',b',c',ds,rfl,h⟩:=h;replace h:=C6 h;obtain⟨rfl,h⟩:=h;exact h
def W5 (g:aL K mg "put_together" V7):u4 P w K mg base 1 "put_together" 2 N2:=by
 refine' m6 (k:=0) (F:=_) g mV (λhr hu fu nd=>?b) λds d hl h=>?_
 case b=>refine' (d5<|j2<|JJ (d8 t5 (PD.pb<|i5 (b9 0) d4)<|PD.pb<|i5 (b9 1) d4) (d8 t5 (PD.pb<|i5 (b9 0) d4)<|PD.pb<|i5 (b9 1) d4)<|d8 t5 (PD.pb<|i5 (b9 0) d4)<|PD.pb<|i5 (b9 1) d4)
 replace h:=K5 h;obtain⟨a,b,c,ds,rfl,h⟩:=h;replace h:=K5 h;obtain⟨d,e,f,ds,rfl,h⟩:=h;replace h:=C6 h;obtain⟨rfl,h⟩:=h;rw[<-h];simp[i3]
def A7 (g:aL K mg "cross_of" gM):u4 P w K mg base 1 "cross_of" 2 B8:=by
 refine' m6 (k:=0) (F:=_) g xW (λhr hu fu nd=>?b) λds d hl h=>?_
 case b=>refine' (d5<|j2<|JJ (d8 L9 (PD.pb<|d8 E6 (PD.pb<|i5 (b9 0) d4)<|PD.pb<|i5 (b9 1) d4)<|PD.pb<|d8 E6 (PD.pb<|i5 (b9 0) d4)<|PD.pb<|i5 (b9 1) d4) (d8 L9 (PD.pb<|d8 E6 (PD.pb<|i5 (b9 0) d4)<|PD.pb<|i5 (b9 1) d4)<|PD.pb<|d8 E6 (PD.pb<|i5 (b9 0) d4)<|PD.pb<|i5 (b9 1) d4)<|d8 L9 (PD.pb<|d8 E6 (PD.pb<|i5 (b9 0) d4)<|PD.pb<|i5 (b9 1) d4)<|PD.pb<|d8 E6 (PD.pb<|i5 (b9 0) d4)<|PD.pb<|i5 (b9 1) d4)
 replace h:=K5 h;obtain⟨a,b,c,ds,rfl,h⟩:=h;replace h:=K5 h;obtain⟨a',b',c',ds,rfl,h⟩:=h;replace h:=C6 h;obtain⟨rfl,h⟩:=h;split at h
 ·rename_i hz;obtain⟨⟨h1,h2,h3⟩,h4,h5,h6⟩:=hz;rw[<-h];simp[i3,o6 (A3.of h2 h6),o6 (A3.of h3 h5),o6 (A3.of h3 h4),o6 (A3.of h1 h6),o6 (A3.of h1 h5),o6 (A3.of h2 h4)]
 ·cases h
def n8 (g:aL K mg "product_of" bM):u4 P w K mg base 1 "product_of" 2 t6:=by
 refine' m6 (k:=0) (F:=_) g rA (λhr hu fu nd=>?b) λds d hl h=>?_
 case b=>refine' (d5<|j2<|d8 t5 (PD.pb<|d8 t5 (PD.pb<|d8 E6 (PD.pb<|i5 (b9 0) d4)<|PD.pb<|i5 (b9 1) d4)<|PD.pb<|d8 E6 (PD.pb<|i5 (b9 0) d4)<|PD.pb<|i5 (b9 1) d4)<|PD.pb<|d8 E6 (PD.pb<|i5 (b9 0) d4)<|PD.pb<|i5 (b9 1) d4)
 replace h:=kz h;obtain⟨a,b,c,t,ds,rfl,h⟩:=h;replace h:=K5 h;obtain⟨a',b',c',ds,rfl,h⟩:=h;replace h:=C6 h;obtain⟨rfl,h⟩:=h;split at h
 ·rename_i hz;obtain⟨⟨h1,h2,h3⟩,h4,h5,h6⟩:=hz;rw[<-h];simp[i3,jz,yy,jk,o6 (A3.of h1 h4),o6 (A3.of h2 h5),o6 (A3.of h3 h6)]
 ·cases h
def P1 (uf:mg "abs"=none)(g:aL K mg "common_divisor" P8):u4 P w K mg base 1 "common_divisor" 1 D1:=by
 refine' m6 (k:=0) (F:=_) g iP (λhr hu fu nd=>?b) λds d hl h=>?_
 case b=>
  refine' (c7 (j3 1 d4 nd)
   (c7 (U6 aBy rfl (uU<|c9 0) (F6 2 nd) (c7 (j3 3 (NP QS<|b9 2) nd)
   (d5 (lE (xx 3) aBy (j9 (rW hu) (b9 3) A9) (c7 (j3 4 (d8 B0 (b9 1)<|b9 3) nd)
   (c7 (j3 1 (c9 3) nd)
   (d5<|j3 3 (c9 4) nd)))))))
   (d5<|j2<|c9 1)))
 match ds,h with
 |[.tup [.int a,.int b,.int c]],h=>
  rw[<-h];simp only[i3,aAu,aDR,aBo,aDm,D1];simp only[fQ,AA,R.aa0,GS,C5,aAv,aBO,aFV,aFW,aBh,aEv,aCI,aCJ];refine jS (λrest ρ=>∃(g:Nat) (n r f:Sl),ρ=[.v (.tup [.int a,.int b,.int c]),.v (.int g),n,r,f]/\∃ns:List Int,rest=ns.map D.int/\ns.foldl (λg n=>Nat.gcd g n.natAbs) g=G.y7 ⟨a,b,c⟩) ?_ ⟨0,_,_,_,rfl,[a,b,c],rfl,by simp[G.y7]⟩ ?_
  ·rintro d ds ρ ⟨g,n,r,f,rfl,ns,e1,e2⟩;match ns,e1,e2 with
   |x::ns,e1,e2=>
    injection e1 with e3 e4;subst e3 e4;simp only[bZ,aCI,aCJ,jN,nG,xH,NY,R.aa0,ZT,C5];have ea:(if x<0 then-x else x)=(x.natAbs:Int):=by split<;>lia
    rw[ea];refine xI (λm ρ=>∃(p q:Nat) (f:Sl),ρ=[.v (.tup [.int a,.int b,.int c]),.v (.int p),.v (.int x),.v (.int q),f]/\q<m/\Nat.gcd p q=Nat.gcd g x.natAbs) ?_ (by rintro ρ ⟨p,q,f,_,h,_⟩;lia) ⟨g,x.natAbs,f,rfl,by show x.natAbs<((x.natAbs:Int).natAbs)+2;lia,rfl⟩ ?_
    ·rintro m ρ ⟨p,q,f,rfl,hq,hg⟩;by_cases h0:(q:Int)=0
     ·exact .inl (by simp[h0])
     ·have h1:q≠0:=by lia
      refine .inr ⟨by simp[h1],_,?_,q,p%q,Sl.v (.int ((p%q:Nat):Int)),rfl,?_,?_⟩
      ·have em:U8 (.int (p:Int)) (.int (q:Int))=.ok (.int ((p%q:Nat):Int)):=by rw[xA h0,aEB _ (by lia)];rfl
       simp[em]
      ·have:=aEU p (show 0<q by lia)
       lia
      ·rw[Nat.gcd_comm,<-Nat.gcd_rec,Nat.gcd_comm];exact hg
    ·rintro m ρ ⟨p,q,f,rfl,hq,hg⟩ hc;have h0:q=0:=by
      by_cases z:q=0
      ·exact z
      ·simp[z]at hc
     subst h0;refine⟨p,_,_,_,rfl,ns,rfl,?_⟩;rw[<-e2,aEn,<-hg,Nat.gcd_zero_right]
  ·rintro ρ ⟨g,n,r,f,rfl,ns,e1,e2⟩;have:ns=[]:=by simpa using e1.symm
   subst this;simp at e2;simp[e2]
def S8 (A7:u4 P w K mg base 1 "cross_of" 2 B8)(o9:u4 P w K mg base 1 "way_between" 2 v9)(P1:u4 P w K mg base 1 "common_divisor" 1 D1)(n8:u4 P w K mg base 1 "product_of" 2 t6)(g:aL K mg "plane_through" S1):u4 P w K mg base 2 "plane_through" 3 S4:=by
 refine' m6 (k:=1) (F:=_) g lB (λhr hu fu nd=>?b) λds d hl h=>?_
 case b=>
  refine' (c7 (j3 3 (cH A7 hr (cH o9 hr (c9 0)<|c9 1)<|cH o9 hr (c9 0)<|c9 2) nd)
   (c7 (j3 4 (qU P1 hr<|c9 3) nd)
   (c7 (w6 (j9 (M8 hu) (b9 4) A9) (d5 M1) n6)
   (c7 (j3 5 (JJ (d8 D7 (PD.pb<|i5 (b9 3) d4)<|b9 4) (d8 D7 (PD.pb<|i5 (b9 3) d4)<|b9 4)<|d8 D7 (PD.pb<|i5 (b9 3) d4)<|b9 4) nd)
   (d5<|j2<|oJ<|c8 (i5 (b9 5) d4)<|c8 (i5 (b9 5) d4)<|c8 (i5 (b9 5) d4)<|c8 (cH n8 hr (c9 5)<|c9 0) j5)))))
 replace h:=K5 h;obtain⟨a,b,c,ds,rfl,h⟩:=h;replace h:=K5 h;obtain⟨d,e,f,ds,rfl,h⟩:=h;replace h:=K5 h;obtain⟨g,h',i,ds,rfl,h⟩:=h;replace h:=C6 h;obtain⟨rfl,h⟩:=h
 ·skip
  split at h
  ·rename_i hz;obtain⟨⟨p,q,r⟩,hc⟩:=hz;rw[<-h];obtain⟨P,eP⟩:∃P:G.V,P=⟨a,b,c⟩:=⟨_,rfl⟩;obtain⟨Q,eQ⟩:∃P:G.V,P=⟨d,e,f⟩:=⟨_,rfl⟩;obtain⟨R',eR⟩:∃P:G.V,P=⟨g,h',i⟩:=⟨_,rfl⟩;rw[<-eP]at p hc;rw[<-eQ]at q hc;rw[<-eR]at r hc;have vP:(.tup [.int a,.int b,.int c]:D)=vd P:=by rw[eP]
   have vQ:(.tup [.int d,.int e,.int f]:D)=vd Q:=by rw[eQ]
   have vR:(.tup [.int g,.int h',.int i]:D)=vd R':=by rw[eR]
   rw[vP,vQ,vR,<-eP,<-eQ,<-eR];have sc:=(q.sub p).cr (r.sub p);have c1:=dJ (u:=Q-P) (v:=R'-P) (q.sub p).mono (r.sub p).mono;obtain⟨g0,g1,g2⟩:=G.kI hc;have gne:((G.y7 (G.cr (Q-P)<|R'-P):Nat):Int)≠0:=by lia
   have gb:zR ((G.y7 (G.cr (Q-P)<|R'-P):Nat):Int):=⟨gne,B5 (GZ sc)⟩;have dv:=BJ (G.cr (Q-P)<|R'-P);have pl:G.j6 P Q R'=(G.lF (G.cr (Q-P)<|R'-P) (G.y7<|G.cr (Q-P)<|R'-P),G.f8 (G.lF (G.cr (Q-P)<|R'-P)<|G.y7<|G.cr (Q-P)<|R'-P) P):=rfl;rw[pl];generalize hC:G.cr (Q-P) (R'-P)=C at*
   have sn:Sz 2003 (G.lF C<|G.y7 C):=by have f1:=bits_fdiv (b:=(G.y7 C:Int)) sc.1;have f2:=bits_fdiv (b:=(G.y7 C:Int)) sc.2.1;have f3:=bits_fdiv (b:=(G.y7 C:Int)) sc.2.2;rw[oK g0]at f1 f2 f3;exact⟨f1,f2,f3⟩
   have d1:∀t:Int,X3 (.int t) (.int (G.y7 C:Nat))=.ok (.int (t/(G.y7 C:Nat))):=λt=>by rw[tL gb,oK g0]
   have p2:=Y2 (u:=G.lF C (G.y7 C)) (v:=P) sn.mono p.mono;have e0:(((G.y7 C:Nat):Int)==0)=false:=by simpa using gne
   simp only[G.lF]at p2;have p2':t6 [.tup [.int (C.x/(G.y7 C:Nat)),.int (C.y/(G.y7 C:Nat)),.int (C.z/(G.y7 C:Nat))],vd P]=_:=p2;simp[i3,c1,dv,e0,d1,p2',G.lF]
  ·cases h
def kR (g:aL K mg "side_of" kY):u4 P w K mg base 1 "side_of" 2 aV:=by
 refine' m6 (k:=0) (F:=_) g AH (λhr hu fu nd=>?b) λds d hl h=>?_
 case b=>
  refine' (c7 (j3 2 (d8 L9 (PD.pb<|d8 t5 (PD.pb<|d8 t5 (PD.pb<|d8 E6 (PD.pb<|i5 (b9 0) d4)<|PD.pb<|i5 (b9 1) d4)<|PD.pb<|d8 E6 (PD.pb<|i5 (b9 0) d4)<|PD.pb<|i5 (b9 1) d4)<|PD.pb<|d8 E6 (PD.pb<|i5 (b9 0) d4)<|PD.pb<|i5 (b9 1) d4)<|PD.pb<|i5 (b9 0) d4) nd)
   (c7 (w6 (j9 FM (b9 2) A9) (d5<|j2 d4) n6)
   (c7 (w6 (j9 xT (b9 2) A9) (d5<|j2<|gO d4) n6)
   (d5<|j2 d4))))
 replace h:=WY h;obtain⟨a,b,c,d,ds,rfl,h⟩:=h;replace h:=K5 h;obtain⟨x,y,z,ds,rfl,h⟩:=h;replace h:=C6 h;obtain⟨rfl,h⟩:=h
 ·skip
  split at h
  ·rename_i hz;obtain⟨⟨h1,h2,h3⟩,h4,h5,h6⟩:=hz;rw[<-h];obtain⟨t,et⟩:∃t,a*x+b*y+c*z-d=t:=⟨_,rfl⟩;have e0:KI (.int (a*x+b*y+c*z)) (.int d)=.ok (.int t):=by rw[<-et];rfl
   rw[et];unfold sgn;by_cases p:0<t
   ·simp[-uA,i3,o6 (A3.of h1 h4),o6 (A3.of h2 h5),o6 (A3.of h3 h6),p,e0]
   ·by_cases n:t<0
    ·simp[-uA,i3,o6 (A3.of h1 h4),o6 (A3.of h2 h5),o6 (A3.of h3 h6),p,n,e0]
    ·simp[-uA,i3,o6 (A3.of h1 h4),o6 (A3.of h2 h5),o6 (A3.of h3 h6),p,n,e0]
  ·cases h
def K1 (dn:MD K mg "NO_WAY" [0,0,0])(g:aL K mg "first_real_way" P3):u4 P w K mg base 1 "first_real_way" 1 A4:=by
 refine' m6 (k:=0) (F:=_) g iO (λhr hu fu nd=>?b) λds d hl h=>?_
 case b=>
  refine' (c7 (U6 aBy rfl (F3<|c9 0) (F6 1 nd)<|d5<|w6 (j9 (rW hu) (b9 1)<|PD.pb<|wH dn) (d5<|j2<|c9 1) n6)
   (d5<|j2 uL))
 match ds,h with
 |[.lst xs],h=>
  simp only[A4]at h;split at h
  ·rename_i ws hw;rw[t7 hw];rw[<-h];simp[i3];generalize Sl.v (D.lst<|aCY vd ws)=a;generalize Sl.no=b;clear h hw;induction ws generalizing b with
   |nil=>rfl
   |cons v ws ih=>
    rw[aAu,G.B1];by_cases hv:v=0
    ·rw[bE (ρ2:=[a,.v (vd v)]) rfl (by simp[-CG,ne0,hv]),ih];simp[hv]
    ·rw[uW (x:=vd v) rfl (by simp[-CG,ne0,hv])];simp[hv,AG]
  ·cases h
def J1 (o9:u4 P w K mg base 1 "way_between" 2 v9)(K1:u4 P w K mg base 1 "first_real_way" 1 A4)(A7:u4 P w K mg base 1 "cross_of" 2 B8)(n8:u4 P w K mg base 1 "product_of" 2 t6)(ia:mg "len"=none)(b_any:mg "any"=none)(g:aL K mg "dimension_of" D3):u4 P w K mg base 2 "dimension_of" 1 D2:=by
 refine' m6 (k:=1) (F:=_) g mO (λhr hu fu nd=>?b) λds d hl h=>?_
 case b=>
  refine' (c7 (w6 (j9 (M8 hu) (PD.pb<|NP gZ<|b9 0) A9) (d5 M1) n6)
   (c7 (xU 1 ["P"] ["points"] [0] nd rfl (aJ (sc:=c6 D3) (N:=N4)) (F3<|c9 0) (RB λ_ _ _ _ _=>(cH o9 hr (i5 (b9 1) d4)<|c9 0))<|λ_=>C1)
   (c7 (j3 2 (qU K1 hr<|c9 1) nd)
   (c7 (w6 (j9 MN (b9 2)<|PD.pb uL) (d5<|j2 d4) n6)
   (c7 (j3 3 (qU K1 hr<|bU ["way"] ["along"] [2] rfl (aJ (sc:=c6 D3) (N:=N4)) (F3<|c9 1) (RB λ_ _ _ _ _=>(cH A7 hr (c9 1)<|c9 0))<|λ_=>C1) nd)
   (c7 (w6 (j9 MN (b9 3)<|PD.pb uL) (d5<|j2 d4) n6)
   (c7 (w6 (jH<|NP (YE rfl)<|PD.pb<|bU ["way"] ["upright"] [3] rfl (aJ (sc:=c6 D3) (N:=N4)) (F3<|c9 1) (RB λ_ _ _ _ _=>(BF (rW hu) (PD.pb<|cH n8 hr (c9 1)<|c9 0) A9))<|λ_=>C1) (d5<|j2 d4) n6)
   (d5<|j2 d4))))))))
 match ds,h with
 |[.lst xs],h=>
  simp only[D2]at h;split at h
  ·rename_i pts hw;rw[t7 hw];split at h
   ·rename_i hz;rw[<-h];obtain⟨bc,hs⟩:=hz;match pts,bc with
    |p::ps,_=>
    obtain⟨uo,hxs⟩:∃uo,(p::ps).map vd=uo:=⟨_,rfl⟩;have i0:O5 (.lst uo) (.int 0)=.ok (vd p):=jP (by rw[dS (by decide),<-hxs];rfl);have c1:v8 (λd ρ=>R.ok (aDh ρ 0<|Sl.v d)) (λx=>R.ok true) (λρ=>(((wG 1 ρ).bind λx=>O5 x (D.int 0)).bind λd=>((cI 0 ρ).bind λd=>R.ok [d]).bind λds=>R.ok (d::ds)).bind v9) [.no,.v (.lst uo)] uo=.ok (((p::ps).map (· -p)).map vd):=by rw[aBx];rw[show v8 _ _ _ _ uo=v8 _ _ _ _ ((p::ps).map vd)by rw[hxs]];refine fE vd _ _ λq hq=>⟨[.v (vd q),Sl.v (.lst uo)],rfl,?_⟩;show((O5 (.lst uo)<|.int 0).bind _).bind _=_;rw[i0];rfl
    have hw:∀w∈(p::ps).map (· -p),Sz 1001 w:=λw hw=>by obtain⟨q,hq,rfl⟩:=aAp.mp hw;exact(hs.1 q hq).sub (hs.1 p (.head _))
    have um:(((p::ps).map (· -p)).map vd).length<=sizeLine:=by rw[aAm,aAm];exact small hs.2
    have bh:uo.length<=sizeLine:=by rw[<-hxs,aAm];exact small hs.2
    have hl0:((uo.length:Int)==0)=false:=by rw[<-hxs];simp;lia
    have f1:=BR ((p::ps).map (· -p));unfold G.U9;dsimp only;rw[hxs];generalize(p::ps).map (· -p)=W at*
    have f2:=λu=>BR (W.map<|G.cr u);cases ha:G.B1 W with
    |none=>rw[ha]at f1;simp[i3,j1,bh,hl0,c1,f1,AG,OA]
    |some al=>
     rw[ha]at f1;obtain⟨hm,_⟩:=G.u0 ha;have sal:=hw al hm;have c2:v8 (λd ρ=>R.ok (aDh ρ 0<|Sl.v d)) (λx=>R.ok true) (λρ=>((cI 1 ρ).bind λd=>((cI 0 ρ).bind λd=>R.ok [d]).bind λds=>R.ok (d::ds)).bind B8) [.no,.v (vd al)] (W.map vd)=.ok ((W.map<|G.cr al).map vd):=by rw[aBx];refine fE vd _ _ λq hq=>⟨[.v (vd q),Sl.v (vd al)],rfl,?_⟩;show B8 [vd al,vd q]=_;exact dJ sal.mono (hw q hq).mono
     have f2:=BR (W.map<|G.cr al);have eW:(W.map vd).length=W.length:=aAm ..;rw[eW]at um;cases hb:G.B1 (W.map<|G.cr al)with
     |none=>rw[hb]at f2;simp only[aBx]at c2 f2;simp only[hb];simp[i3,j1,bh,hl0,c1,f1,AG,OA,um,c2,f2]
     |some up=>
      rw[hb]at f2;obtain⟨md,_⟩:=G.u0 hb;have sup:Sz 2003 up:=by obtain⟨q,hq,rfl⟩:=aAp.mp md;exact(sal.cr<|hw q hq).mono
      have c3:v8 (λd ρ=>R.ok (aDh ρ 0<|Sl.v d)) (λx=>R.ok true) (λρ=>(((cI 1 ρ).bind λd=>((cI 0 ρ).bind λd=>R.ok [d]).bind λds=>R.ok (d::ds)).bind t6).bind λx=>RF x (D.int 0)) [.no,.v (vd up)] (W.map vd)=.ok ((W.map λw=>decide (G.f8 up w≠0)).map D.bl):=by rw[aBx];refine fE vd _ _ λq hq=>⟨[.v (vd q),Sl.v (vd up)],rfl,?_⟩;show(t6 [vd up,vd q]).bind _=_;rw[Y2 sup.mono (hw q hq).mono,R.aa0,YQ];congr 2;rw[aCR];simp
      have f3:=ZK (W.map λw=>decide (G.f8 up w≠0));have ean:(W.map λw=>decide (G.f8 up w≠0)).any id=W.any λw=>decide (G.f8 up w≠0):=by rw[List.any_map];rfl
      rw[ean]at f3;simp only[aBx]at c2 f2 c3 f3;simp only[hb];generalize(λw=>decide (G.f8 up w≠0))=Bf at*
      cases hc:W.any Bf with
      |false=>rw[hc]at f3;simp[i3,j1,bh,hl0,c1,f1,AG,OA,um,c2,f2,c3,f3]
      |true=>rw[hc]at f3;simp[i3,j1,bh,hl0,c1,f1,AG,OA,um,c2,f2,c3,f3]
   ·cases h
  ·cases h
def Z2 (J1:u4 P w K mg base 2 "dimension_of" 1 D2)(g:aL K mg "refuse_flat" aF):u4 P w K mg base 3 "refuse_flat" 1 G0:=by
 refine' m6 (k:=2) (F:=_) g oC (λhr hu fu nd=>?b) λds d hl h=>?_
 case b=>refine' (d5<|w6 (j9 xT (PD.pb<|qU J1 hr<|c9 0) A9) (d5 M1) n6)
 match ds,h with
 |[.lst xs],h=>
  simp only[G0]at h;split at h
  ·rename_i pts hw;rw[t7 hw];split at h
   ·rename_i hz;rw[<-h];obtain⟨hs,h3⟩:=hz;have bc:pts≠[]:=λe=>by subst e;cases h3
    have e:=ML bc hs;rw[h3]at e;simp[i3,e]
   ·cases h
  ·cases h
def J4 (kR:u4 P w K mg base 1 "side_of" 2 aV)(g:aL K mg "points_on" Y5):u4 P w K mg base 2 "points_on" 2 y9:=by
 refine' m6 (k:=1) (F:=_) g vI (λhr hu fu nd=>?b) λds d hl h=>?_
 case b=>refine' (d5<|j2<|bU ["P"] ["plane"] [0] rfl (aJ (sc:=c6 Y5) (N:=mD)) (F3<|c9 1) (hxt λ_ _ _ _ _=>⟨(j9 (M8 hu) (PD.pb<|cH kR hr (c9 1)<|c9 0) A9),(c9 0)⟩)<|λ_=>C1)
 replace h:=WY h;obtain⟨a,b,c,d,ds,rfl,h⟩:=h;replace h:=dR h;obtain⟨xs,ds,rfl,h⟩:=h;replace h:=C6 h;obtain⟨rfl,h⟩:=h
 ·skip
  split at h
  ·rename_i pts hw;rw[t7 hw];split at h
   ·rename_i hz;rw[<-h];have e:=V3 vd (G:=λd ρ=>R.ok (aDh ρ 0<|Sl.v d)) (ft:=λρ=>((((cI 1 ρ).bind λd=>((cI 0 ρ).bind λd=>R.ok [d]).bind λds=>R.ok (d::ds)).bind aV).bind λx=>WT x (D.int 0)).bind HM) (fe:=cI 0) (ρ:=[.no,.v (.tup [D.int a,D.int b,D.int c,D.int d])])
     (λX=>decide (G.f8 ⟨a,b,c⟩ X=d)) vd pts λP hP=>⟨[.v (vd P),Sl.v (D.tup [D.int a,D.int b,D.int c,D.int d])],rfl,by simp[SQ hz.1.mono (hz.2.1 P hP).mono,a1j,G.f8];exact decide_eq_decide.mpr (by lia),λ_=>rfl⟩
    simp[i3,j1,small hz.2.2,e];rfl
   ·cases h
  ·cases h
def L4 (o9:u4 P w K mg base 1 "way_between" 2 v9)(n8:u4 P w K mg base 1 "product_of" 2 t6)(A7:u4 P w K mg base 1 "cross_of" 2 B8)(S8:u4 P w K mg base 2 "plane_through" 3 S4)(dn:MD K mg "NO_WAY" [0,0,0])(g:aL K mg "plane_about" Z8):u4 P w K mg base 3 "plane_about" 2 F8:=by
 refine' m6 (k:=2) (F:=_) g oO (λhr hu fu nd=>?b) λds d hl h=>?_
 case b=>
  refine' (c7 (j3 2 (cH o9 hr (i5 (b9 0) d4)<|i5 (b9 0) d4) nd)
   (c7 (j3 3 (wH dn) nd)
   (c7 (j3 4 (i5 (b9 0) d4) nd)
   (c7 (U6 aBy rfl (F3<|c9 1) (F6 5 nd) (c7 (j3 6 (cH o9 hr (i5 (b9 0) d4)<|c9 5) nd)
   (d5 (w6 (JN.pt<|BS (j9 (M8 hu) (b9 3)<|PD.pb<|wH dn)<|wE<|j9 FM (PD.pb<|cH n8 hr (c9 3)<|c9 6) A9) (c7 (j3 3 (cH A7 hr (c9 2)<|c9 6) nd)
   (d5<|j3 4 (c9 5) nd)) n6))))
   (d5<|j2<|pc3 S8 hr (i5 (b9 0) d4) (i5 (b9 0) d4)<|c9 4)))))
 replace h:=NF h;obtain⟨ys,ds,rfl,h⟩:=h;replace h:=dR h;obtain⟨xs,ds,rfl,h⟩:=h;replace h:=C6 h;obtain⟨rfl,h⟩:=h;replace h:=K5 h;obtain⟨a,b,c,ys,rfl,h⟩:=h;replace h:=K5 h;obtain⟨d,e,f,ys,rfl,h⟩:=h;replace h:=C6 h;obtain⟨rfl,h⟩:=h
 ·skip
  split at h
  ·rename_i pts hw;rw[t7 hw];split at h
   ·rename_i hz;rw[<-h];obtain⟨sA,sB,hs,hp⟩:=hz;have vA:(.tup [.int a,.int b,.int c]:D)=vd ⟨a,b,c⟩:=rfl;have vB:(.tup [.int d,.int e,.int f]:D)=vd ⟨d,e,f⟩:=rfl;rw[vA,vB];generalize(⟨a,b,c⟩:G.V)=A at*
    generalize(⟨d,e,f⟩:G.V)=B at*
    simp[i3];have z0:(.tup [.int 0,.int 0,.int 0]:D)=vd 0:=rfl;rw[z0];refine jS (λrest ρ=>∃(up out:G.V) (qs:List G.V) (x y:Sl),ρ=[.v (.tup [vd A,vd B]),.v (.lst (aCY vd pts)),.v (vd<|B-A),.v (vd up),.v (vd out),x,y]/\rest=qs.map vd/\Sz 2003 up/\Sz 1000 out/\(∀X∈qs,Sz 1000 X)/\G.G6 (B-A) A qs up out=G.G6 (B-A) A pts 0 A) ?_ ⟨0,A,pts,_,_,rfl,rfl,⟨by decide,by decide,by decide⟩,sA,hs.1,rfl⟩ ?_
    ·rintro d ds ρ ⟨up,out,qs,x,y,rfl,e1,su,so,sq,e2⟩;match qs,e1 with
     |P::qs,e1=>
      injection e1 with e3 e4;subst e3 e4;have sP:=sq P (.head _);have sw:=sP.sub sA;have e0:=eq0 up;rw[show(.tup [.int 0,.int 0,.int 0]:D)=vd 0 from rfl]at e0;have c1:=dJ (u:=B-A) (v:=P-A) (sB.sub sA).mono sw.mono;have p1:=Y2 (u:=up) (v:=P-A) su.mono sw.mono;have w1:=ZV A P;have i0:O5 (.tup [vd A,vd B]) (.int 0)=.ok (vd A):=rfl
      conv at e2=>lhs;unfold G.G6
      simp only[bZ,aCI,aCJ,xH,NY,lW,fQ,R.aa0,i0,w1,C5,e0,EX,p1,wB];by_cases hu0:up=0
      ·rw[if_pos (.inl hu0)]at e2;refine⟨_,?_,G.cr (B-A) (P-A),P,qs,.v (vd P),.v (vd<|P-A),rfl,rfl,(((sB.sub sA).cr sw).mono),sP,λX hX=>sq X (.tail _ hX),e2⟩;rw[decide_eq_true hu0];simp only[if_true,R.aa0,c1,C5,aCI,aCJ,lW,fQ]
      ·rw[decide_eq_false hu0];by_cases hd0:0<G.f8 up (P-A)
       ·rw[if_pos (.inr hd0)]at e2;refine⟨_,?_,G.cr (B-A) (P-A),P,qs,.v (vd P),.v (vd<|P-A),rfl,rfl,(((sB.sub sA).cr sw).mono),sP,λX hX=>sq X (.tail _ hX),e2⟩;rw[decide_eq_true hd0];simp only[if_true,aAt,if_false,R.aa0,c1,C5,aCI,aCJ,lW,fQ]
       ·rw[if_neg (λz=>z.elim hu0 hd0)]at e2;refine⟨_,?_,up,out,qs,.v (vd P),.v (vd<|P-A),rfl,rfl,su,so,λX hX=>sq X (.tail _ hX),e2⟩;rw[decide_eq_false hd0];simp only[aAt,if_false,R.aa0]
    ·rintro ρ ⟨up,out,qs,x,y,rfl,e1,su,so,sq,e2⟩;have:qs=[]:=by simpa using e1.symm
     subst this;have e2:(up,out)=G.G6 (B-A) A pts 0 A:=e2;have eo:(G.G6 (B-A) A pts 0 A).2=out:=by rw[<-e2]
     unfold G.b8 at hp⊢;rw[eo]at hp⊢;have pl:=KQ ⟨sA,sB,so⟩ (SV hp);simp[pl]
   ·cases h
  ·cases h
def cD (J4:u4 P w K mg base 2 "points_on" 2 y9)(L4:u4 P w K mg base 3 "plane_about" 2 F8)(J1:u4 P w K mg base 2 "dimension_of" 1 D2)(ug:mg "min"=none)(g:aL K mg "first_pair" bN):u4 P w K mg base 8 "first_pair" 1 K4:=by
 refine' m6 (k:=7) (F:=_) g rD (λhr hu fu nd=>?b) λds d hl h=>?_
 case b=>
  have hu3:=hr.ae3 (by decide);refine' (c7 (j3 1 (jA (SF rfl hu3)<|u6 (b9 0) K0) nd)
   (c7 (j3 2 (pt2 (c9 1)<|JJ (i5 (b9 1) d4) (i5 (b9 1) d4)<|d8 t5 (PD.pb<|i5 (b9 1) d4) A9) nd)
   (c7 (j3 3 (cH J4 hr (cH L4 hr (c9 2)<|c9 0)<|c9 0) nd)
   (c7 (w6 (j9 (M8 hu) (PD.pb<|qU J1 hr<|c9 3) A9) (d5<|j2<|c9 2) n6)
   (d5<|j2<|pt2 (i5 (b9 3) d4)<|i5 (b9 3) d4)))))
 match ds,h with
 |[.lst xs],h=>
  simp only[K4]at h;split at h
  ·rename_i m pts hw;rw[t7 hw];split at h
   ·rename_i hz;rw[<-h];have hm:=XU hz.good.ord;have s1:cS 1000 (m::pts):=hz.sz.mono;have sm:Sz 900 m:=hz.sz.1 m (.head _);obtain⟨hp,tm,out,to,bc⟩:=G.wW hz.good.solid hz.good.mem hz.good.least;have ab:=X4 sm.mono (QY sm) s1 hp;have asz:=zJ sm.mono (QY sm) s1;rw[oz]at ab;have po:=iW (d:=(G.b8 m (m+G.kk) (m::pts)).2) asz.mono s1;obtain⟨x,y,r,et⟩:=QA tm to bc;have ts:=LX (n:=(G.b8 m (m+G.kk) (m::pts)).1) (d:=(G.b8 m (m+G.kk) (m::pts)).2) s1;have dm:=ML (pts:=G.G5 (G.b8 m (m+G.kk) (m::pts)).1 (G.b8 m (m+G.kk) (m::pts)).2 (m::pts)) (by rw[et];simp) ts;have i0:O5 (.lst ((G.G5 (G.b8 m (m+G.kk) (m::pts)).1 (G.b8 m (m+G.kk) (m::pts)).2 (m::pts)).map vd)) (.int 0)=.ok (vd x):=jP (by rw[et];exact iz _ _);have i1:O5 (.lst ((G.G5 (G.b8 m (m+G.kk) (m::pts)).1 (G.b8 m (m+G.kk) (m::pts)).2 (m::pts)).map vd)) (.int 1)=.ok (vd y):=jP (by rw[et];exact qk _ _ _);unfold G.d9;dsimp only;by_cases h2:G.U9 (G.G5 (G.b8 m (m+G.kk) (m::pts)).1 (G.b8 m (m+G.kk) (m::pts)).2 (m::pts))=2
    ·rw[if_pos h2];rw[h2]at dm;generalize(m::pts).map vd=L at*
     generalize(G.G5 (G.b8 m (m+G.kk) (m::pts)).1 (G.b8 m (m+G.kk) (m::pts)).2 (m::pts)).map vd=L2 at*
     generalize(G.b8 m (m+G.kk) (m::pts)).1=pn at*
     generalize(G.b8 m (m+G.kk) (m::pts)).2=pm at*
     simp[i3,hm,ab,po,dm,G.kk]
    ·rw[if_neg h2];have e0:(G.G5 (G.b8 m (m+G.kk) (m::pts)).1 (G.b8 m (m+G.kk) (m::pts)).2 (m::pts)).getD 0 0=x:=by rw[et];rfl
     have e1:(G.G5 (G.b8 m (m+G.kk) (m::pts)).1 (G.b8 m (m+G.kk) (m::pts)).2 (m::pts)).getD 1 0=y:=by rw[et];rfl
     rw[e0,e1];have hb:((G.U9 (G.G5 (G.b8 m (m+G.kk) (m::pts)).1 (G.b8 m (m+G.kk) (m::pts)).2 (m::pts)):Int)==2)=false:=by rw[beq_eq_false_iff_ne];lia
     generalize(m::pts).map vd=L at*
     generalize(G.G5 (G.b8 m (m+G.kk) (m::pts)).1 (G.b8 m (m+G.kk) (m::pts)).2 (m::pts)).map vd=L2 at*
     generalize(G.U9 (G.G5 (G.b8 m (m+G.kk) (m::pts)).1 (G.b8 m (m+G.kk) (m::pts)).2 (m::pts)):Int)=dd at*
     generalize(G.b8 m (m+G.kk) (m::pts)).1=pn at*
     generalize(G.b8 m (m+G.kk) (m::pts)).2=pm at*
     simp[i3,hm,ab,po,dm,hb,i0,i1]
   ·cases h
  ·cases h
def kF (n8:u4 P w K mg base 1 "product_of" 2 t6)(A7:u4 P w K mg base 1 "cross_of" 2 B8)(o9:u4 P w K mg base 1 "way_between" 2 v9)(g:aL K mg "turn_of" kX):u4 P w K mg base 2 "turn_of" 4 fD:=by
 refine' m6 (k:=1) (F:=_) g CV (λhr hu fu nd=>?b) λds d hl h=>?_
 case b=>refine' (d5<|j2<|cH n8 hr (c9 0)<|cH A7 hr (cH o9 hr (c9 1)<|c9 2)<|cH o9 hr (c9 2)<|c9 3)
 replace h:=K5 h;obtain⟨a,b,c,ds,rfl,h⟩:=h;replace h:=K5 h;obtain⟨d,e,f,ds,rfl,h⟩:=h;replace h:=K5 h;obtain⟨g,h',i,ds,rfl,h⟩:=h;replace h:=K5 h;obtain⟨j,k,l,ds,rfl,h⟩:=h;replace h:=C6 h;obtain⟨rfl,h⟩:=h
 ·skip
  split at h
  ·rename_i hz;obtain⟨p,q,r,s⟩:=hz;rw[<-h];have c1:=dJ (u:=⟨g,h',i⟩-⟨d,e,f⟩) (v:=⟨j,k,l⟩-⟨g,h',i⟩) (r.sub q).mono (s.sub r).mono;have c2:=Y2 (u:=⟨a,b,c⟩) (v:=G.cr (⟨g,h',i⟩-⟨d,e,f⟩) (⟨j,k,l⟩-⟨g,h',i⟩)) p.mono ((r.sub q).cr (s.sub r)).mono;simp only[vd,G.WA,G.WV,G.WJ,G.RN,G.TU,G.RW]at c1 c2;simp[i3,v9,v1,jZ,c1,c2,G.turn,G.i4]
  ·cases h
def U7 (kF:u4 P w K mg base 2 "turn_of" 4 fD)(ia:mg "len"=none)(g:aL K mg "left_chain" bS):u4 P w K mg base 3 "left_chain" 2 U3:=by
 refine' m6 (k:=2) (F:=_) g qN (λhr hu fu nd=>?b) λds d hl h=>?_
 case b=>
  refine' (c7 (jK 2 (lG j5) nd)
   (c7 (U6 aBy rfl (F3<|c9 1) (F6 3 nd) (c7 (lE (λ_=>1001) aBy (JN.pt<|SB (j9 FM (PD.pb<|NP gZ<|b9 2) A9)<|PK<|j9 vq (PD.pb<|pc4 kF hr (c9 0) (i5 (b9 2)<|gO d4) (i5 (b9 2)<|gO d4)<|c9 3) A9)<|d5<|UV 2)
   (d5<|gS 2<|c9 3)))
   (d5<|FG 2<|j2<|c9 2)))
 replace h:=K5 h;obtain⟨a,b,c,ds,rfl,h⟩:=h;replace h:=dR h;obtain⟨xs,ds,rfl,h⟩:=h;replace h:=C6 h;obtain⟨rfl,h⟩:=h
 ·skip
  split at h
  ·rename_i pts hw;rw[t7 hw];split at h
   ·rename_i hz;rw[<-h];obtain⟨sn,hs⟩:=hz;have vn:(.tup [.int a,.int b,.int c]:D)=vd ⟨a,b,c⟩:=rfl;rw[vn];generalize(⟨a,b,c⟩:G.V)=n at*
    simp[i3];refine jS (λrest ρ=>∃(c qs:List G.V) (x:Sl),ρ=[.v (vd n),.v (.lst (aCY vd pts)),.o (c.reverse.map vd),x]/\rest=qs.map vd/\(∀X∈c,Sz 1000 X)/\(∀X∈qs,Sz 1000 X)/\c.length+qs.length<=1000/\qs.foldl (λc P=>P::G.X9 n P c) c=G.A6 n pts) ?_ ⟨[],pts,_,rfl,rfl,λX hX=>by(cases hX),hs.1,by simpa using hs.2,rfl⟩ ?_
    ·rintro d ds ρ ⟨c,qs,x,rfl,e1,sc,sq,hl,e2⟩;match qs,e1 with
     |P::qs,e1=>
      injection e1 with e3 e4;subst e3 e4;have sP:=sq P (.head _);simp only[aAv]at hl;simp only[bZ,aCI,aCJ];refine Exists.elim (xI (n:=1001) (ρ:=[.v (vd n),.v (.lst (aCY vd pts)),.o (c.reverse.map vd),.v (vd P)]) (Post:=λρ=>∃c',ρ=[.v (vd n),.v (.lst (aCY vd pts)),.o (c'.reverse.map vd),.v (vd P)]/\(∀X∈c',Sz 1000 X)/\c'.length<=c.length/\c'=G.X9 n P c)
       (c:=ZU (λρ=>((((wG 2 ρ).bind λd=>R.ok [d]).bind LH).bind λx=>iq x (D.int 1)).bind HM) λρ=>((((cI 0 ρ).bind λd=>(((wG 2 ρ).bind λx=>O5 x (D.int (-2))).bind λd=>(((wG 2 ρ).bind λx=>O5 x (D.int (-1))).bind λd=>((cI 3 ρ).bind λd=>R.ok [d]).bind λds=>R.ok (d::ds)).bind λds=>R.ok (d::ds)).bind λds=>R.ok (d::ds)).bind fD).bind λx=>tz x (D.int 0)).bind HM) (F:=λρ=>(BC 2 ρ).bind λz=>R.ok (Out.nx z.snd))
       (λm ρ=>∃c',ρ=[.v (vd n),.v (.lst (aCY vd pts)),.o (c'.reverse.map vd),.v (vd P)]/\(∀X∈c',Sz 1000 X)/\c'.length<=c.length/\c'.length<m/\G.X9 n P c'=G.X9 n P c) ?_ (by rintro ρ ⟨c',_,_,_,h,_⟩;lia) ⟨c,rfl,sc,aAh _,by lia,rfl⟩ ?_) ?_
      ·rintro m ρ ⟨c',rfl,sub,jb,hm,ep⟩;match c',sub,jb,hm,ep with
       |[],_,_,_,_=>exact .inl (by simp)
       |[a],_,_,_,_=>exact .inl (by simp)
       |b::a::r,sub,jb,hm,ep=>
        have er:(b::a::r).reverse.map vd=r.reverse.map vd++[vd a,vd b]:=by simp
        have i1:O5 (.lst ((b::a::r).reverse.map vd)) (.int (-1))=.ok (vd b):=jP (by rw[er];exact WC _ _ _);have i2:O5 (.lst ((b::a::r).reverse.map vd)) (.int (-2))=.ok (vd a):=jP (by rw[er];exact WG _ _ _);have tn:=FI sn (sub a<|.tail _ (.head _)) (sub b<|.head _) sP;have hg:(1:Int)<(aCY vd (b::a::r).reverse).length:=by rw[aAm,aCA];simp;lia
        by_cases ht:G.turn n a b P<=0
        ·refine .inr ⟨?_,[.v (vd n),.v (.lst (aCY vd pts)),.o ((a::r).reverse.map vd),.v (vd P)],?_,a::r,rfl,λX hX=>sub X (.tail _ hX),?_,?_,?_⟩
         ·simp only[uX,xH,CH,R.aa0,wA,wB,decide_eq_true hg,EX,if_true,fQ,lW,i1,i2,tn,CO,decide_eq_true ht]
         ·show(match(aCY vd (b::a::r).reverse)[(aCY vd (b::a::r).reverse).length-1]? with|some d=>_|none=>_:R (D×Ev)).bind _=_;rw[er];simp
         ·simp only[aAv]at jb⊢;lia
         ·simp only[aAv]at hm⊢;lia
         ·rw[<-ep]
          conv=>rhs;unfold G.X9
          rw[if_pos ht]
        ·refine .inl ?_;simp only[uX,xH,CH,R.aa0,wA,wB,decide_eq_true hg,EX,if_true,fQ,lW,i1,i2,tn,CO,decide_eq_false ht]
      ·rintro m ρ ⟨c',rfl,sub,jb,hm,ep⟩ hc;refine⟨c',rfl,sub,jb,?_⟩;match c',sub,jb,hm,ep,hc with
       |[],_,_,_,ep,_=>exact ep
       |[a],_,_,_,ep,_=>exact ep
       |b::a::r,sub,jb,hm,ep,hc=>
        have er:(b::a::r).reverse.map vd=r.reverse.map vd++[vd a,vd b]:=by simp
        have i1:O5 (.lst ((b::a::r).reverse.map vd)) (.int (-1))=.ok (vd b):=jP (by rw[er];exact WC _ _ _);have i2:O5 (.lst ((b::a::r).reverse.map vd)) (.int (-2))=.ok (vd a):=jP (by rw[er];exact WG _ _ _);have tn:=FI sn (sub a<|.tail _ (.head _)) (sub b<|.head _) sP;have hg:(1:Int)<(aCY vd (b::a::r).reverse).length:=by rw[aAm,aCA];simp;lia
        simp only[uX,xH,CH,R.aa0,wA,wB,decide_eq_true hg,EX,if_true,fQ,lW,i1,i2,tn,CO,NV,decide_eq_false_iff_not]at hc;rw[<-ep]
        conv=>rhs;unfold G.X9
        rw[if_neg hc]
      ·rintro ρ2 ⟨ew,c',rfl,sub,jb,epop⟩;refine⟨[.v (vd n),.v (.lst (aCY vd pts)),.o ((P::c').reverse.map vd),.v (vd P)],?_,P::c',qs,_,rfl,rfl,?_,λX hX=>sq X (.tail _ hX),?_,?_⟩
       ·rw[ew];have hz:(aCY vd c'.reverse).length<sizeLine:=by rw[aAm,aCA];exact aCH (show c'.length<=1000 by lia) (by decide)
        simp only[C5,lW,fQ,R.aa0];show(if(aCY vd c'.reverse).length<sizeLine then _ else _)=_;rw[if_pos hz];simp
       ·intro X hX;rcases aAe.mp hX with rfl|hX
        ·exact sP
        ·exact sub X hX
       ·simp;lia
       ·rw[<-e2,aEn,epop]
    ·rintro ρ ⟨c,qs,x,rfl,e1,sc,sq,hl,e2⟩;have:qs=[]:=by simpa using e1.symm
     subst this;have e2:c=G.A6 n pts:=e2;subst e2;simp[rG]
   ·cases h
  ·cases h
def kL (U7:u4 P w K mg base 3 "left_chain" 2 U3)(ig:mg "list"=none)(ku:mg "reversed"=none)(g:aL K mg "ring_of" lO):u4 P w K mg base 4 "ring_of" 2 P7:=by
 refine' m6 (k:=3) (F:=_) g AY (λhr hu fu nd=>?b) λds d hl h=>?_
 case b=>
  refine' (c7 (j3 2 (cH U7 hr (c9 0)<|c9 1) nd)
   (c7 (j3 3 (cH U7 hr (c9 0)<|PF.pd<|CB (b9 1) rfl) nd)
   (d5<|j2<|d8 t5 (PD.pb<|W8 (b9 2) J3<|t9<|gO d4)<|PD.pb<|W8 (b9 3) J3<|t9<|gO d4)))
 replace h:=K5 h;obtain⟨a,b,c,ds,rfl,h⟩:=h;replace h:=dR h;obtain⟨xs,ds,rfl,h⟩:=h;replace h:=C6 h;obtain⟨rfl,h⟩:=h
 ·skip
  split at h
  ·rename_i pts hw;rw[t7 hw];split at h
   ·rename_i hz;rw[<-h];obtain⟨sn,hs⟩:=hz;have vn:(.tup [.int a,.int b,.int c]:D)=vd ⟨a,b,c⟩:=rfl;rw[vn];generalize(⟨a,b,c⟩:G.V)=n at*
    have l1:=WX sn hs;have hs2:cS 1000 pts.reverse:=hs.sub (λP hP=>by simpa using hP) (by simp);have l2:=WX sn hs2;rw[aFk (l:=pts)]at l2;have k1:=rR n pts;have k2:=rR n pts.reverse;rw[aCA]at k2;have ha:aQ (.lst ((G.A6 n pts).reverse.map vd).dropLast) (.lst ((G.A6 n pts.reverse).reverse.map vd).dropLast)=.ok (.lst ((G.v6 n pts).map vd)):=by rw[FH (by simp only[aFD,aAm,aCA];exact aAr (show _<=2000 by have:=hs.2;lia) (by decide))];unfold G.v6;rw[aBU,List.map_dropLast,List.map_dropLast]
    simp[-aFk,i3,l1,l2,UW,ha,a0a]
   ·cases h
  ·cases h
def aI (ig:mg "list"=none)(b_zip:mg "zip"=none)(g:aL K mg "pairs_round" Z5):u4 P w K mg base 1 "pairs_round" 1 z9:=by
 refine' m6 (k:=0) (F:=_) g qD (λhr hu fu nd=>?b) λds d hl h=>?_
 case b=>refine' (d5<|j2<|PF.pd<|CA (b9 0) (PD.pb<|d8 t5 (PD.pb<|W8 (b9 0) (t9 d4) J3)<|PD.pb<|W8 (b9 0) J3<|t9 d4) rfl)
 match ds,h with
 |[.lst xs],h=>
  simp only[z9]at h;split at h
  ·rename_i pts hw;rw[t7 hw];split at h
   ·rename_i hz;rw[<-h];have ha:aQ (.lst (pts.map vd).tail) (.lst ((pts.map vd).take 1))=.ok (.lst ((pts.tail++pts.take 1).map vd)):=by rw[FH (by simp only[List.length_tail,aBl,aAm];exact JZ (by lia))];rw[aBU,List.map_tail,aEh]
    have hzz:(pts.map vd).length=((pts.tail++pts.take 1).map vd).length:=by
     simp only[aAm,aAD,List.length_tail,aBl]
     lia
    have hzp:SR [.lst (pts.map vd),.lst ((pts.tail++pts.take 1).map vd)]=.ok ((G.aN pts).map J6):=by show(if _ then _ else _)=_;rw[if_pos hzz,rM (β:=Unit)];rfl
    simp[-aBU,-List.map_tail,-aEh,i3,UA,XR,ha,hzp]
   ·cases h
  ·cases h
def bY (L4:u4 P w K mg base 3 "plane_about" 2 F8)(kL:u4 P w K mg base 4 "ring_of" 2 P7)(aI:u4 P w K mg base 1 "pairs_round" 1 z9)(ia:mg "len"=none)(gc:mg "sorted"=none)(g:aL K mg "faces_from" bA):UD P w K mg base 8 3 "faces_from" J9:=by
 obtain⟨f,fd,je,F0⟩:=g;refine' UF (k:=7) (F:=_) F0 fS rfl (F0.binds λ_ _ _ _ _ _ us hl=>match us,hl with|[_,_,_],_=>rfl) je (λcdv A outer s H E hr=>?hb) ?hm
 case hb=>
  have hu:=hr.units;have fu:=hr.ae4;have hu3:=hr.ae3 (by decide);have nd:=fS.nd;refine' (c7 (jK 3 (lG j5) nd)
   (c7 (JQ 4 nd)
   (c7 (jK 5 (lG<|c8 (c9 0) j5) nd)
   (c7 (lE (λ_=>5000) aBy (j9 FM (PD.pb<|NP gZ<|b9 5) A9) (c7 (CU 6 5 nd)
   (d5 (w6 (HY 4 (c9 6) fu) (c7 (j3 7 (cH L4 hr (c9 6) (zF 1 (k:=3) (Φ:=JM P w K mg base 3 1) rfl (c8 (i5 (b9 6) d4) j5) (i7 u5) (hr.mono (by decide)))) nd)
   (c7 (j3 8 (cH kL hr (W8 (b9 7) J3<|t9 d4) (zF 2 (k:=3) (Φ:=JM P w K mg base 3 1) rfl (c8 (c9 7) j5) (i7 u5) (hr.mono (by decide)))) nd)
   (c7 (gS 3<|pt2 (c9 7)<|c9 8)
   (d5 (U6 aBy rfl (F3<|qU aI hr<|c9 8) (F6 9 nd) (c7 (DJ 4 jB (c9 9) fu)
   (d5<|gS 5<|pt2 (i5 (b9 9) d4)<|i5 (b9 9) d4))))))) n6))))
   (d5<|j2<|PF.pd<|BK (b9 3) rfl hu3)))))
 case hm=>
  intro d m1 m2 d' h;simp only[J9]at h;split at h
  ·rename_i xs hm1;split at h
   ·rename_i m pts hw;split at h
    ·rename_i hz;rw[<-h];obtain⟨hz,vf,hd,e1,e2⟩:=hz;rw[t7 hw]at e1 e2;subst hd e1 e2;have s1:(1:Nat)<=sizeLine:=by decide
     simp only[jX,fQ,jN,nG,R.aa0,aAv,aBO,aFu,s1,if_true,C5];exact nq (Φ:=JM P w K mg base 3 1) hz vf
    ·cases h
   ·cases h
  ·cases h
def sN:Nst:=⟨"about",EU,G7 dM,q8 dM,c6 dM,EN dM,["corner"],[],["spread"],[1],(λρ=>(cI 1 ρ).bind λd=>.ok (.rt d)),K9,2⟩
def cN:Nst:=⟨"touched_by",jR,G7 K8,q8 K8,c6 K8,EN K8,["plane"],[],["spread"],[1],(λρ=>((k8 (cI 0) (k8 (cI 1) M7) ρ).bind y9).bind λd=>.ok (.rt d)),E9,3⟩
def ID {f:Addr}{cdv:Value}{A:Around}{outer:List Env}{s:Shared}{H:Hp}{E:XK}:NstOk (UG P w K mg base fY "faces_of" (c6 L8) f cdv A outer s H E) 2 sN where
 sc:=⟨rfl,rfl,rfl,by decide+kernel,by decide+kernel,by decide+kernel,λx h=>FW h,by decide+kernel⟩
 one:=rfl
 body:=λfa cd clos A outer s H hr=>by have hu:=hr.units;exact(d5<|j2<|c9 1)
 mm:=by
  intro wd ds d h1 h2 h;match wd,ds,h1,h2,h with
  |[_],[_],_,_,h=>cases h;rfl
 bind:=λclos doc pm cd ctv us hl=>match us,hl with|[_],_=>rfl
 len:=rfl
 at_:=λi j x h1 h2=>match i,h1,h2 with
  |0,h1,h2=>by obtain rfl:1=j:=aAj h1;obtain rfl:("spread":Str)=x:=aAj h2;exact⟨rfl,rfl⟩
  |i+1,h1,_=>nomatch(show(none:Option Nat)=some j from h1)
 d0:=rfl
 k0:=rfl
 nm:=rfl
 lc:=.inl rfl
 st:=.inl rfl
 dbg:=by decide
 cdt:=by decide
def nS (J4:u4 P w K mg base 2 "points_on" 2 y9){f:Addr}{cdv:Value}{A:Around}{outer:List Env}{s:Shared}{H:Hp}{E:XK}:NstOk (UG P w K mg base fY "faces_of" (c6 L8) f cdv A outer s H E) 2 cN where
 sc:=⟨rfl,rfl,rfl,by decide+kernel,by decide+kernel,by decide+kernel,λx h=>FW h,by decide+kernel⟩
 one:=rfl
 body:=λfa cd clos A outer s H hr=>by have hu:=hr.units;exact(d5<|j2<|cH J4 hr (c9 0)<|c9 1)
 mm:=by
  intro wd ds d h1 h2 h;match wd,ds,h1,h2,h with
  |[w],[p],_,_,h=>have h:y9 [p,w]=.ok d:=h;show T6 (((k8 (cI 0) (k8 (cI 1) M7) [.v p,.v w]).bind y9).bind λd=>.ok (.rt d))=.ok d;have e:k8 (cI 0) (k8 (cI 1) M7) [.v p,.v w]=.ok [p,w]:=rfl;rw[e,R.aa0,h];rfl
 bind:=λclos doc pm cd ctv us hl=>match us,hl with|[_],_=>rfl
 len:=rfl
 at_:=λi j x h1 h2=>match i,h1,h2 with
  |0,h1,h2=>by obtain rfl:1=j:=aAj h1;obtain rfl:("spread":Str)=x:=aAj h2;exact⟨rfl,rfl⟩
  |i+1,h1,_=>nomatch(show(none:Option Nat)=some j from h1)
 d0:=rfl
 k0:=rfl
 nm:=rfl
 lc:=.inl rfl
 st:=.inl rfl
 dbg:=by decide
 cdt:=by decide
def gA {Pt:Addr}(J4:u4 P w K mg base 2 "points_on" 2 y9)(Z2:u4 P w K mg base 3 "refuse_flat" 1 G0)(cD:u4 P w K mg base 8 "first_pair" 1 K4)(bY:UD P w K mg base 8 3 "faces_from" J9)(gc:mg "sorted"=none)(uh:mg "set"=none)(hB:iI mg base)(hTt:(Pt,tbK)∈Tabs.tbs)(g:rz K mg "faces_of" L8 Pt):u4 P w K mg base 9 "faces_of" 1 X1:=by
 obtain⟨f,fd,cd,je,hK,F0⟩:=g;refine' RJ (k:=8) (F:=_) F0 mG (F0.fn.binds λ_ _ _ _ _ _ us hl=>match us,hl with|[_],_=>rfl) je (λA outer s H E hr=>?hb) ?hm
 case hb=>
  have hu:=hr.units;have fu:=hr.ae4;have hu3:=hr.ae3 (by decide);have nd:=mG.nd;refine' (c7 (jC<|qU Z2 hr<|c9 0)
   (c7 (j3 1 (PF.pd<|iL (b9 0) rfl hu3) nd)
   (AQ (n1:=sN) (n2:=cN) (clos1:=[("spread",s.heap.objs.size+1)]) (clos2:=[("spread",s.heap.objs.size+1)]) (tb:=tbK) ID (nS J4) ?co1 ?co2 ?hA hB rfl hK hTt (by decide+kernel) (by decide+kernel) (by decide+kernel) (by decide+kernel) (by decide) nd bY (hr.mono (by decide)) (qU cD hr<|c9 1) (λ_=>rfl))))
  case co1=>exact⟨rfl,rfl,rfl,λx c h=>h,λx hx=>⟨_,by obtain rfl:x= "spread":=aBb.mp hx;rfl⟩⟩
  case co2=>exact⟨rfl,rfl,rfl,λx c h=>h,λx hx=>⟨_,by obtain rfl:x= "spread":=aBb.mp hx;rfl⟩⟩
  case hA=>exact JH
 case hm=>
  intro ds d hl h;match ds,h with
  |[.lst xs],h=>
   simp only[X1]at h;split at h
   ·rename_i pts hw;rw[t7 hw];split at h
    ·rename_i hz;rw[<-h];obtain⟨h1,h2,h3⟩:=hz;obtain⟨m,r,e,L⟩:=nE h1 h2 (by lia);have ss:=WB (pts:=pts) (by lia);have fl:=TM (h1.mono (n:=1000)) h2;rw[e]at h3 ss⊢;have fp:=a0c L;have ff:=ZO L h3;obtain⟨L1,eL⟩:∃L1,(m::r).map vd=L1:=⟨_,rfl⟩;rw[eL]at ss fp ff;show T6 (G8 ((G0 [D.lst (pts.map vd)]).bind λ_=>R.ok (Out.nx [.v (.lst (pts.map vd)),.no,.no,.no])) _)=_;rw[fl,R.aa0,C5];show T6 (G8 (((wz<|.lst (pts.map vd)).bind λds=>R.ok (D.lst ds)).bind λd=>R.ok (Out.nx [.v (.lst (pts.map vd)),.v d,.no,.no])) _)=_;rw[ss,R.aa0,R.aa0,C5];show T6 (((K4 [D.lst L1]).bind λd1=>(R.ok [D.lst L1]).bind λw1=>(R.ok [D.lst L1]).bind λw2=>J9 d1 (K9 w1) (E9 w2)).bind λd=>R.ok (Out.rt d))=_;rw[fp,R.aa0,R.aa0,R.aa0,ff];rfl
    ·cases h
   ·cases h
def bQ (gc:mg "sorted"=none)(uh:mg "set"=none)(g:aL K mg "corners_in" bL):u4 P w K mg base 8 "corners_in" 1 J7:=by
 refine' m6 (k:=7) (F:=_) g qP (λhr hu fu nd=>?b) λds d hl h=>?_
 case b=>
  have hu3:=hr.ae3 (by decide);refine' (c7 (jK 1 (lG j5) nd)
   (c7 (U6 aBy rfl (F3<|c9 0) (US (n:=2) rfl<|tT (F6 2 nd)<|tT (F6 3 nd) QP)<|d5<|zW 1<|c9 3)
   (d5<|j2<|PF.pd<|iL (b9 1) rfl hu3)))
 match ds,h with
 |[.lst xs],h=>
  simp only[J7]at h;split at h
  ·rename_i rs hw;split at h
   ·rename_i hz;rw[<-h];obtain⟨x',y',e⟩:=lQ (a:=Sl.v (D.lst xs)) xs rs [] Sl.no Sl.no hw (by simpa using hz.1);rw[aDR,aDm]at e;have ss:=WB hz.2;simp[i3,-List.map_flatten,e,ss]
   ·cases h
  ·cases h
def kQ (bQ:u4 P w K mg base 8 "corners_in" 1 J7)(gA:u4 P w K mg base 9 "faces_of" 1 X1)(g:aL K mg "body_of" kG):u4 P w K mg base 10 "body_of" 1 aO:=by
 refine' m6 (k:=9) (F:=_) g AD (λhr hu fu nd=>?b) λds d hl h=>?_
 case b=>refine' (d5<|j2<|qU bQ hr<|qU gA hr<|c9 0)
 match ds,h with
 |[.lst xs],h=>
  simp only[aO]at h;split at h
  ·rename_i pts hw;rw[t7 hw];split at h
   ·rename_i hz;rw[<-h];obtain⟨h1,h2,h3⟩:=hz;obtain⟨m,r,e,L⟩:=nE h1 h2 (by lia);have fo:=OO h1 h2 h3;have fr:((G4<|n4 pts).flatMap (G.k7<|n4 pts)).length<=200/\(n4<|(G4<|n4 pts).flatMap (G.k7<|n4 pts)).length<=14:=by rw[e]at h3⊢;exact GY L h3
    have co:=CI (pts:=n4 pts) (fs:=G4 (n4 pts)) (by lia) (by lia);simp[i3,fo,co,iS]
   ·cases h
  ·cases h
end
end K73
namespace K73
open PySem L2 DL M
section
variable [Tabs]
variable{P:Program} {w:World} {K:PySem.W.Frag} {mg:Y0} {base:Heap}
variable{af jf br df ae dg dh gu bu:Addr}
def aS (g:aL K mg "rows_in" kO):u4 P w K mg base 1 "rows_in" 1 V1:=by
 refine' m6 (k:=0) (F:=_) g DE (λhr hu fu nd=>?b) λds d hl h=>?_
 case b=>refine' (d5<|j2<|Z3<|c8 (W8 (b9 0) (t9 d4)<|t9 d4)<|c8 (W8 (b9 0) (t9 d4)<|t9 d4)<|c8 (W8 (b9 0) (t9 d4)<|t9 d4) j5)
 replace h:=NF h;obtain⟨xs,ds,rfl,h⟩:=h;replace h:=C6 h;obtain⟨rfl,h⟩:=h;split at h
 ·rename_i hz;rw[<-h];have T1:=iZ (xs:=xs) (i:=0) (j:=3) (by decide) (by decide) (by rw[hz];decide) (by rw[hz];decide);have T2:=iZ (xs:=xs) (i:=3) (j:=6) (by decide) (by decide) (by rw[hz];decide) (by rw[hz];decide);have T3:=iZ (xs:=xs) (i:=6) (j:=9) (by decide) (by decide) (by rw[hz];decide) (by rw[hz];decide);have T1:qQ (.tup xs) (some 0) (some 3)=.ok (.tup (xs.take 3)):=T1;have T2:qQ (.tup xs) (some 3) (some 6)=.ok (.tup ((xs.drop 3).take 3)):=T2;have T3:qQ (.tup xs) (some 6) (some 9)=.ok (.tup ((xs.drop 6).take 3)):=T3;generalize xs.take 3=A at*
  generalize(xs.drop 3).take 3=B at*
  generalize(xs.drop 6).take 3=C at*
  simp[i3,T1,T2,T3,qA,sizeLine]
 ·cases h
def iD (n8:u4 P w K mg base 1 "product_of" 2 t6)(g:aL K mg "taken_by" gI):u4 P w K mg base 2 "taken_by" 2 vL:=by
 refine' m6 (k:=1) (F:=_) g wQ (λhr hu fu nd=>?b) λds d hl h=>?_
 case b=>refine' (d5<|j2<|JJ (cH n8 hr (i5 (b9 0) d4)<|c9 1) (cH n8 hr (i5 (b9 0) d4)<|c9 1)<|cH n8 hr (i5 (b9 0) d4)<|c9 1)
 replace h:=XM h;obtain⟨r,ds,rfl,h⟩:=h;replace h:=K5 h;obtain⟨a,b,c,ds,rfl,h⟩:=h;replace h:=C6 h;obtain⟨rfl,h⟩:=h;split at h
 ·rename_i hz;rw[<-h];obtain⟨hr,hv⟩:=hz;obtain⟨v,ev⟩:∃v:G.V,v=⟨a,b,c⟩:=⟨_,rfl⟩;rw[<-ev]at hv⊢;have vv:(.tup [.int a,.int b,.int c]:D)=vd v:=by rw[ev]
  rw[vv];have p1:=Y2 hr.1.mono hv.mono;have p2:=Y2 hr.2.1.mono hv.mono;have p3:=Y2 hr.2.2.mono hv.mono;have x0:=a2b r;have x1:=a1c r;have x2:=a2n r;generalize vd v=v' at*
  generalize XJ r=r' at*
  simp[i3,x0,x1,x2,p1,p2,p3,G.mL]
 ·cases h
def cA (n8:u4 P w K mg base 1 "product_of" 2 t6)(A7:u4 P w K mg base 1 "cross_of" 2 B8)(g:aL K mg "stretch_of" bV):u4 P w K mg base 2 "stretch_of" 1 kK:=by
 refine' m6 (k:=1) (F:=_) g qW (λhr hu fu nd=>?b) λds d hl h=>?_
 case b=>refine' (d5<|j2<|cH n8 hr (i5 (b9 0) d4)<|cH A7 hr (i5 (b9 0) d4)<|i5 (b9 0) d4)
 replace h:=KA h;obtain⟨a,b,c,ds,rfl,h⟩:=h;replace h:=C6 h;obtain⟨rfl,h⟩:=h;split at h
 ·rename_i hz;rw[<-h];obtain⟨p,q,r⟩:=hz;have c1:=dJ (u:=b) (v:=c) q.mono r.mono;have c2:=Y2 (u:=a) (v:=G.cr b c) p.mono (q.cr r).mono;have i0:O5 (.lst [vd a,vd b,vd c]) (.int 0)=.ok (vd a):=rfl;have i1:O5 (.lst [vd a,vd b,vd c]) (.int 1)=.ok (vd b):=rfl;have i2:O5 (.lst [vd a,vd b,vd c]) (.int 2)=.ok (vd c):=rfl;have fin:i4 a.x a.y a.z b.x b.y b.z c.x c.y c.z=G.f8 a (G.cr b c):=rfl;dsimp only;rw[fin];generalize G.f8 a (G.cr b c)=dt at*
  generalize vd (G.cr b c)=w at*
  generalize vd a=a' at*
  generalize vd b=b' at*
  generalize vd c=c' at*
  simp[i3,i0,i1,i2,c1,c2]
 ·cases h
def aY (cA:u4 P w K mg base 2 "stretch_of" 1 kK)(aS:u4 P w K mg base 1 "rows_in" 1 V1)(gP:u4 P w K mg base 1 "is_whole" 1 R6)(ia:mg "len"=none)(ag:mg "isinstance"=none)(ir:mg "tuple"=none)(uf:mg "abs"=none)(b_all:mg "all"=none)(g:aL K mg "is_move" eT):u4 P w K mg base 3 "is_move" 1 sR:=by
 refine' m6 (k:=2) (F:=_) g DF (λhr hu fu nd=>?b) λds d hl h=>?_
 case b=>
  refine' (c7 (w6 (JN.pt<|BS (nK<|jH<|zZ GH<|b9 0)<|wE<|j9 (rW hu) (PD.pb<|NP gZ<|b9 0) A9) (d5<|j2 jB) n6)
   (d5<|j2<|QH (NP (YM rfl)<|PD.pb<|bU ["number"] [] [] rfl (aJ (sc:=c6 eT) (N:=tE)) (uU<|c9 0) (RB λ_ _ _ _ _=>(qU gP hr<|c9 0))<|λ_=>C1)<|LY<|BF (M8 hu) (PD.pb<|NP QS<|PD.pb<|qU cA hr<|qU aS hr<|c9 0) A9))
 match ds,h with
 |[x],h=>
  simp only[sR]at h;split at h
  ·rename_i hk;rw[<-h];cases x with
   |tup xs=>
    obtain⟨hb,hd⟩:=hk;by_cases hl:xs.length=12
    ·have jb:(xs.length:Int)=12:=by lia
     have hz:xs.length<=sizeLine:=by rw[hl];decide
     have cm:v8 (λd ρ=>R.ok (aDh ρ 0<|Sl.v d)) (λ_=>R.ok true) (λρ=>((cI 0 ρ).bind λd=>R.ok [d]).bind R6) [.no] xs=.ok (xs.map λd=>D.bl (N3 d)):=V3 _ λd hd=>⟨_,rfl,rfl⟩;have al:=gq (xs.map N3);rw[aBx]at al;have al:OU [.lst (xs.map λd=>D.bl (N3 d))]=.ok (.bl ((xs.map N3).all id)):=al;have ea:(xs.map N3).all id=xs.all N3:=by rw[List.all_map];rfl
     rw[ea]at al;by_cases hw:xs.all N3=true
     ·rw[hw]at al;obtain⟨a,b,c,d,e,f,g,h',i,p,q,r,rfl⟩:=SS hl hw;have st:kK [.lst [.tup [.int a,.int b,.int c],.tup [.int d,.int e,.int f],.tup [.int g,.int h',.int i]]]=.ok (.int (i4 a b c d e f g h' i)):=if_pos ⟨⟨hb a (by simp),hb b (by simp),hb c (by simp)⟩,⟨hb d (by simp),hb e (by simp),hb f (by simp)⟩,hb g (by simp),hb h' (by simp),hb i (by simp)⟩;have rw12:V1 [.tup [.int a,.int b,.int c,.int d,.int e,.int f,.int g,.int h',.int i,.int p,.int q,.int r]]=.ok (.lst [.tup [.int a,.int b,.int c],.tup [.int d,.int e,.int f],.tup [.int g,.int h',.int i]]):=rfl;rw[YS];generalize i4 a b c d e f g h' i=dt at*
      have fin:((if dt<0 then-dt else dt)==1)=(dt==1||dt==-1):=by rw[aCR];simp;split<;>lia
      simp only[aAu,aDR,N3]at al;simp[i3,j1,sizeLine,R6,rw12,N3,al,st,fin]
     ·have hw:xs.all N3=false:=by simpa using hw
      rw[hw]at al;rw[OR hw];simp[i3,j1,jb,hz,cm,al]
    ·have jb:¬(xs.length:Int)=12:=by lia
     rw[a0f hl];simp[i3,jb]
   |_=>simp[i3,gU,LV,BA,tyD]
  ·cases h
def v7 (aY:u4 P w K mg base 3 "is_move" 1 sR)(g:aL K mg "refuse_no_move" K3):u4 P w K mg base 4 "refuse_no_move" 1 R8:=by
 refine' m6 (k:=3) (F:=_) g N7 (λhr hu fu nd=>?b) λds d hl h=>?_
 case b=>refine' (d5<|w6 (nK<|jH<|qU aY hr<|c9 0) (d5 M1) n6)
 match ds,h with
 |[x],h=>
  simp only[R8]at h;split at h
  ·rename_i hz;rw[<-h];have e:=OJ hz.1;rw[hz.2]at e;simp[i3,e]
  ·cases h
def m9 (aY:u4 P w K mg base 3 "is_move" 1 sR)(dc:XCls K mg af "NoMove" ae)(g:aL K mg "refuse_no_move" K3):T9 P w K mg base 4 "refuse_no_move" 1 (aZ ae):=by
 obtain⟨f,fd,je,F0⟩:=g;refine' fG (k:=3) (G:=_) F0 N7 (F0.binds λ_ _ _ _ _ _ us hl=>match us,hl with|[_],_=>rfl) je (λcdv A outer s H E hr=>?hb) ?hm
 case hb=>have hu:=hr.units;have nd:=N7.nd;refine' (w8<|rP (nK<|jH<|qU aY hr<|c9 0) (w8<|KM C9 rfl dc.ex PySem.F.excBase_ValueError dc.nm<|c8 NB j5) V4)
 case hm=>
  intro ds C hl h;match ds,h with
  |[d],h=>
   simp only[aZ]at h;split at h
   ·rename_i hz;rw[<-h];have e:=SO hz;simp[i3,e,dz]
   ·cases h
def L6 (W5:u4 P w K mg base 1 "put_together" 2 N2)(iD:u4 P w K mg base 2 "taken_by" 2 vL)(aS:u4 P w K mg base 1 "rows_in" 1 V1)(g:aL K mg "point_taken" aK):u4 P w K mg base 3 "point_taken" 2 K7:=by
 refine' m6 (k:=2) (F:=_) g pL (λhr hu fu nd=>?b) λds d hl h=>?_
 case b=>refine' (d5<|j2<|cH W5 hr (cH iD hr (qU aS hr<|c9 1)<|c9 0)<|W8 (b9 1) (t9 d4) J3)
 replace h:=K5 h;obtain⟨a,b,c,ds,rfl,h⟩:=h;replace h:=CL h;obtain⟨m,ds,rfl,h⟩:=h;replace h:=C6 h;obtain⟨rfl,h⟩:=h;split at h
 ·rename_i hz;rw[<-h];obtain⟨hm,hv⟩:=hz;obtain⟨v,ev⟩:∃v:G.V,v=⟨a,b,c⟩:=⟨_,rfl⟩;rw[<-ev]at hv⊢;have vv:(.tup [.int a,.int b,.int c]:D)=vd v:=by rw[ev]
  rw[vv];have r1:=RM m;have t1:=PQ (hm.1.mono (by decide)) (hv.mono (n:=1000000));have s9:=a2r m;have pt:N2 [vd (G.mL m.1 v),vd m.2]=.ok (vd<|G.o8 m v):=rfl;generalize vd (G.o8 m v)=w at*
  generalize vd (G.mL m.1 v)=w2 at*
  generalize vd v=v' at*
  generalize vd m.2=o at*
  generalize qL m=m' at*
  simp[i3,r1,t1,s9,pt]
 ·cases h
def nM (v7:u4 P w K mg base 4 "refuse_no_move" 1 R8)(L6:u4 P w K mg base 3 "point_taken" 2 K7)(g:aL K mg "moved" nA):u4 P w K mg base 5 "moved" 2 mZ:=by
 refine' m6 (k:=4) (F:=_) g pE (λhr hu fu nd=>?b) λds d hl h=>?_
 case b=>
  refine' (c7 (jC<|qU v7 hr<|c9 1)
   (d5<|j2<|cH L6 hr (c9 0)<|c9 1))
 replace h:=K5 h;obtain⟨a,b,c,ds,rfl,h⟩:=h;replace h:=CL h;obtain⟨m,ds,rfl,h⟩:=h;replace h:=C6 h;obtain⟨rfl,h⟩:=h;split at h
 ·rename_i hz;rw[<-h];obtain⟨hm,hv⟩:=hz;obtain⟨v,ev⟩:∃v:G.V,v=⟨a,b,c⟩:=⟨_,rfl⟩;rw[<-ev]at hv⊢;have vv:(.tup [.int a,.int b,.int c]:D)=vd v:=by rw[ev]
  rw[vv];have r1:=sV hm;have t1:=tV (hm.1.mono (by decide)) (hv.mono (n:=200000));generalize vd (G.o8 m v)=w at*
  generalize vd v=v' at*
  generalize qL m=m' at*
  simp[i3,r1,t1]
 ·cases h
def pD (m9:T9 P w K mg base 4 "refuse_no_move" 1 (aZ ae))(g:aL K mg "moved" nA):T9 P w K mg base 5 "moved" 2 (fO ae):=by
 obtain⟨f,fd,je,F0⟩:=g;refine' fG (k:=4) (G:=_) F0 pE (F0.binds λ_ _ _ _ _ _ us hl=>match us,hl with|[_,_],_=>rfl) je (λcdv A outer s H E hr=>?hb) ?hm
 case hb=>have hu:=hr.units;have nd:=pE.nd;refine' (w8 (Q0 (Q4 C9 m9 (hr.mono (by decide)) (c8 (c9 1) j5)<|i7 u5)))
 case hm=>
  intro ds C hl h;match ds,h with
  |[p,d],h=>
   simp only[fO]at h;split at h
   ·rename_i hz;rw[<-h];have e:=aR (c:=ae) hz;simp[i3,mX,e]
   ·cases h
def eM (v7:u4 P w K mg base 4 "refuse_no_move" 1 R8)(m9:T9 P w K mg base 4 "refuse_no_move" 1 (aZ ae))(g:aL K mg "behind" oZ):T9 P w K mg base 5 "behind" 2 (tJ ae):=by
 obtain⟨f,fd,je,F0⟩:=g;refine' fG (k:=4) (G:=_) F0 sK (F0.binds λ_ _ _ _ _ _ us hl=>match us,hl with|[_,_],_=>rfl) je (λcdv A outer s H E hr=>?hb) ?hm
 case hb=>
  have hu:=hr.units;have nd:=sK.nd;refine' (pI (w8 (Q0 (Q4 C9 m9 (hr.mono (by decide)) (c8 (c9 0) j5)<|i7 u5)))
   (oW (jC<|qU v7 hr<|c9 0)
   (w8 (Q0 (Q4 C9 m9 (hr.mono (by decide)) (c8 (c9 1) j5)<|i7 u5)))))
 case hm=>
  intro ds C hl h;match ds,h with
  |[a,b],h=>
   simp only[tJ]at h;split at h
   ·rename_i hz;rw[<-h];rcases hz with hz|⟨ha,hb⟩
    ·have e:=aR (c:=ae) hz;simp[i3,mX,e]
    ·have e:=aR (c:=ae) hb;have e1:=LF (c:=ae) ha;have e2:=CF ha;simp[i3,mX,e,e1,e2,rY]
   ·cases h
def eI (m9:T9 P w K mg base 4 "refuse_no_move" 1 (aZ ae))(g:aL K mg "way_back" fX):T9 P w K mg base 5 "way_back" 1 (aZ ae):=by
 obtain⟨f,fd,je,F0⟩:=g;refine' fG (k:=4) (G:=_) F0 lS (F0.binds λ_ _ _ _ _ _ us hl=>match us,hl with|[_],_=>rfl) je (λcdv A outer s H E hr=>?hb) ?hm
 case hb=>have hu:=hr.units;have nd:=lS.nd;refine' (w8 (Q0 (Q4 C9 m9 (hr.mono (by decide)) (c8 (c9 0) j5)<|i7 u5)))
 case hm=>
  intro ds C hl h;match ds,h with
  |[d],h=>
   simp only[aZ]at h;split at h
   ·rename_i hz;rw[<-h];have e:=aR (c:=ae) hz;simp[i3,mX,e]
   ·cases h
def bF (v7:u4 P w K mg base 4 "refuse_no_move" 1 R8)(kQ:u4 P w K mg base 10 "body_of" 1 aO)(L6:u4 P w K mg base 3 "point_taken" 2 K7)(g:aL K mg "body_moved" N6):u4 P w K mg base 11 "body_moved" 2 N1:=by
 refine' m6 (k:=10) (F:=_) g Z6 (λhr hu fu nd=>?b) λds d hl h=>?_
 case b=>
  refine' (c7 (jC<|qU v7 hr<|c9 1)
   (d5<|j2<|qU kQ hr<|bU ["P"] ["move"] [1] rfl (aJ (sc:=c6 N6) (N:=iU)) (F3<|c9 0) (RB λ_ _ _ _ _=>(cH L6 hr (c9 0)<|c9 1))<|λ_=>C1))
 replace h:=dR h;obtain⟨xs,ds,rfl,h⟩:=h;replace h:=CL h;obtain⟨m,ds,rfl,h⟩:=h;replace h:=C6 h;obtain⟨rfl,h⟩:=h;split at h
 ·rename_i pts hw;rw[t7 hw];split at h
  ·rename_i hz;rw[<-h];obtain⟨hm,hp,h9,hs,hl⟩:=hz;have r1:=sV hm;have e:=fE vd (G:=λd ρ=>R.ok (aDh ρ 0<|Sl.v d)) (fe:=λρ=>((cI 0 ρ).bind λd=>((cI 1 ρ).bind λd=>R.ok [d]).bind λds=>R.ok (d::ds)).bind K7) (ρ:=[.no,.v (qL m)]) (λP=>vd (G.o8 m P)) pts λP hP=>⟨_,rfl,by simp[tV (hm.1.mono (by decide)) ((hp.1 P hP).mono (n:=200000))]⟩;have em:pts.map (λP=>vd (G.o8 m P))=(pts.map<|G.o8 m).map vd:=by rw[aBx];rfl
   rw[em]at e;have b:=VD h9 hs hl;have hz:=small hp.2;generalize qL m=m' at*
   simp[i3,j1,r1,hz,e,b,-aBx]
  ·cases h
 ·cases h
def Z1 (m9:T9 P w K mg base 4 "refuse_no_move" 1 (aZ ae))(g:aL K mg "body_moved" N6):T9 P w K mg base 11 "body_moved" 2 (fO ae):=by
 obtain⟨f,fd,je,F0⟩:=g;refine' fG (k:=10) (G:=_) F0 Z6 (F0.binds λ_ _ _ _ _ _ us hl=>match us,hl with|[_,_],_=>rfl) je (λcdv A outer s H E hr=>?hb) ?hm
 case hb=>have hu:=hr.units;have nd:=Z6.nd;refine' (w8 (Q0 (Q4 C9 m9 (hr.mono (by decide)) (c8 (c9 1) j5)<|i7 u5)))
 case hm=>
  intro ds C hl h;match ds,h with
  |[p,d],h=>
   simp only[fO]at h;split at h
   ·rename_i hz;rw[<-h];have e:=aR (c:=ae) hz;simp[i3,mX,e]
   ·cases h
end
end K73
namespace K73
open PySem L2 DL M
section
variable [Tabs]
variable{P:Program} {w:World} {K:PySem.W.Frag} {mg:Y0} {base:Heap}
variable{af jf br df ae dg dh gu bu:Addr}
def dP (ia:mg "len"=none)(g:aL K mg "_law_cell" dG):u4 P w K mg base 1 "_law_cell" 2 X6:=by
 refine' m6 (k:=0) (F:=_) g wC (λhr hu fu nd=>?b) λds d hl h=>?_
 case b=>
  refine' (c7 (w6 (j9 xT (b9 1)<|PD.pb<|NP gZ<|b9 0) (d5<|j2<|i5 (b9 0)<|c9 1) n6)
   (d5<|j2<|d8 t5 (PD.pb<|d8 t5 (PD.pb<|d8 E6 (PD.pb<|d8 E6 A9<|b9 1)<|b9 1)<|PD.pb<|d8 E6 A9<|b9 1) A9))
 match ds,h with
 |[.lst xs,.int k],h=>
  simp only[X6]at h;split at h
  ·rename_i hz;obtain⟨h0,h1⟩:=hz;rw[<-h];have hb:bits k<=20:=k9 (by lia) (by lia);have hb2:bits (7*k)<=30:=k9 (by lia) (by lia);by_cases hk:k<xs.length
   ·have e:xs[k.toNat]?=some xs[k.toNat]:=aAi (by lia);have e2:qI xs k=some xs[k.toNat]:=by rw[dS h0,e]
    simp[i3,hk,jP e2,yS,e]
   ·have e:xs[k.toNat]?=none:=aCd.mpr (by lia);simp[i3,hk,yS,e,o6 (A3.of (show bits 7<=10 by decide) hb),o6 (A3.of hb2 hb),o6 (A3.of (show bits 10<=10 by decide) hb),M.rule]
  ·cases h
section
seal PySem.eval
def cQ (kg:mg "range"=none)(g:aL K mg "_law_rows" Q5):u4 P w K mg base 1 "_law_rows" 1 uC:=by
 refine' m6 (k:=0) (F:=_) g vT (λhr hu fu nd=>?b) λds d hl h=>?_
 case b=>
  refine' (c7 (YY 1 nd)
   (c7 (U6 aBy rfl (F3<|c9 0) (F6 2 nd) (c7 (j3 3 (d8 B0 (b9 2) A9) nd)
   (c7 (j3 4 (d8 B0 (PD.pb<|d8 t5 (PD.pb<|d8 t5 (b9 3) A9)<|PD.pb<|d8 B0 (PD.pb<|d8 D7 (b9 2) A9) A9) A9) nd)
   (c7 (j3 5 (d8 L9 (PD.pb<|d8 B0 (PD.pb<|d8 D7 (b9 2) A9) A9) A9) nd)
   (c7 (w6 (j9 (M8 hu) (PD.pb<|d8 B0 (PD.pb<|d8 D7 (b9 2) A9) A9) A9) (d5<|j3 5 (d8 E6 (b9 5)<|PD.pb<|d8 t5 (PD.pb<|d8 wI A9 A9) A9) nd) n6)
   (c7 (w6 (j9 xT (PD.pb<|d8 B0 (PD.pb<|d8 D7 (b9 2) A9) A9) A9) (d5<|DC 1 (VG ["k"] ["times_v", "rows", "j", "i"] [5,1,4,3] rfl (aJ (sc:=c6 Q5) (N:=cT)) (eY<|u6 A9 K0) (RB λ_ _ _ _ _=>(d8 t5 (PD.pb<|i5 (PD.pb<|i5 (b9 2)<|c9 3)<|c9 0)<|PD.pb<|d8 E6 (b9 1)<|PD.pb<|i5 (PD.pb<|i5 (b9 2)<|c9 4)<|c9 0))<|λ_=>C1)<|c9 4) n6)
   (c7 (w6 (j9 (M8 hu) (PD.pb<|d8 B0 (PD.pb<|d8 D7 (b9 2) A9) A9) A9) (c7 (j3 6 (i5 (b9 1)<|c9 3) nd)
   (c7 (kN 1 (i5 (b9 1)<|c9 4)<|c9 3)
   (d5<|kN 1 (c9 6)<|c9 4))) n6)
   (d5<|w6 (j9 (M8 hu) (PD.pb<|d8 B0 (PD.pb<|d8 D7 (b9 2) A9) A9) A9) (d5<|kN 1 (bU ["number"] [] [] rfl (aJ (sc:=c6 Q5) (N:=cT)) (F3<|i5 (b9 1)<|c9 3) (RB λ_ _ _ _ _=>(gO<|c9 0))<|λ_=>C1)<|c9 3) n6))))))))
   (d5<|FG 1<|j2<|c9 1)))
 replace h:=dR h;obtain⟨xs,ds,rfl,h⟩:=h;replace h:=C6 h;obtain⟨rfl,h⟩:=h
 ·skip
  split at h
  ·rename_i hz;obtain⟨hi,hl⟩:=hz;rw[<-h];simp only[i3,aAu,aDR,aBo,aDm,aAv,aBO,aFV,aFW,aBh,aEv];refine ez (ρ:=[.v (.lst xs),.o (O7 IX),.no,.no,.no,.no,.no]) rfl ?_;simp only[lW,fQ,R.aa0,GD];refine jS (λrest ρ=>∃(r:R3) (a b c d e:Sl),ρ=[.v (.lst xs),.o (O7 r),a,b,c,d,e]/\Z9 2000000 rest/\rest.length<=5/\rJ (201-40*rest.length) r/\(rest.map AX).foldl Q7 r=Y1 xs) ?_ ⟨IX,_,_,_,_,_,rfl,hi,hl,rJ.mono (m:=1) ⟨⟨by decide,by decide,by decide⟩,⟨by decide,by decide,by decide⟩,by decide,by decide,by decide⟩ (by lia),rfl⟩ ?_
   ·rintro x rest ρ ⟨r,a,b,c',d,e,rfl,uu,ko,sr,fr⟩;obtain⟨c,rfl,hc⟩:=uu x aAK;rw[aAv]at ko sr;have sr':=xQ sr c;have sr2:rJ 300 r:=sr.mono (by lia);have fr':(rest.map AX).foldl Q7 (Q7 r c)=Y1 xs:=fr;have hi3:Z9 2000000 rest:=λy hy=>uu y (aAd _ hy);have keep:∀ρ2,(∃(s1 s2 s3 s4 s5:Sl),ρ2=[.v (.lst xs),.o (O7<|Q7 r c),s1,s2,s3,s4,s5])->∃(r:R3) (a b c d e:Sl),ρ2=[.v (.lst xs),.o (O7 r),a,b,c,d,e]/\Z9 2000000 rest/\rest.length<=5/\rJ (201-40*rest.length) r/\(rest.map AX).foldl Q7 r=Y1 xs:=λρ2 ⟨s1,s2,s3,s4,s5,h⟩=>⟨_,s1,s2,s3,s4,s5,h,hi3,by lia,sr'.mono (by lia),fr'⟩
    suffices hh:∃ρ2,iV (λd ρ=>R.ok (ρ.set 2<|Sl.v d)) _ (D.int c) [.v (.lst xs),.o (O7 r),a,b,c',d,e]=.ok (.nx ρ2)/\∃(s1 s2 s3 s4 s5:Sl),ρ2=[.v (.lst xs),.o (O7<|Q7 r c),s1,s2,s3,s4,s5]by obtain⟨ρ2,h1,h2⟩:=hh;exact⟨ρ2,h1,keep ρ2 h2⟩
    clear keep fr fr' uu hi3 sr sr' ko;have m3:U8 (.int c) (.int 3)=.ok (.int (c.fmod 3)):=cJ (by decide);have d3:X3 (.int c) (.int 3)=.ok (.int (c.fdiv 3)):=jF (by decide) (by decide);have m2:U8 (.int (c.fdiv 3)) (.int 2)=.ok (.int ((c.fdiv 3).fmod 2)):=cJ (by decide);have m3':U8 (.int (c.fmod 3+1+(c.fdiv 3).fmod 2)) (.int 3)=.ok (.int (jx c)):=cJ (by decide);have d6:X3 (.int c) (.int 6)=.ok (.int (c.fdiv 6)):=jF (by decide) (by decide);have m7:U8 (.int (c.fdiv 6)) (.int 7)=.ok (.int ((c.fdiv 6).fmod 7)):=cJ (by decide);have vg:X3 (.int c) (.int 210)=.ok (.int (c.fdiv 210)):=jF (by decide) (by decide);have m8:U8 (.int (c.fdiv 210)) (.int 8)=.ok (.int ((c.fdiv 210).fmod 8)):=cJ (by decide);have d42:X3 (.int c) (.int 42)=.ok (.int (c.fdiv 42)):=jF (by decide) (by decide);have m5:U8 (.int (c.fdiv 42)) (.int 5)=.ok (.int ((c.fdiv 42).fmod 5)):=cJ (by decide);have p9:BH (.int 10) (.int 9)=.ok (.int 1000000000):=rfl;have i0:=J2 (a:=c) (b:=3) (by decide);have j0:0<=jx c/\jx c<3:=J2 (by decide);have q0:=J2 (a:=c.fdiv 42) (b:=5) (by decide);have t0:=J2 (a:=c.fdiv 6) (b:=7) (by decide);have mt:wD (.int ((c.fdiv 6).fmod 7-3)) (.int 1000000007)=.ok (.int (((c.fdiv 6).fmod 7-3)*1000000007)):=o6 (A3.of (k9 (n:=10) (by lia) (by lia)) (show bits 1000000007<=40 by decide));have tb:=yR c;have gi:=sr2.get (c.fmod 3);have mx:∀y,bits y<=300->wD (.int (NK c)) (.int y)=.ok (.int (NK c*y)):=λy hy=>o6 (A3.of tb hy);have mx1:=mx _ gi.1;have mx2:=mx _ gi.2.1;have mx3:=mx _ gi.2.2;have ai:∀r,O5 (.lst (O7 r)) (.int (c.fmod 3))=.ok (vl<|bP r<|c.fmod 3):=λr=>FA r i0.1 i0.2;have aj:∀r,O5 (.lst (O7 r)) (.int (jx c))=.ok (vl<|bP r<|jx c):=λr=>FA r j0.1 j0.2;have si:=λr v a ρ=>QE r i0.1 i0.2 v a ρ;have sj:=λr v a ρ=>QE r j0.1 j0.2 v a ρ;have si2:=λr x y z a ρ=>XC r i0.1 i0.2 x y z a ρ;have sj2:=λr x y z a ρ=>XC r j0.1 j0.2 x y z a ρ;unfold Q7;have et:NK c=if(c.fdiv 210).fmod 8=5 then((c.fdiv 6).fmod 7-3)*1000000007 else(c.fdiv 6).fmod 7-3:=rfl
    generalize NK c=tt at*
    generalize jx c=jj at*
    generalize c.fmod 3=ii at*
    generalize(c.fdiv 42).fmod 5=qq at*
    by_cases h8:(c.fdiv 210).fmod 8=5
    ·rw[if_pos h8]at et;rw[<-et]at mt;by_cases q1:qq<3
     ·have q3:¬qq=3:=by lia
      have q4:¬qq=4:=by lia
      simp[m3,d3,m2,m3',d6,m7,vg,m8,d42,m5,p9,h8,mt,q1,q3,q4,XA,j1,sizeLine,ai,aj,rj,tx,iw,mx1,mx2,mx3,JO,sj2]
     ·by_cases q3:qq=3
      ·subst q3;simp[m3,d3,m2,m3',d6,m7,vg,m8,d42,m5,p9,h8,mt,ai,aj,si,sj]
      ·have q4:qq=4:=by lia
       subst q4;simp[m3,d3,m2,m3',d6,m7,vg,m8,d42,m5,p9,h8,mt,ai,aj,j1,sizeLine,DT,si2]
    ·rw[if_neg h8]at et;rw[<-et]at mt;by_cases q1:qq<3
     ·have q3:¬qq=3:=by lia
      have q4:¬qq=4:=by lia
      simp[m3,d3,m2,m3',d6,m7,vg,m8,d42,m5,h8,<-et,q1,q3,q4,XA,j1,sizeLine,ai,aj,rj,tx,iw,mx1,mx2,mx3,JO,sj2]
     ·by_cases q3:qq=3
      ·subst q3;simp[m3,d3,m2,m3',d6,m7,vg,m8,d42,m5,h8,ai,aj,si,sj]
      ·have q4:qq=4:=by lia
       subst q4;simp[m3,d3,m2,m3',d6,m7,vg,m8,d42,m5,h8,ai,aj,j1,sizeLine,DT,si2]
   ·rintro ρ ⟨r,a,b,c,d,e,rfl,_,_,_,fr⟩;have fr:r=Y1 xs:=fr;rw[fr];simp[rG]
  ·cases h
end
def eJ (cQ:u4 P w K mg base 1 "_law_rows" 1 uC)(ir:mg "tuple"=none)(g:aL K mg "_law_move" cV):u4 P w K mg base 2 "_law_move" 2 vU:=by
 refine' m6 (k:=1) (F:=_) g vK (λhr hu fu nd=>?b) λds d hl h=>?_
 case b=>
  refine' (c7 (j3 2 (qU cQ hr<|c9 0) nd)
   (c7 (j3 3 (JJ (d8 L9 (PD.pb<|d8 B0 (b9 1) A9) A9) (d8 L9 (PD.pb<|d8 B0 (PD.pb<|d8 D7 (b9 1) A9) A9) A9)<|d8 L9 (PD.pb<|d8 B0 (PD.pb<|d8 D7 (b9 1) A9)<|PD.pb<|d8 wI A9 A9)<|PD.pb<|d8 wI A9 A9) nd)
   (d5<|j2<|d8 t5 (PD.pb<|eN xE<|u6 (PD.pb<|d8 t5 (PD.pb<|d8 t5 (PD.pb<|i5 (b9 2) d4)<|PD.pb<|i5 (b9 2) d4)<|PD.pb<|i5 (b9 2) d4) K0)<|b9 3)))
 replace h:=dR h;obtain⟨xs,ds,rfl,h⟩:=h;replace h:=YL h;obtain⟨f,ds,rfl,h⟩:=h;replace h:=C6 h;obtain⟨rfl,h⟩:=h
 ·skip
  split at h
  ·rename_i hz;obtain⟨hi,hl,hf⟩:=hz;rw[<-h];have e:uC [.lst xs]=.ok (.lst (O7<|Y1 xs)):=if_pos ⟨hi,hl⟩;generalize Y1 xs=r at*
   have p12:BH (.int 10) (.int 12)=.ok (.int 1000000000000):=rfl;have p6:BH (.int 10) (.int 6)=.ok (.int 1000000):=rfl;have m41:U8 (.int f) (.int 41)=.ok (.int (f.fmod 41)):=cJ (by decide);have d41:X3 (.int f) (.int 41)=.ok (.int (f.fdiv 41)):=jF (by decide) (by decide);have m2001:U8 (.int (f.fdiv 41)) (.int 2001)=.ok (.int ((f.fdiv 41).fmod 2001)):=cJ (by decide);have d7:X3 (.int f) (.int 7)=.ok (.int (f.fdiv 7)):=jF (by decide) (by decide);have mT:U8 (.int (f.fdiv 7)) (.int 1000000000000)=.ok (.int ((f.fdiv 7).fmod 1000000000000)):=cJ (by decide);have x0:O5 (.lst (O7 r)) (.int 0)=.ok (vl r.1):=rfl;have x1:O5 (.lst (O7 r)) (.int 1)=.ok (vl r.2.1):=rfl;have x2:O5 (.lst (O7 r)) (.int 2)=.ok (vl r.2.2):=rfl;have ad1:aQ (vl r.1) (vl r.2.1)=.ok (.lst [.int r.1.x,.int r.1.y,.int r.1.z,.int r.2.1.x,.int r.2.1.y,.int r.2.1.z]):=rfl;have ad2:aQ (.lst [.int r.1.x,.int r.1.y,.int r.1.z,.int r.2.1.x,.int r.2.1.y,.int r.2.1.z]) (vl r.2.2)=.ok (.lst [.int r.1.x,.int r.1.y,.int r.1.z,.int r.2.1.x,.int r.2.1.y,.int r.2.1.z,.int r.2.2.x,.int r.2.2.y,.int r.2.2.z]):=rfl;have ad3:=MI (xs:=[.int r.1.x,.int r.1.y,.int r.1.z,.int r.2.1.x,.int r.2.1.y,.int r.2.1.z,.int r.2.2.x,.int r.2.2.y,.int r.2.2.z]) (ys:=[.int (f.fmod 41-20),.int ((f.fdiv 41).fmod 2001-1000),.int ((f.fdiv 7).fmod 1000000000000-1000000)]) (by simp);simp[i3,e,p12,p6,m41,d41,m2001,d7,mT,x0,x1,x2,ad1,ad2,ad3,WD]
  ·cases h
section
seal PySem.eval
def cM (ir:mg "tuple"=none)(ig:mg "list"=none)(g:aL K mg "_law_none" Y8):u4 P w K mg base 1 "_law_none" 2 pH:=by
 refine' m6 (k:=0) (F:=_) g wJ (λhr hu fu nd=>?b) λds d hl h=>?_
 case b=>
  refine' (c7 (j3 2 (d8 B0 (b9 1) A9) nd)
   (c7 (j3 3 (d8 E6 A9<|PD.pb<|d8 B0 (PD.pb<|d8 D7 (b9 1) A9) A9) nd)
   (c7 (w6 (j9 xT (b9 2) A9) (c7 (j3 4 (i5 (PD.pb<|Z3<|c8 (d8 t5 A9<|PD.pb<|d8 B0 (PD.pb<|d8 D7 (b9 1) A9) A9)<|c8 (d8 L9 (PD.pb<|gO d4)<|PD.pb<|d8 B0 (PD.pb<|d8 D7 (b9 1) A9) A9)<|c8 d4 j5)<|c9 2) nd)
   (d5<|j2<|d8 t5 (PD.pb<|d8 t5 (PD.pb<|W8 (b9 0) J3<|t9<|c9 3)<|PD.pb<|eN xE<|u6 (PD.pb<|bU ["number"] ["times_v"] [4] rfl (aJ (sc:=c6 Y8) (N:=lR)) (uU<|W8 (b9 0) (t9<|c9 3)<|t9<|d8 t5 (b9 3) A9) (RB λ_ _ _ _ _=>(d8 E6 (b9 0)<|b9 1))<|λ_=>C1) K0)<|PD.pb<|W8 (b9 0) (t9<|d8 t5 (b9 3) A9) J3)) n6)
   (c7 (j3 5 (d8 t5 (PD.pb<|oJ<|c8 jB<|c8 d4<|c8 d4<|c8 d4<|c8 d4<|c8 d4<|c8 d4<|c8 d4<|c8 d4 j5)<|PD.pb<|W8 (b9 0) (t9 d4) J3) nd)
   (c7 (j3 6 (Z3<|c8 (d8 t5 (b9 0)<|PD.pb<|oJ<|c8 d4 j5)<|c8 (W8 (b9 0) J3<|t9 d4)<|c8 (eN DO<|u6 (b9 0) K0)<|c8 (c9 5)<|c8 NB<|c8 uL<|c8 (RY<|c9 0)<|c8 d4 j5) nd)
   (d5<|j2<|i5 (b9 6)<|d8 L9 (b9 2) A9))))))
 match ds,h with
 |[.tup xs,.int c],h=>
  simp only[pH]at h;split at h
  ·rename_i hz;obtain⟨⟨ns,rfl,hn,hb⟩,hk⟩:=hz;rw[zD]at h;rw[<-h];clear h;have hl:(ns.map D.int).length=12:=by rw[aAm];exact hn
   have m11:U8 (.int c) (.int 11)=.ok (.int (c.fmod 11)):=cJ (by decide);have d11:X3 (.int c) (.int 11)=.ok (.int (c.fdiv 11)):=jF (by decide) (by decide);have m3:U8 (.int (c.fdiv 11)) (.int 3)=.ok (.int ((c.fdiv 11).fmod 3)):=cJ (by decide);have d33:X3 (.int c) (.int 33)=.ok (.int (c.fdiv 33)):=jF (by decide) (by decide);have mT:U8 (.int (c.fdiv 33)) (.int 1000)=.ok (.int ((c.fdiv 33).fmod 1000)):=cJ (by decide);have hw:=J2 (a:=c) (b:=11) (by decide);have hr:=J2 (a:=c.fdiv 11) (b:=3) (by decide);have k3:wD (.int 3) (.int ((c.fdiv 11).fmod 3))=.ok (.int (3*(c.fdiv 11).fmod 3)):=o6 (A3.of (show bits 3<=5 by decide) (k9 (n:=10) (by lia) (by lia)));unfold jQ;dsimp only;by_cases w3:c.fmod 11<3
   ·rw[if_pos w3];have ht:=(qC c w3).2.2;have ix:O5 (.lst [.int (2+(c.fdiv 33).fmod 1000),.int (-2-(c.fdiv 33).fmod 1000),.int 0]) (.int (c.fmod 11))=.ok (.int (uN c)):=by unfold uN;rcases(show c.fmod 11=0\/c.fmod 11=1\/c.fmod 11=2 by lia)with e|e|e<;>rw[e]<;>rfl
    generalize uN c=tt at*
    generalize(c.fdiv 11).fmod 3=r3 at*
    have T3:=DK (xs:=ns.map D.int) (i:=3*r3) (by lia) (by rw[hl];lia);have T4:=tN (xs:=ns.map D.int) (i:=3*r3+3) (by lia) (by rw[hl];lia);have T5:=iZ (xs:=ns.map D.int) (i:=3*r3) (j:=3*r3+3) (by lia) (by lia) (by rw[hl];lia) (by rw[hl];lia);have e2:(3*r3+3).toNat=(3*r3).toNat+3:=by lia
    have e3:(3*r3+3).toNat-(3*r3).toNat=3:=by lia
    rw[e2]at T4;rw[e3]at T5;rw[<-aEh]at T3;rw[<-aFX]at T4;rw[<-aFX,<-aEh]at T5;have lt:∀k,(ns.take k).length<=12:=λk=>by rw[aBl,hn];exact Nat.min_le_right _ _
    have ld:∀k,(ns.drop k).length<=12:=λk=>by rw[aDc,hn];exact Nat.sub_le _ _
    have lx:∀k,((ns.drop k).take 3).length<=3:=λk=>by rw[aBl];exact Nat.min_le_left _ _
    have hz:(((ns.drop (3*r3).toNat).take 3).map D.int).length<=sizeLine:=by rw[aAm];exact aAr (lx _) (by decide)
    have mw:∀m∈(ns.drop (3*r3).toNat).take 3,wD (.int m) (.int tt)=.ok (.int (m*tt)):=λm hm=>o6 (A3.of (hb m<|aCs<|aCN hm) ht);have cm:v8 (λd ρ=>R.ok (aDh ρ 0<|Sl.v d)) (λ_=>R.ok true) (λρ=>(wG 0 ρ).bind λx=>(wG 1 ρ).bind λy=>wD x y) [.no,.v (.int tt)] (((ns.drop (3*r3).toNat).take 3).map D.int)=.ok (((ns.drop (3*r3).toNat).take 3).map λm=>D.int (m*tt)):=nk _ λm hm=>mw m hm;have em:(((ns.drop (3*r3).toNat).take 3).map λm=>D.int (m*tt))=(((ns.drop (3*r3).toNat).take 3).map (· *tt)).map D.int:=by rw[aBx];rfl
    rw[em]at cm;have lm:(((ns.drop (3*r3).toNat).take 3).map (· *tt)).length<=3:=by rw[aAm];exact lx _
    have B3:=YD (ns.take (3*r3).toNat) (((ns.drop (3*r3).toNat).take 3).map (· *tt)) (by have:=lt (3*r3).toNat;lia);have B4:=YD (ns.take (3*r3).toNat++((ns.drop (3*r3).toNat).take 3).map (· *tt)) (ns.drop<|(3*r3).toNat+3) (by have:=lt (3*r3).toNat;have:=ld ((3*r3).toNat+3);rw[aAD];lia);clear em mw lx;generalize((ns.drop (3*r3).toNat).take 3).map (· *tt)=MS at*
    generalize((ns.drop (3*r3).toNat).take 3).map D.int=M0 at*
    generalize(ns.take (3*r3).toNat++MS++ns.drop ((3*r3).toNat+3)).map D.int=R1 at*
    generalize(ns.take (3*r3).toNat++MS).map D.int=R2 at*
    generalize(ns.take (3*r3).toNat).map D.int=R3 at*
    generalize(ns.drop<|(3*r3).toNat+3).map D.int=R4 at*
    have lq:(MS.map D.int).length<=sizeLine:=by rw[aAm];exact aAr lm (by decide)
    generalize MS.map D.int=R5 at*
    generalize ns.map D.int=NN at*
    have hz':M0.length<=16777216:=hz;have lq':R5.length<=16777216:=lq;simp[i3,j1,m11,d11,m3,k3,w3,d33,mT,ix,T3,T5,T4,hz,hz',cm,B3,B4,qA,sizeLine,BY,lq,lq']
   ·rw[if_neg w3];have x0:=YJ (xs:=fU ns) (i:=c.fmod 11-3) (by lia) (by simp[fU];lia);generalize c.fmod 11=w at*
    have T1:=DK (xs:=ns.map D.int) (i:=11) (by decide) (by rw[hl];decide);have T2:=tN (xs:=ns.map D.int) (i:=9) (by decide) (by rw[hl];decide);rw[<-aEh]at T1;rw[<-aFX]at T2;have T1:qQ (.tup (ns.map D.int)) none (some 11)=.ok (.tup ((ns.take 11).map D.int)):=T1;have T2:qQ (.tup (ns.map D.int)) (some 9) none=.ok (.tup ((ns.drop 9).map D.int)):=T2;have A1:aQ (.tup (ns.map D.int)) (.tup [.int 0])=.ok (.tup ((ns++[0]).map D.int)):=YD ns [0] (by simp[hn]);have A2:=MI (xs:=[.bl true,.int 0,.int 0,.int 0,.int 1,.int 0,.int 0,.int 0,.int 1]) (ys:=(ns.drop 9).map D.int) (by simp[hn]);have hz:(ns.map D.int).length<=16777216:=by rw[hl];decide
    unfold fU at x0⊢;generalize(ns++[0]).map D.int=R1 at*
    generalize(ns.take 11).map D.int=R2 at*
    generalize(ns.drop 9).map D.int=R3 at*
    generalize[D.bl true,.int 0,.int 0,.int 0,.int 1,.int 0,.int 0,.int 0,.int 1]++R3=R4 at*
    generalize ns.map D.int=NN at*
    simp[i3,m11,d11,m3,k3,w3,T1,T2,A1,A2,qA,oB,sizeLine,MT,hz,x0]
  ·cases h
end
def aG (pD:T9 P w K mg base 5 "moved" 2 (fO ae))(Z1:T9 P w K mg base 11 "body_moved" 2 (fO ae))(eI:T9 P w K mg base 5 "way_back" 1 (aZ ae))(eM:T9 P w K mg base 5 "behind" 2 (tJ ae))(g:aL K mg "_law_asked" bK):T9 P w K mg base 12 "_law_asked" 5 (yN ae):=by
 obtain⟨f,fd,je,F0⟩:=g;refine' fG (k:=11) (G:=_) F0 fR (F0.binds λ_ _ _ _ _ _ us hl=>match us,hl with|[_,_,_,_,_],_=>rfl) je (λcdv A outer s H E hr=>?hb) ?hm
 case hb=>
  have hu:=hr.units;have nd:=fR.nd;refine' (pI (w8 (rP (j9 (M8 hu) (b9 0) A9) (w8 (Q0 (Q4 C9 pD (hr.mono (by decide)) (c8 (c9 3)<|c8 (c9 1) j5)<|i7<|i7 u5))) V4))
   (oW (w6 (j9 (M8 hu) (b9 0) A9) (d5 M1) n6)
   (pI (w8 (rP (j9 (M8 hu) (b9 0) A9) (w8 (Q0 (Q4 C9 Z1 (hr.mono (by decide)) (c8 (c9 4)<|c8 (c9 1) j5)<|i7<|i7 u5))) V4))
   (oW (w6 (j9 (M8 hu) (b9 0) A9) (d5 M1) n6)
   (pI (w8 (rP (j9 (M8 hu) (b9 0) A9) (w8 (Q0 (Q4 C9 eI (hr.mono (by decide)) (c8 (c9 1) j5)<|i7 u5))) V4))
   (oW (w6 (j9 (M8 hu) (b9 0) A9) (d5 M1) n6)
   (pI (w8 (rP (j9 (M8 hu) (b9 0) A9) (w8 (Q0 (Q4 C9 eM (hr.mono (by decide)) (c8 (c9 1)<|c8 (c9 2) j5)<|i7<|i7 u5))) V4))
   (oW (w6 (j9 (M8 hu) (b9 0) A9) (d5 M1) n6)
   (w8 (rP (j9 (M8 hu) (b9 0) A9) (w8 (Q0 (Q4 C9 eM (hr.mono (by decide)) (c8 (c9 2)<|c8 (c9 1) j5)<|i7<|i7 u5))) V4))))))))))
 case hm=>
  intro ds C hl h;match ds,h with
  |[.int w,t,m,p,l],h=>
   simp only[yN]at h;split at h
   ·rename_i hz;rw[<-h];obtain⟨h0,h5,ht,hm⟩:=hz;have e1:=aR (c:=ae) ht;have e2:∀q,fO ae [q,t]=some (.ref ae):=λq=>KP ht;have e3:tJ ae [t,m]=some (.ref ae):=if_pos (.inl ht);have e4:tJ ae [m,t]=some (.ref ae):=if_pos (.inr ⟨hm,ht⟩);rcases(show w=0\/w=1\/w=2\/w=3\/w=4 by lia)with rfl|rfl|rfl|rfl|rfl
    ·simp[i3,mX,e2,dz]
    ·simp[i3,mX,e2,dz,rY]
    ·simp[i3,mX,e1,dz,rY]
    ·simp[i3,mX,e3,dz,rY]
    ·simp[i3,mX,e4,dz,rY]
   ·cases h
def W7 (ag:mg "isinstance"=none)(gv:mg "ValueError"=none)(aG:T9 P w K mg base 12 "_law_asked" 5 (yN ae))(fm:XCls K mg af "BodyError" af)(dc:XCls K mg af "NoMove" ae)(la:mg "NoAxis"=some (.ref df))(rh:mg "Flat"=some (.ref jf))(jo:mg "NoMove"=some (.ref ae))(oh:mg "NoRow"=some (.ref gu))(jg:mg "NoPoints"=some (.ref br))(lb:mg "NoName"=some (.ref dh))(jh:mg "TooGreat"=some (.ref bu))(lg:mg "NoText"=some (.ref dg))(i_NoMove_NoAxis:PySem.W.kitOne K (.ref ae) (.ref df)=some false)(i_NoMove_Flat:PySem.W.kitOne K (.ref ae) (.ref jf)=some false)(i_NoMove_ValueError:PySem.W.kitOne K (.ref ae) (.type "ValueError")=some true)(i_NoMove_NoMove:PySem.W.kitOne K (.ref ae) (.ref ae)=some true)(i_NoMove_NoRow:PySem.W.kitOne K (.ref ae) (.ref gu)=some false)(i_NoMove_NoPoints:PySem.W.kitOne K (.ref ae) (.ref br)=some false)(i_NoMove_NoName:PySem.W.kitOne K (.ref ae) (.ref dh)=some false)(i_NoMove_TooGreat:PySem.W.kitOne K (.ref ae) (.ref bu)=some false)(i_NoMove_NoText:PySem.W.kitOne K (.ref ae) (.ref dg)=some false)(g:aL K mg "_law_refused" W0):u4 P w K mg base 13 "_law_refused" 5 fB:=by
 refine' m6 (k:=12) (F:=_) g mJ (λhr hu fu nd=>?b) λds d hl h=>?_
 case b=>
  refine' (c7 (j3 5 (Z3 j5) nd)
   (c7 (VQ 6 (OC ae) nd rfl rfl rfl (UT dc) fm.ex (by decide) fm.nm AT (by exact(NW (VS aG (hr.mono (by decide)) (c8 (c9 0)<|c8 (c9 1)<|c8 (c9 2)<|c8 (c9 3)<|c8 (c9 4) j5)<|i7<|i7<|i7<|i7<|i7 u5))) (by intro _;exact(c7 (j3 5 (Z3 (c8 (Y6 (K:=K) (i:=6) jo ag) (c8 (RP (K:=K) (i:=6) (T:= "ValueError") (by decide+kernel) gv ag)<|c8 (Y6 (K:=K) (i:=6) rh ag)<|c8 (Y6 (K:=K) (i:=6) la ag) j5))) nd)
   (c7 (j3 5 (d8 t5 (b9 5)<|PD.pb<|Z3<|c8 (Y6 (K:=K) (i:=6) lb ag)<|c8 (Y6 (K:=K) (i:=6) jg ag)<|c8 (Y6 (K:=K) (i:=6) oh ag) j5) nd)
   (d5<|j3 5 (d8 t5 (b9 5)<|PD.pb<|Z3<|c8 (Y6 (K:=K) (i:=6) lg ag)<|c8 (Y6 (K:=K) (i:=6) jh ag) j5) nd)))))
   (d5<|j2<|BF (M8 hu) (b9 5)<|PD.pb<|d8 t5 (PD.pb<|Z3<|c8 jB<|c8 jB j5)<|PD.pb<|YZ (lG<|c8 jB j5) d4)))
 match ds,h with
 |[.int w,t,m,p,l],h=>
  simp only[fB]at h;split at h
  ·rename_i hz;rw[<-h];have e1:yN ae [.int w,t,m,p,l]=some (.ref ae):=if_pos hz;have oF:=dc.ok;have qc:OC ae (.ref ae)=true:=by simp[OC]
   simp[i3,ZA,mX,e1,qc,kw,oF,i_NoMove_Flat,i_NoMove_ValueError,i_NoMove_NoAxis,i_NoMove_NoMove,i_NoMove_NoName,i_NoMove_NoPoints,i_NoMove_NoRow,i_NoMove_NoText,i_NoMove_TooGreat,unset,ax,sizeLine,aQ];rfl
  ·cases h
section
seal PySem.eval
def o_law {f:Addr}{fd:FuncData}(dP:u4 P w K mg base 1 "_law_cell" 2 X6)(eJ:u4 P w K mg base 2 "_law_move" 2 vU)(nM:u4 P w K mg base 5 "moved" 2 mZ)(cM:u4 P w K mg base 1 "_law_none" 2 pH)(W7:u4 P w K mg base 13 "_law_refused" 5 fB)(bF:u4 P w K mg base 11 "body_moved" 2 N1)(kg:mg "range"=none)(b_max:mg "max"=none)(ug:mg "min"=none)(ia:mg "len"=none)(ig:mg "list"=none)(F0:Fun K "law" "law" fN f fd):FnOk P w K mg base vE 14 f fd ["script"] (gy K 1 iT):=by
 refine' fnD (k:=13) (F:=_) F0 NT (λcdv A outer s H E hr=>?b) λds d hl h=>?_
 case b=>
  have hu:=hr.units;have fu:=hr.ae4;have nd:=NT.nd;refine' (c7 (U6 aBy rfl (eY<|u6 A9<|u6 (PD.pb<|jA (TX rfl)<|u6 A9<|u6 (PD.pb<|jA (RU rfl)<|u6 (PD.pb<|NP gZ<|b9 0)<|u6 A9 K0) K0)<|u6 A9 K0) (F6 1 nd) (c7 (xU 2 ["j"] ["script", "k"] [0,1] nd rfl (aJ (sc:=c6 fN) (N:=VZ)) (eY<|u6 A9 K0) (RB λ_ _ _ _ _=>(cH dP hr (c9 1)<|d8 t5 (b9 2)<|b9 0))<|λ_=>C1)
   (c7 (j3 3 (cH eJ hr (W8 (b9 2) J3<|t9 d4)<|i5 (b9 2) d4) nd)
   (c7 (j3 4 (JJ (d8 L9 (PD.pb<|d8 B0 (PD.pb<|i5 (b9 2) d4) A9) A9) (d8 B0 (PD.pb<|i5 (b9 2) d4)<|PD.pb<|d8 wI A9 A9)<|d8 L9 (PD.pb<|d8 B0 (PD.pb<|i5 (b9 2) d4) A9) A9) nd)
   (c7 (j3 5 (Z3<|c8 (JJ d4 d4 d4)<|c8 (JJ d4 d4<|d8 t5 A9<|PD.pb<|d8 B0 (PD.pb<|i5 (b9 2) d4) A9)<|c8 (JJ d4 d4<|d8 B0 (PD.pb<|i5 (b9 2) d4) A9)<|c8 (JJ d4 (d8 B0 (PD.pb<|i5 (b9 2) d4) A9) d4) j5) nd)
   (c7 (j3 6 (cH nM hr (c9 4)<|c9 3) nd)
   (c7 (j3 7 (cH cM hr (c9 3)<|d8 t5 (PD.pb<|d8 D7 (PD.pb<|i5 (b9 2) d4) A9)<|b9 1) nd)
   (c7 (U6 aBy rfl (eY<|u6 A9 K0) (F6 8 nd) (d5 (w6 (nK (jH (pJ W7 (hr.mono (by decide)) (c8 (c9 8)<|c8 (c9 7)<|c8 (c9 3)<|c8 (c9 4)<|c8 (eN DO<|u6 (b9 5) K0) j5)<|i7<|i7<|i7<|i7<|i7 u5))) (d5<|j2 jB) n6)))
   (d5<|w6 (JN.pt<|BS (j9 (rW hu) (PD.pb<|cH nM hr (c9 4)<|c9 3)<|b9 6)<|wE<|j9 (rW hu) (PD.pb<|NP gZ<|PD.pb<|cH bF hr (c9 5)<|c9 3) A9) (d5<|j2 jB) n6)))))))))
   (d5<|j2 jB))
 match ds,h with
 |[.lst xs],h=>
  simp only[iT]at h;split at h
  ·rename_i hz;obtain⟨hlen,hi⟩:=hz;rw[<-h];obtain⟨M,hM,hM0,hM1⟩:∃M:Int,(if(if(60:Int)<(xs.length:Int)then(60:Int)else(xs.length:Int))>6 then(if(60:Int)<(xs.length:Int)then(60:Int)else(xs.length:Int))else 6)=M/\0<M/\M<=60:=⟨_,rfl,by split<;>lia,by split<;>split<;>lia⟩;simp only[i3,aAu,aDR,aBo,aDm,aAv,aBO,aFV,aFW,aBh,aEv,jN,nG,NY,AA,R.aa0,wA,RV,UI,hM,UU (show oV 0 M 6 by refine⟨by decide,by decide,by decide,by decide,by lia,by lia⟩)];refine NR (λρ=>∃a b c d e f g h,ρ=[.v (.lst xs),a,b,c,d,e,f,g,h]) ?_ ⟨_,_,_,_,_,_,_,_,rfl⟩ (by rintro au ⟨a,b,c,d,e,f,g,h,rfl⟩;rfl);rintro d hd ρ ⟨z1,z2,z3,z4,z5,z6,z7,z8,rfl⟩;obtain⟨ii,mn,rfl⟩:=KZ hd;have hk:=UJ hM0 (by decide) ii mn;obtain⟨k,hk0,hkd⟩:∃k:Int,0+(ii:Int)*6=k/\0<=k/\k<60:=⟨_,rfl,by lia,by lia⟩;rw[hk0];obtain⟨c0,e0,xm⟩:=eU hi (k+0) (by lia) (by lia);obtain⟨c1,e1,hb1⟩:=eU hi (k+1) (by lia) (by lia);obtain⟨c2,e2,hb2⟩:=eU hi (k+2) (by lia) (by lia);obtain⟨c3,e3,hb3⟩:=eU hi (k+3) (by lia) (by lia);obtain⟨c4,e4,hb4⟩:=eU hi (k+4) (by lia) (by lia);obtain⟨c5,e5,hb5⟩:=eU hi (k+5) (by lia) (by lia);rw[Int.add_zero]at e0;rw[bZ];have r6:gH [.int 6]=.ok [.int 0,.int 1,.int 2,.int 3,.int 4,.int 5]:=rfl;obtain⟨F,eF,gF⟩:=VV (xs:=[.int c0,.int c1,.int c2,.int c3,.int c4]) (f:=c5) (EJ (ns:=[c0,c1,c2,c3,c4]) (by simp[xm,hb1,hb2,hb3,hb4])) (by simp) hb5;have s5:qQ (.lst [.int c0,.int c1,.int c2,.int c3,.int c4,.int c5]) none (some 5)=.ok (.lst [.int c0,.int c1,.int c2,.int c3,.int c4]):=rfl;have x0:O5 (.lst [.int c0,.int c1,.int c2,.int c3,.int c4,.int c5]) (.int 0)=.ok (.int c0):=rfl;have x1:O5 (.lst [.int c0,.int c1,.int c2,.int c3,.int c4,.int c5]) (.int 1)=.ok (.int c1):=rfl;have x2:O5 (.lst [.int c0,.int c1,.int c2,.int c3,.int c4,.int c5]) (.int 2)=.ok (.int c2):=rfl;have x3:O5 (.lst [.int c0,.int c1,.int c2,.int c3,.int c4,.int c5]) (.int 3)=.ok (.int c3):=rfl;have x4:O5 (.lst [.int c0,.int c1,.int c2,.int c3,.int c4,.int c5]) (.int 4)=.ok (.int c4):=rfl;have x5:O5 (.lst [.int c0,.int c1,.int c2,.int c3,.int c4,.int c5]) (.int 5)=.ok (.int c5):=rfl;have p12:BH (.int 10) (.int 12)=.ok (.int 1000000000000):=rfl;have m0:U8 (.int c0) (.int 41)=.ok (.int (c0.fmod 41)):=cJ (by decide);have m1:U8 (.int c1) (.int 1000000000000)=.ok (.int (c1.fmod 1000000000000)):=cJ (by decide);have m2:U8 (.int c2) (.int 41)=.ok (.int (c2.fmod 41)):=cJ (by decide);have m3:U8 (.int c3) (.int 9)=.ok (.int (c3.fmod 9)):=cJ (by decide);have m4:U8 (.int c4) (.int 9)=.ok (.int (c4.fmod 9)):=cJ (by decide);have m5:U8 (.int c5) (.int 9)=.ok (.int (c5.fmod 9)):=cJ (by decide);have d7:X3 (.int c5) (.int 7)=.ok (.int (c5.fdiv 7)):=jF (by decide) (by decide);have g0:=J2 (a:=c0) (b:=41) (by decide);have g1:=J2 (a:=c1) (b:=1000000000000) (by decide);have g2:=J2 (a:=c2) (b:=41) (by decide);have g3:=J2 (a:=c3) (b:=9) (by decide);have g4:=J2 (a:=c4) (b:=9) (by decide);have g5:=J2 (a:=c5) (b:=9) (by decide);obtain⟨P,eP⟩:∃P:G.V,P=⟨c0.fmod 41-20,c1.fmod 1000000000000,c2.fmod 41-20⟩:=⟨_,rfl⟩;have sP:Sz 100 P:=by rw[eP];exact⟨k9 (by lia) (by lia),k9 (by lia) (by lia),k9 (by lia) (by lia)⟩
   have vP:(.tup [.int (c0.fmod 41-20),.int (c1.fmod 1000000000000),.int (c2.fmod 41-20)]:D)=vd P:=by rw[eP]
   have mv:=QM (gF.mono (k:=100000) (by decide)) (sP.mono (n:=100000));have nv:=uq (G.o8 F P);have hk3:bits (c5.fdiv 7+k)<=3000000:=B5 (bits_add (n:=2000000) (bits_fdiv hb5) (B5 (k9 (a:=k) (n:=10) (by lia) (by lia))));have nn:=SE (MR gF.1) hk3;have nm:=JR gF (c5.fdiv 7+k);have im:=cy gF;rw[<-YG]at nn;generalize jQ (wj F) (c5.fdiv 7+k)=TH at*
   have rf:∀(w:Int) (p l:D),0<=w->w<5->fB [.int w,TH,qL F,p,l]=.ok (.bl true):=λw p l h1 h2=>if_pos ⟨h1,h2,nm,im⟩;obtain⟨rs,b1,b2⟩:=PN (d:=1+c3.fmod 9) (e:=c4.fmod 9) (f:=c5.fmod 9) gF (by lia) g4 g5;have b2':(rs.length:Int)=4:=by lia
   clear g0 g1 g2 g3 g4 g5 eP nm im;generalize vd (G.o8 F P)=W at*
   generalize vd P=P' at*
   generalize qL F=FD at*
   refine jY (by simp[j1,r6,sizeLine,e0,e1,e2,e3,e4,e5];rfl) ?_;refine jY (by simp[s5,x5,eF];rfl) ?_;refine jY (by simp[x0,x1,x2,m0,m1,m2,p12,vP];rfl) ?_;refine jY (by simp[x3,x4,x5,m3,m4,m5,qA,sizeLine];rfl) ?_;have lz:MT [.lst [.tup [.int 0,.int 0,.int 0],.tup [.int 0,.int 0,.int (1+c3.fmod 9)],.tup [.int 0,.int 2,.int (c4.fmod 9)],.tup [.int 3,.int (c5.fmod 9),.int 1]]]=.ok (.lst [.tup [.int 0,.int 0,.int 0],.tup [.int 0,.int 0,.int (1+c3.fmod 9)],.tup [.int 0,.int 2,.int (c4.fmod 9)],.tup [.int 3,.int (c5.fmod 9),.int 1]]):=rfl;generalize(.lst [.tup [.int 0,.int 0,.int 0],.tup [.int 0,.int 0,.int (1+c3.fmod 9)],.tup [.int 0,.int 2,.int (c4.fmod 9)],.tup [.int 3,.int (c5.fmod 9),.int 1]]:D)=LD at*
   refine jY (by simp[mv];rfl) ?_;refine jY (by simp[x5,d7,nn];rfl) ?_;generalize(.lst [.int c0,.int c1,.int c2,.int c3,.int c4,.int c5]:D)=CD at*
   have r5:gH [.int 5]=.ok [.int 0,.int 1,.int 2,.int 3,.int 4]:=rfl;simp only[jN,nG,AA,R.aa0,r5];refine YF (λρ=>∃z,ρ=[.v (.lst xs),.v (.int k),.v CD,.v FD,.v P',.v LD,.v W,.v TH,z]) (λd hd ρ hρ=>?_) ⟨_,rfl⟩ (λρ hρ=>?_)
   ·obtain⟨z,rfl⟩:=hρ;obtain⟨w,h0,h5,rfl⟩:∃w:Int,0<=w/\w<5/\d=.int w:=by simp only[aAe,aAw,or_false]at hd;rcases hd with rfl|rfl|rfl|rfl|rfl<;>exact⟨_,by decide,by decide,rfl⟩
    have q:=rf w P' LD h0 h5;simp[lz,q]
   ·obtain⟨z,rfl⟩:=hρ;exact⟨[.v (.lst xs),.v (.int k),.v CD,.v FD,.v P',.v LD,.v W,.v TH,z],by simp[mv,nv,b1,b2'],_,_,_,_,_,_,_,_,rfl⟩
  ·cases h
end
end
end K73
section
namespace K73
open PySem L2 DL M
def truth (ns:List Int)(h1:ns.length<=63)(h2:∀x∈ns,aAT x<=1048576):iT [.lst (ns.map D.int)]=.ok (.bl true):=by unfold iT;exact if_pos ⟨by simpa using h1,EJ h2⟩
end K73
namespace K73
open PySem L2 DL M
variable [Tabs]
def all_mk {l:PySem.W.OpenLaw}{w:World}{K:PySem.W.Frag}{h:Heap}{mg:Y0}{fa f38 Pt:Addr}(X:K.In h)(G:h.Ns mainGlobals mg)(hfa:mg "law"=some (.ref fa))
  (g0:Got K "is_whole" gW)
  (g1:Got K "way_between" Z0)
  (g2:Got K "put_together" V7)
  (g3:Got K "cross_of" gM)
  (g4:Got K "product_of" bM)
  (g5:Got K "common_divisor" P8)
  (g6:Got K "plane_through" S1)
  (g7:Got K "side_of" kY)
  (g8:Got K "first_real_way" P3)
  (g9:Got K "dimension_of" D3)
  (g10:Got K "refuse_flat" aF)
  (g11:Got K "points_on" Y5)
  (g12:Got K "plane_about" Z8)
  (g13:Got K "first_pair" bN)
  (g14:Got K "turn_of" kX)
  (g15:Got K "left_chain" bS)
  (g16:Got K "ring_of" lO)
  (g17:Got K "pairs_round" Z5)
  (g18:Got K "faces_from" bA)
  (g19:UM K "faces_of" L8 Pt)
  (g20:Got K "corners_in" bL)
  (g21:Got K "body_of" kG)
  (g22:Got K "rows_in" kO)
  (g23:Got K "taken_by" gI)
  (g24:Got K "stretch_of" bV)
  (g25:Got K "is_move" eT)
  (g26:Got K "refuse_no_move" K3)
  (g27:Got K "point_taken" aK)
  (g28:Got K "moved" nA)
  (g29:Got K "behind" oZ)
  (g30:Got K "way_back" fX)
  (g31:Got K "body_moved" N6)
  (g32:Got K "_law_cell" dG)
  (g33:Got K "_law_rows" Q5)
  (g34:Got K "_law_move" cV)
  (g35:Got K "_law_none" Y8)
  (g36:Got K "_law_asked" bK)
  (g37:Got K "_law_refused" W0)
  {od38 an38:Option Addr} {sl38:Array (Option Value)} {oc38 kV38 dc38 pm38 cd38 ct38:Value}
  (a38:PySem.W.nsIn K mainGlobals "law"=some (some (.ref f38))) (l38:K.lookup f38=some ⟨oc38,od38,.func (PySem.W.fnOf "law" "law" (G7 fN) (q8 fN) (c6 fN) .none kV38 dc38 pm38 an38 cd38 ct38),sl38⟩) (e38:PySem.W.codeIn K cd38 "law"=true) (k38:PySem.W.keepIn K (.ref f38)=true)
  (z_isinstance:PySem.W.nsIn K mainGlobals "isinstance"=some none)
  (z_bool:PySem.W.nsIn K mainGlobals "bool"=some none)
  (z_int:PySem.W.nsIn K mainGlobals "int"=some none)
  (z_abs:PySem.W.nsIn K mainGlobals "abs"=some none)
  (z_len:PySem.W.nsIn K mainGlobals "len"=some none)
  (z_any:PySem.W.nsIn K mainGlobals "any"=some none)
  (z_min:PySem.W.nsIn K mainGlobals "min"=some none)
  (z_list:PySem.W.nsIn K mainGlobals "list"=some none)
  (z_reversed:PySem.W.nsIn K mainGlobals "reversed"=some none)
  (z_zip:PySem.W.nsIn K mainGlobals "zip"=some none)
  (z_sorted:PySem.W.nsIn K mainGlobals "sorted"=some none)
  (z_set:PySem.W.nsIn K mainGlobals "set"=some none)
  (z_tuple:PySem.W.nsIn K mainGlobals "tuple"=some none)
  (z_all:PySem.W.nsIn K mainGlobals "all"=some none)
  (z_range:PySem.W.nsIn K mainGlobals "range"=some none)
  (z_ValueError:PySem.W.nsIn K mainGlobals "ValueError"=some none)
  (z_max:PySem.W.nsIn K mainGlobals "max"=some none)
  {mr:Addr} {dd_NO_WAY:Option Addr} {tk0_NO_WAY tk1_NO_WAY tk2_NO_WAY:Tok} {nn_NO_WAY:Nat} {ss_NO_WAY:Array (Option Value)}
  (ca_NO_WAY:PySem.W.nsIn K mainGlobals "NO_WAY"=some (some (.ref mr))) (cl_NO_WAY:K.lookup mr=some ⟨.type "tuple",dd_NO_WAY,.seq #[.int 0 tk0_NO_WAY,.int 0 tk1_NO_WAY,.int 0 tk2_NO_WAY] nn_NO_WAY,ss_NO_WAY⟩)
  (nt:(Pt,tbK)∈Tabs.tbs)
  {ae af df jf gu br dh bu dg:Addr} {cd_NoMove cd_BodyError:ClassData}
  (n_NoMove:PySem.W.nsIn K mainGlobals "NoMove"=some (some (.ref ae)))
  (n_BodyError:PySem.W.nsIn K mainGlobals "BodyError"=some (some (.ref af)))
  (n_NoAxis:PySem.W.nsIn K mainGlobals "NoAxis"=some (some (.ref df)))
  (n_Flat:PySem.W.nsIn K mainGlobals "Flat"=some (some (.ref jf)))
  (n_NoRow:PySem.W.nsIn K mainGlobals "NoRow"=some (some (.ref gu)))
  (n_NoPoints:PySem.W.nsIn K mainGlobals "NoPoints"=some (some (.ref br)))
  (n_NoName:PySem.W.nsIn K mainGlobals "NoName"=some (some (.ref dh)))
  (n_TooGreat:PySem.W.nsIn K mainGlobals "TooGreat"=some (some (.ref bu)))
  (n_NoText:PySem.W.nsIn K mainGlobals "NoText"=some (some (.ref dg)))
  (e_NoMove:PySem.W.excIn K ae vBm "ValueError.__new__"=true) (h1_NoMove:PySem.W.clsIn K ae=some cd_NoMove) (h2_NoMove:PySem.W.mroIn K ae (.type "object")=some true) (h3_NoMove:PySem.W.mroIn K ae (.type "BaseException")=some true)
  (h4_NoMove:PySem.W.findIn K (.ref ae) "__class__"=some (some (.builtin "object.__class__"))) (h5_NoMove:PySem.W.findIn K (.ref ae) "__getattribute__"=some (some (.builtin "BaseException.__getattribute__"))) (h6_NoMove:PySem.W.findIn K (.ref ae) "__getattr__"=some none) (s_NoMove:PySem.W.mroIn K ae (.ref af)=some true)
  (e_BodyError:PySem.W.excIn K af vBm "ValueError.__new__"=true) (h1_BodyError:PySem.W.clsIn K af=some cd_BodyError) (h2_BodyError:PySem.W.mroIn K af (.type "object")=some true) (h3_BodyError:PySem.W.mroIn K af (.type "BaseException")=some true)
  (h4_BodyError:PySem.W.findIn K (.ref af) "__class__"=some (some (.builtin "object.__class__"))) (h5_BodyError:PySem.W.findIn K (.ref af) "__getattribute__"=some (some (.builtin "BaseException.__getattribute__"))) (h6_BodyError:PySem.W.findIn K (.ref af) "__getattr__"=some none) (s_BodyError:PySem.W.mroIn K af (.ref af)=some true)
  (i_NoMove_NoAxis:PySem.W.kitOne K (.ref ae) (.ref df)=some false)
  (i_NoMove_Flat:PySem.W.kitOne K (.ref ae) (.ref jf)=some false)
  (i_NoMove_ValueError:PySem.W.kitOne K (.ref ae) (.type "ValueError")=some true)
  (i_NoMove_NoMove:PySem.W.kitOne K (.ref ae) (.ref ae)=some true)
  (i_NoMove_NoRow:PySem.W.kitOne K (.ref ae) (.ref gu)=some false)
  (i_NoMove_NoPoints:PySem.W.kitOne K (.ref ae) (.ref br)=some false)
  (i_NoMove_NoName:PySem.W.kitOne K (.ref ae) (.ref dh)=some false)
  (i_NoMove_TooGreat:PySem.W.kitOne K (.ref ae) (.ref bu)=some false)
  (i_NoMove_NoText:PySem.W.kitOne K (.ref ae) (.ref dg)=some false)
  (truth:∀ns:List Int,ns.length<=63->(∀x∈ns,aAT x<=1048576)->iT [.lst (ns.map D.int)]=.ok (.bl true)):
  ∃fd:FuncData,(∀(s:Shared) (v:Value),BindsTo s fd ⟨[v],[]⟩ [("script",v)])/\∀base:Heap,K.In base->base.Ns mainGlobals mg->iI mg base->FnOk l.prog w K mg base vE 14 fa fd ["script"] (uR K):=by
 have e:=hfa.symm.trans (PySem.W.mg_of X G a38);cases e;have ag:=PySem.W.mg_none_of X G z_isinstance;have ye:=PySem.W.mg_none_of X G z_bool;have b_int:=PySem.W.mg_none_of X G z_int;have uf:=PySem.W.mg_none_of X G z_abs;have ia:=PySem.W.mg_none_of X G z_len;have b_any:=PySem.W.mg_none_of X G z_any;have ug:=PySem.W.mg_none_of X G z_min;have ig:=PySem.W.mg_none_of X G z_list;have ku:=PySem.W.mg_none_of X G z_reversed;have b_zip:=PySem.W.mg_none_of X G z_zip;have gc:=PySem.W.mg_none_of X G z_sorted;have uh:=PySem.W.mg_none_of X G z_set;have ir:=PySem.W.mg_none_of X G z_tuple;have b_all:=PySem.W.mg_none_of X G z_all;have kg:=PySem.W.mg_none_of X G z_range;have gv:=PySem.W.mg_none_of X G z_ValueError;have b_max:=PySem.W.mg_none_of X G z_max;have jo:=PySem.W.mg_of X G n_NoMove;have k_BodyError:=PySem.W.mg_of X G n_BodyError;have la:=PySem.W.mg_of X G n_NoAxis;have rh:=PySem.W.mg_of X G n_Flat;have oh:=PySem.W.mg_of X G n_NoRow;have jg:=PySem.W.mg_of X G n_NoPoints;have lb:=PySem.W.mg_of X G n_NoName;have jh:=PySem.W.mg_of X G n_TooGreat;have lg:=PySem.W.mg_of X G n_NoText;have dn:MD K mg "NO_WAY" [0,0,0]:=YA (PySem.W.mg_of X G ca_NO_WAY) cl_NO_WAY;have dc:XCls K mg af "NoMove" ae:=DS jo e_NoMove h1_NoMove h2_NoMove h3_NoMove h4_NoMove h5_NoMove h6_NoMove s_NoMove;have fm:XCls K mg af "BodyError" af:=DS k_BodyError e_BodyError h1_BodyError h2_BodyError h3_BodyError h4_BodyError h5_BodyError h6_BodyError s_BodyError;refine⟨PySem.W.fnOf "law" "law" (G7 fN) (q8 fN) (c6 fN) .none kV38 dc38 pm38 an38 cd38 ct38,λs v=>.of_eq rfl,λbase _ _ hB=>?_⟩;have r_is_whole:u4 l.prog w K mg base 1 "is_whole" 1 R6:=gP ag ye b_int (g0.def X G);have cu:u4 l.prog w K mg base 1 "way_between" 2 v9:=o9 (g1.def X G);have r_put_together:u4 l.prog w K mg base 1 "put_together" 2 N2:=W5 (g2.def X G);have eh:u4 l.prog w K mg base 1 "cross_of" 2 B8:=A7 (g3.def X G);have bg:u4 l.prog w K mg base 1 "product_of" 2 t6:=n8 (g4.def X G);have r_common_divisor:u4 l.prog w K mg base 1 "common_divisor" 1 D1:=P1 uf (g5.def X G);have r_plane_through:=S8 eh cu r_common_divisor bg (g6.def X G);have r_side_of:u4 l.prog w K mg base 1 "side_of" 2 aV:=kR (g7.def X G);have r_first_real_way:u4 l.prog w K mg base 1 "first_real_way" 1 A4:=K1 dn (g8.def X G);have il:=J1 cu r_first_real_way eh bg ia b_any (g9.def X G);have r_refuse_flat:=Z2 il (g10.def X G);have ju:=J4 r_side_of (g11.def X G);have jc:=L4 cu bg eh r_plane_through dn (g12.def X G);have r_first_pair:=cD ju jc il ug (g13.def X G);have r_turn_of:=kF bg eh cu (g14.def X G);have r_left_chain:=U7 r_turn_of ia (g15.def X G);have r_ring_of:=kL r_left_chain ig ku (g16.def X G);have r_pairs_round:u4 l.prog w K mg base 1 "pairs_round" 1 z9:=aI ig b_zip (g17.def X G);have r_faces_from:=bY jc r_ring_of r_pairs_round ia gc (g18.def X G);have r_faces_of:=gA ju r_refuse_flat r_first_pair r_faces_from gc uh hB nt (g19.def X G);have r_corners_in:u4 l.prog w K mg base 8 "corners_in" 1 J7:=bQ gc uh (g20.def X G);have r_body_of:=kQ r_corners_in r_faces_of (g21.def X G);have ng:u4 l.prog w K mg base 1 "rows_in" 1 V1:=aS (g22.def X G);have r_taken_by:=iD bg (g23.def X G);have r_stretch_of:=cA bg eh (g24.def X G);have nh:=aY r_stretch_of ng r_is_whole ia ag ir uf b_all (g25.def X G);have cp:u4 l.prog w K mg base 4 "refuse_no_move" 1 R8:=v7 nh (g26.def X G);have ba:T9 l.prog w K mg base 4 "refuse_no_move" 1 (aZ ae):=m9 nh dc (g26.def X G);have jd:=L6 r_put_together r_taken_by ng (g27.def X G);have r_moved:u4 l.prog w K mg base 5 "moved" 2 mZ:=nM cp jd (g28.def X G);have rx_moved:T9 l.prog w K mg base 5 "moved" 2 (fO ae):=pD ba (g28.def X G);have rx_behind:T9 l.prog w K mg base 5 "behind" 2 (tJ ae):=eM cp ba (g29.def X G);have rx_way_back:T9 l.prog w K mg base 5 "way_back" 1 (aZ ae):=eI ba (g30.def X G);have r_body_moved:u4 l.prog w K mg base 11 "body_moved" 2 N1:=bF cp r_body_of jd (g31.def X G);have rx_body_moved:T9 l.prog w K mg base 11 "body_moved" 2 (fO ae):=Z1 ba (g31.def X G);have r__law_cell:u4 l.prog w K mg base 1 "_law_cell" 2 X6:=dP ia (g32.def X G);have r__law_rows:u4 l.prog w K mg base 1 "_law_rows" 1 uC:=cQ kg (g33.def X G);have r__law_move:=eJ r__law_rows ir (g34.def X G);have r__law_none:u4 l.prog w K mg base 1 "_law_none" 2 pH:=cM ir ig (g35.def X G);have rx__law_asked:T9 l.prog w K mg base 12 "_law_asked" 5 (yN ae):=aG rx_moved rx_body_moved rx_way_back rx_behind (g36.def X G);have r__law_refused:=W7 ag gv rx__law_asked fm dc la rh jo oh jg lb jh lg i_NoMove_NoAxis i_NoMove_Flat i_NoMove_ValueError i_NoMove_NoMove i_NoMove_NoRow i_NoMove_NoPoints i_NoMove_NoName i_NoMove_TooGreat i_NoMove_NoText (g37.def X G);exact RH (o_law r__law_cell r__law_move r_moved r__law_none r__law_refused r_body_moved kg b_max ug ia ig<|MP (st:=fN) l38 e38 k38) truth
end K73
namespace PySem.W.Fast
def tw5746235711646954569:=0
def tw15402068505256409950:=0
def tw1719933984887378490:=0
def tw14122264940746534193:=0
def tw16980004285469518499:=0
def tw6406354099648613966:=0
def tw3141214352245601835:=0
def tw11886467943748978611:=0
def tw18219463843230909317:=0
def tw13708970796749444532:=0
def tw957575151591286097:=0
def tw1541138146426465935:=0
def tw14591973784728868238:=0
def tw13096961591254162432:=0
def tw941747798749151824:=0
def tw9449163771462844494:=0
def tw6073572248206202338:=0
def tw15192329920318952168:=0
def tw15537924551667159168:=0
def tw9732493705485183221:=0
def tw3474039428334122514:=0
def tw16708040144362129564:=0
def tw2936642460441727446:=0
def tw10294727672148122029:=0
def tw17888633212394718533:=0
def tw12198932096134477989:=0
def tw4346203557858364805:=0
def tw5991937499861809605:=0
def tw13940076893942734316:=0
def tw15723832448202815685:=0
def tw17858361192576894163:=0
def tw17287007981642104956:=0
def tw2719893532944846680:=0
def tw4362932100632980570:=0
def tw9643305662582852673:=0
def tw18329706272882141280:=0
def tw17034733316761433670:=0
def tw15132953145850522418:=0
def tw18088385012944784254:=0
def tw1752558573386824543:=0
def tw12607309131834191667:=0
def tw10801949455046340329:=0
def tw189035592874424060:=0
def tw8955948447515990754:=0
def tw7446113579554875487:=0
def tw4799560437461863843:=0
def tw18334504420420314387:=0
def tw820528142058060858:=0
def tw1180534468266521808:=0
def tw12290311111893827228:=0
def tw590828997883759355:=0
def tw16975305169449257088:=0
def tw11620342227427743425:=0
def tw6618812394675117308:=0
def tw8770080575229182443:=0
def tw10967704043193839417:=0
def tw4593337333849663774:=0
def tw17686354391812492269:=0
def tw17069341932290886939:=0
def tw4542361436699010547:=0
def tw11377140971410378587:=0
def tw14996044243746771685:=0
def tw18351481282558861075:=0
def tw7904118339465594783:=0
def tw12358595828267456243:=0
def tw1058101257455213957:=0
def tw7825053782055763315:=0
def tw4141440175901893223:=0
def tw1690089050594375429:=0
def tw8393875530804122919:=0
def tw5524789867825714600:=0
def tw4917325820012206910:=0
def tw1809040733152283902:=0
def tw3072993704424161041:=0
def tw10578651887486431706:=0
def tw17315664427296552713:=0
def tw7816989905094833234:=0
def tw16338078400228633562:=0
def tw4544009239883786348:=0
def tw13411788180493413554:=0
def tw6307975960189296378:=0
def tw6556832814928983665:=0
def tw6842098138035902926:=0
def tw6777264250029607914:=0
def tw2697798737993427401:=0
def tw10342888053977057194:=0
def tw8567501561341366133:=0
def tw16108278962747331499:=0
def tw12538446614591529305:=0
def tw14911052295837759481:=0
def tw15627509184671687172:=0
def tw6444099200749986066:=0
def tw13729880485942555107:=0
def tw348247971315365798:=0
def tw1778422649151807710:=0
def tw8720294007916440255:=0
def tw8743105477125739353:=0
def tw18050663366083288794:=0
def tw13187900402334397778:=0
def tw9556205891017683439:=0
def tw10549350341360674534:=0
def tw8874202048025534622:=0
def tw16274415557450098248:=0
def tw1850461908248919410:=0
def tw10932564765306870505:=0
def tw501399219981177207:=0
def tw1523123342001159576:=0
def tw14053569153053289662:=0
def tw11633155920565100404:=0
def tw2653502820181028753:=0
def tw8023327041930668631:=0
def tw880165593022876005:=0
def tw14897360377123203771:=0
def tw15974305697527684571:=0
def tw15823050847119521352:=0
def tw17646959471094165718:=0
def tw11757644206373439571:=0
def tw3055471826682478219:=0
def tw3675974139029340311:=0
def tw18368929543821804786:=0
def tw5954306471278282852:=0
def tw9767572939225717606:=0
def tw14388962039190777875:=0
def tw16829638776031569571:=0
def tw2517116847392327907:=0
def tw4921516605886728432:=0
def tw14692143529256284322:=0
def tw49122052577651324:=0
def tw2986926047190764351:=0
def tw9356318820187015750:=0
def tw12686032590823160852:=0
def tw18105496884398999279:=0
def tw702987807042152494:=0
def tw8535752407430421946:=0
def tw13683349939538521569:=0
def tw6179804809022675864:=0
def tw6630377820405653280:=0
def tw11089946830502766350:=0
def tw14512441795646551690:=0
def tw17851543775450517407:=0
def tw2065339311766682354:=0
def tw8760889240641032455:=0
def tw6335812614323574917:=0
def tw9718035099200366436:=0
def tw4430721157683198489:=0
def tw16128705052786796307:=0
def tw2448142121687658724:=0
def tw16038064466318030386:=0
def tw9537598085222532405:=0
def tw15623895645892342215:=0
def tw13572579856831450691:=0
def tw2585552271569831872:=0
def tw7208908279503544395:=0
def tw8495135832102726533:=0
def tw6292009291611102931:=0
def tw11415667337502540942:=0
def tw11995524687220401262:=0
def tw15184839354286929466:=0
def tw1566674188271875688:=0
def tw11142436784480923267:=0
def tw2053642445846852085:=0
def tw13412320532242074529:=0
def tw12841230955599835943:=0
def tw15404648165887346245:=0
def tw8983266634708345548:=0
def tw9455766879363742224:=0
def tw13177419642283398903:=0
def tw17346402127371266131:=0
def tw6801315609326731717:=0
def tw12720800435476571769:=0
def tw10173338706560229471:=0
def tw14186286238016117718:=0
def tw13038131591371289974:=0
def tw17179946723776185756:=0
def tw3559543881433468438:=0
def tw4686859124923178865:=0
def tw7121935502629524402:=0
def tw12315309643705255806:=0
def tw13938479907637286705:=0
def tw3809473630676906329:=0
def tw9902719205112118302:=0
def tw1039931903182919136:=0
def tw14892302099114155724:=0
def tw249702965093162949:=0
def tw11536708432310442360:=0
def tw11421199036174090038:=0
def tw8830602990930673192:=0
def tw13463273100700314254:=0
def tw2461265020938434478:=0
def tw4927042953483938577:=0
def tw642279109599236826:=0
def tw8982840797495719445:=0
def tw484708242807545813:=0
def tw8870341930010392978:=0
def tw6670563200970921419:=0
def tw2554965909718075874:=0
def tw9458446763957201036:=0
def tw13576168937710976993:=0
def tw345008362245286948:=0
def tw3824749157935984514:=0
def tw4643325216310720716:=0
def tw6635048670831579041:=0
def tw788311368682235421:=0
def tw10198115386120912856:=0
def tw12129759290581939434:=0
def tw12887942802856287956:=0
def tw16339154841468025325:=0
def tw10555214290921766540:=0
def tw9507380046818764217:=0
def tw14714242025978045473:=0
def tw12463157587474308317:=0
def tw16917951360134489832:=0
def tw7645314279124146296:=0
def tw10150687455001270010:=0
def tw10881001807032079062:=0
def tw11986130381529748453:=0
def tw12658121211406641387:=0
def tw14051157764840863163:=0
def tw16701939516910482437:=0
def tw179988319092065643:=0
def tw2844414476000107812:=0
def tw3075444084679746208:=0
def tw4097379287949260907:=0
def tw50066009197440853:=0
def tw5364149495855227891:=0
def tw6670630246256442069:=0
def tw8014116782501408756:=0
def tw9875656814861914429:=0
def tw13067953279801494933:=0
def tw14406405805644974295:=0
def tw2493277768001123781:=0
def tw13396526457114602846:=0
def tw15876310708714098091:=0
def tw8187075907224181150:=0
def tw13749525147598445444:=0
def tw16976865554897568813:=0
def tw4297709964297100863:=0
def tw8570801494315675328:=0
def tw5031885527659294045:=0
def tw10855996305482981445:=0
def tw13864994374499186766:=0
def tw17522182905469451237:=0
def tw3763208386315569460:=0
def tw14670574443002953158:=0
def tw4755789063395499525:=0
def tw17341498466692000924:=0
def tw11031358361084559988:=0
def tw15934389205469416923:=0
def tw2349733212482175743:=0
def tw14793368586755649665:=0
def tw2833090725841021918:=0
def tw10420258528156564147:=0
def tw16307053209353332779:=0
def tw8392197040111506288:=0
def tw11830573740140238671:=0
def tw17247170326904894163:=0
def tw5671822038172339867:=0
def tw8646353956063285399:=0
def tw2364747139276644548:=0
def tw10718395466693568780:=0
def tw16219070460175792938:=0
def tw414507774986537621:=0
def tw13902055462594340420:=0
def tw17116600508220720994:=0
def tw14036231570480370251:=0
def tw15573306174313526411:=0
def tw16711070838553511304:=0
def tw17493980596708767597:=0
def tw2959426731973849346:=0
def tw3515651362775980877:=0
def tw12672951249070585154:=0
def tw2153028326760938342:=0
def tw15737211157885650326:=0
def tw5038704810248491756:=0
def tw16171194149868027531:=0
def tw16585393573198421244:=0
def tw18043240035710844381:=0
def tw13791361887347425152:=0
def tw10901489981431544034:=0
def tw11202812503552825415:=0
def tw11385203161999979472:=0
def tw3857819238289687588:=0
def tw5956097148870010120:=0
def tw6634906660313106592:=0
def tw14419910504374156245:=0
def tw13203358592038629545:=0
def tw15208683595247417610:=0
def tw8723558077398681046:=0
def tw10164459680397461301:=0
def tw12138572639792862774:=0
def tw13031609302006249963:=0
def tw15738374819681942745:=0
def tw16267324123307138655:=0
def tw16870607428472213299:=0
def tw17648316632185105324:=0
def tw17697821778124759548:=0
def tw18430507150953473848:=0
def tw2624523195885205621:=0
def tw281143685691318919:=0
def tw6388317127685147385:=0
def tw6682713860738517200:=0
def tw6688781059713623548:=0
def tw8082867229433072403:=0
def tw8683874830291082097:=0
def tw10583336360417856877:=0
def tw12792906973770176998:=0
def tw14738577603912253697:=0
def tw2351833002605682830:=0
def tw2373868594939067738:=0
def tw2970676644585876374:=0
end PySem.W.Fast
open PySem PySem.W PyProof.Rows
set_option maxRecDepth 100000 in
theorem PySem.Challenge.cw_stakebodies_k73_no_moves_refused_holds : PySem.Challenge.rw_stakebodies_k73_no_moves_refused.Holds := by
 w_on;o_law;k_head;(case hw=>w_witness2)
 k_fill
 letI tabs9:DL.Tabs:=⟨[(262,K73.tbK)]⟩
 refine DL.SW (l:=PySem.Challenge.rw_stakebodies_k73_no_moves_refused) (k:=14) rfl rfl ⟨rfl,by decide,by decide⟩ (λw h Y=>⟨PySem.W.km_in_of Y,PySem.W.km_tabs_of Y⟩) (DL.TC (c:=266) (by k_mem) (λw=>by kernel_rfl)) (aAM.mpr ⟨aAw,aCw⟩) (λw=>by kernel_rfl) ?F
 case F=>
  intro w mg fa h KX G hmg;refine' K73.all_mk KX G hmg ?_ ?_ ?_ ?_ ?_ ?_ ?_ ?_ ?_ ?_ ?_ ?_ ?_ ?_ ?_ ?_ ?_ ?_ ?_ ?_ ?_ ?_ ?_ ?_ ?_ ?_ ?_ ?_ ?_ ?_ ?_ ?_ ?_ ?_ ?_ ?_ ?_ ?_ ?a38 ?l38 ?e38 ?k38 ?z_isinstance ?z_bool ?z_int ?z_abs ?z_len ?z_any ?z_min ?z_list ?z_reversed ?z_zip ?z_sorted ?z_set ?z_tuple ?z_all ?z_range ?z_ValueError ?z_max ?ca_NO_WAY ?cl_NO_WAY (aBb.mpr rfl) ?n_NoMove ?n_BodyError ?n_NoAxis ?n_Flat ?n_NoRow ?n_NoPoints ?n_NoName ?n_TooGreat ?n_NoText ?e_NoMove ?h1_NoMove ?h2_NoMove ?h3_NoMove ?h4_NoMove ?h5_NoMove ?h6_NoMove ?s_NoMove ?e_BodyError ?h1_BodyError ?h2_BodyError ?h3_BodyError ?h4_BodyError ?h5_BodyError ?h6_BodyError ?s_BodyError ?i_NoMove_NoAxis ?i_NoMove_Flat ?i_NoMove_ValueError ?i_NoMove_NoMove ?i_NoMove_NoRow ?i_NoMove_NoPoints ?i_NoMove_NoName ?i_NoMove_TooGreat ?i_NoMove_NoText K73.truth
  all_goals first|(refine' DL.bw ?a ?l ?c ?k;(case a=>k_is);(case l=>k_is);(case c=>k_is);(case k=>k_is))|(refine' DL.VO ?a ?l ?c ?k rfl ?n;(case a=>k_is);(case l=>k_is);(case c=>k_is);(case k=>k_is);(case n=>kernel_rfl))|k_is|k_exc|kit_is|skip
end
