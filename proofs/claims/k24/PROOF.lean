import PyProof.Rows.All
import Wide.All
import OpenK.AllK
import Wide.FinOn
import Lean
import PyProof.EqAt
import PyProof.EqKinds
import PyProof.TupleCall
import PyProof.NeKinds
import KE.RegKIsAll
import PyProof.ExcClass3
import PySem.SetTable
import PySem.Value
import PyProof.CollectIter
import PyProof.SetKind
import PyProof.Walks
import PyProof.ForAny
import PyProof.FactsAll.set_1
import PyProof.FactsAll.set_2
import PyProof.Rows.SortShellK
import PyProof.ZipIter
import KE.KRevIter
import PyProof.ListNew
import OpenK.KOwn
import PyProof.ConsumeS
import KE.KNestM
import KE.KIsAll
import PyProof.Rows.StrWeight2
import PyProof.DictWalks
import KE.KDictList
import PyProof.WalksMore
import PySem.Challenge.RW_stakebodies_k24_whole_edges_of_moved
set_option Elab.async false
set_option linter.all false
set_option backward.eqns.nonrecursive false
set_option maxRecDepth 100000
set_option maxHeartbeats 4000000
open PySem renaming wpAny_bind → aAa, wpAny_pure → aAb, wpAny_holding → aAK, wpAny_Call_Name_kw → aAM, wpAny_newObj_type → aBm, codeAny_builtin → aBn, wpAny_seqItems → aBp, plainId_quiet → aBt, wpAny_call_entry → aBv, wpAny_specialOf → aBw, wpAny_updateSeq → aBx, wpAny_truthy_bool → aBF, wpAny_setField_rec → aBU, wpAny_forIn_list → aBX, wpAny_mono → aCb, wpAny_setState_of → aCc, builtinLookup_eq_fast → aCj, wpAny_callSpecial?_slot → aCp, wpAny_field → aCJ, wpAny_letGo → aCL, wpAny_tryCatch → aCM, wpAny_passesOwn → aCO, wpAny_nextOf_list_item → aDe, wpAny_callSpecialIfBoundUnlessNone?_slot → aDj, wpAny_loadPart' → aDm, typeLookup_type → aDq, wpAny_rule → aDr, wpAny_pyIter_list → aDs, wpAny_isInstance → aDB, codeAny_mono → aDF, wpAny_typeOf → aDG, wpAny_comprehension_free → aDH, wpAny_standAt → aDJ, wpAny_execs_cons → aEd, wpAny_attempt → aEo, wpAny_execs_nil → aEr, pushCells_keeps → aEs, wpAny_setEntries_of → aEv, slot_dict_contains → aES, isSubtype_type → aET, wpAny_assign_Name → aEW, wpAny_Assign_Name → aEX, wpAny_pyIter_slot → aFh, sizeLine_eq → aFj, noFill_tuple_add → aFn, beq_builtin_none → aFp, wpAny_askSetting → aFq, concat_meets → aFA, wpAny_newTuple → aFU, wpAny_of_eq → aFW
open PySem.Heap renaming get?_push_of_some → aAc, lt_size → aAf, get?_push_size → aAp, get?_update_other → aAr, get?_update_self → aAS, size_push → aBo, get?_none_of_le → aEi
open List renaming mem_cons → aAd, mem_cons_of_mem → aAe, getElem?_eq_getElem → aAh, mem_map → aAi, length_map → aAl, size_toArray → aAm, getD_eq_getElem?_getD → aAn, mem_of_getElem? → aAt, length_cons → aAu, map_cons → aAv, getElem?_append_right → aAx, pairwise_cons → aAy, length_append → aAz, not_mem_nil → aAB, getElem?_eq_some_iff → aAC, nodup_cons → aAE, mem_append_right → aAF, getElem?_map → aAG, mem_cons_self → aAJ, mem_append → aAN, reverse_cons → aAP, getElem?_append_left → aAR, all_eq_true → aAW, lookup_cons → aAY, mem_singleton → aAZ, mem_flatMap → aBa, pairwise_map → aBg, getLast?_cons_cons → aBh, mem_map_of_mem → aBj, map_map → aBk, cons_append → aBl, getElem?_replicate → aBr, getElem_of_mem → aBs, range → aBy, getElem?_zip_eq_some → aBA, mem_append_left → aBB, zip_cons_cons → aBC, length_nil → aBD, lookup_cons_self → aBE, dropLast_concat → aBG, getElem?_set_self → aBH, getElem?_eq_none_iff → aBI, length_take → aBM, getElem_mem → aBN, getElem?_toArray → aBP, mem_filterMap → aBR, forall_mem_cons → aBW, nodup_iff_pairwise_ne → aBY, perm_ext_iff_of_nodup → aCa, pairwise_iff_getElem → aCe, append_nil → aCg, length_replicate → aCh, map_append → aCk, getElem?_set_ne → aCo, mem_range → aCr, filterMap_cons → aCv, length_reverse → aCx, set → aCE, set_cons_succ → aCF, set_cons_zero → aCG, replicate → aCH, nodup_nil → aCK, forIn_cons → aCR, nodup_append → aCS, getElem?_cons_zero → aCU, getElem?_cons_succ → aCV, mem_reverse → aDa, eq_nil_of_length_eq_zero → aDb, filterMap_map → aDf, map → aDi, mem_filter → aDk, mem_iff_getElem? → aDp, mem_of_mem_drop → aDu, drop_eq_getElem_cons → aDx, length_drop → aDA, length_pos_iff → aDD, map_congr_left → aDE, of_mem_zip → aDK, pairwise_singleton → aDM, sum_cons → aDP, take_of_length_le → aDQ, length_pos_of_mem → aDR, ext_getElem? → aDU, forIn_nil → aDV, dropLast_eq_take → aDX, pairwise_reverse → aDZ, getElem?_eq_none → aEa, any_eq_true → aEf, zipIdx_cons → aEg, getElem_map → aEh, mem_of_getLast? → aEj, mem_of_mem_take → aEm, foldl_cons → aEu, zipIdx_nil → aEx, nil_append → aEz, exists_cons_of_ne_nil → aEC, zip_nil_right → aEK, head?_reverse → aEM, getLast?_cons → aEN, exists_mem_of_ne_nil → aEV, zip_nil_left → aFb, append_assoc → aFd, length_erase_of_mem → aFg, eraseIdx_cons_succ → aFk, map_reverse → aFu, range_succ_eq_map → aFw, drop_eq_nil_of_le → aFy, length_set → aFB, map_nil → aFC, take_append_drop → aFE, length_dropLast → aFM, mem_erase_of_ne → aFQ, drop_zero → aFT, all_cons → aGc
open Nat renaming le_refl → aAg, ne_of_lt → aAj, le_trans → aAo, lt_of_lt_of_le → aAq, lt_irrefl → aAX, zero_le → aBc, lt_succ_of_lt → aBf, le_of_succ_le → aCu, ne_of_gt → aCD, lt_succ_self → aCZ, lt_of_le_of_lt → aDg, lt_or_eq_of_le → aDh, le_of_lt → aDl, mod_lt → aDT, mul_le_mul → aDW, le_of_eq → aDY, le_of_not_lt → aEe, mul_le_mul_right → aEn, zero_add → aEQ, le_of_lt_succ → aFi, gcd_dvd_left → aFo, le_add_right → aFr, not_lt_zero → aFG, min_eq_left → aFH, succ_mul → aFI, lt_trans → aGm, succ_pos → aGo
open False renaming elim → aAk
open Bool renaming false_eq_true → aAs, and_eq_true → aAI, false_ne_true → aAT, not_true → aCW, eq_iff_iff → aDo, and_false → aFS
open Int renaming mul_eq_zero → aAw, mul_le_mul_of_nonneg_left → aAD, le_of_lt → aAO, mul_le_mul_of_nonneg_right → aBd, mul_pos → aBe, eq_of_mul_eq_mul_left → aBJ, mul_neg_of_pos_of_neg → aBK, toNat_natCast → aCd, le_refl → aCn, mul_nonneg → aCt, mul_zero → aDI, mul_ediv_cancel' → aEk, mul_assoc → aEp, toNat → aEw, mul_lt_mul_of_pos_left → aEE, le_of_mul_le_mul_right → aEF, fmod_eq_emod_of_nonneg → aEG, natAbs_eq_zero → aEO, ofNat_dvd_left → aEP, le_of_mul_le_mul_left → aEU, neg_nonneg_of_nonpos → aFe, reduceMul → aFm, neg_mul_neg → aFD, gcd → aGk, mul_comm → aGp
open Array renaming getElem?_toList → aAA, getElem?_eq_getElem → aAH, length_toList → aAU, getElem?_eq_some_iff → aBZ, forIn_toList → aCm, getElem?_eq_none → aCz, replicate → aEt, perm_iff_toList_perm → aED, getD → aFf, toList → aFz, getElem_toList → aFR, toList_append → aFZ
open PySem.Builtin.Tuple renaming tupleHashOf → aAL, tupleExact → aCP, tupleItemsOf → aDt, tupleCompareSizes → aDS
open PySem.Around renaming under_plainId → aAQ, frames_deeper → aFK
open PySem.Builtin.Int renaming intBits → aAV
open PyProof.Rows renaming callWith_type1 → aBb, callWith_builtin1 → aBq, wpS_bind → aBu, wpS_pure → aCf, slot_tuple_getitem → aCs, wpS_forRange → aEb, listItems_at → aEc, envOfC → aEA, assignInOrder_cons → aEH, pairsOf_size → aER, KK_mirror_equal → aFF, mirror_perm → aFX, wpS_reverse → aFY
open PySem.PassesOwn renaming never → aBi
open PySem.Obj renaming mapSeq → aBz, putSet → aEq
open PySem.Builtin.SmallTypes renaming nextOf → aBL, ownedTupleIsFree → aBO, ownedTupleHandOut → aDz
open Ne renaming symm → aBQ
open Or renaming inr → aBS, inl → aCN
open PySem.NameKind renaming cell → aBT
open PySem.Builtin.List renaming listExtendWith → aBV, listLengthHint → aCw, listItems → aCA, listTooLong → aCQ, listSameRef → aCT, listTouch → aFx
open ForInStep renaming yield → aCi
open PySem.Value renaming type → aCl, bool → aDc, ref → aDv, notImplemented → aFL, builtin → aGd, int → aGr
open PySem.Builtin.Range renaming rangeSize → aCq, small → aFV
open PySem.Builtin.Builtins renaming bindParams → aCy
open PySem.F renaming plain_min_loop → aCB, plain_max_loop → aCC, plain_extend_loop → aCY, slot_zip_next → aDO, entry_min_loop → aFs, entry_max_loop → aFt
open PySem.Builtin.Slice renaming slicePlaces → aCI, sliceAdjust → aDw, sliceApplied → aEB
open Classical renaming propDecidable → aCX
open Option renaming map_eq_some_iff → aDd, isSome_iff_exists → aEZ
open PySem.Str renaming ofString → aDn
open PySem.SetTable renaming below → aDy, bits → aDN, fits → aGe, insertAt → aGl, tooFull → aGq
open PySem.Moved renaming trans → aDC
open PySem.SeqAt.EqAt renaming same → aDL, int_int → aEJ, of_refs → aEL, int_tuple → aFN, tuple_int → aFO, int_str → aGa, str_int → aGb
open List.cons renaming injEq → aEy
open PySem.Calls renaming spliced_cons → aEI, spliced_nil → aEY, callWith_builtin → aFv
open PySem.AutoSeq1 renaming sub_tuple_tuple → aFa
open PySem.Heap.SameBut renaming refl → aFc
open PySem.Builtin.Frozenset renaming slot0 → aFl
open Prod renaming ext → aFJ
open List.Pairwise renaming filter → aFP, nil → aGj
open Function renaming comp → aGf
open Sum renaming inl → aGg, inr → aGh
open Option.some renaming injEq → aGi
open PySem.pickOrder renaming go → aGn
open Array.Perm renaming refl → aGs
abbrev A3:=PySem.Value->PySem.Shared->Prop
abbrev L8:=List (PySem.Addr×PySem.Obj)
abbrev cP:=PySem.Str->Option PySem.Value
abbrev uX:=Bool->PySem.Shared->Prop
noncomputable section
namespace L2
open PySem PySem.Spec PyProof.Rows
abbrev yH:=Sum Int Str
def MI:yH->Value->Bool
 |.inl k,v=>Value.isInt k v
 |.inr x,v=>Value.isStrOf x v
def yj (w:World):yH->Int
 |.inl k=>hashInt k
 |.inr x=>hashStr w x
theorem A1:∀{k:yH} {v:Value},MI k v=true->(∃i t,k=aGg i/\v=aGr i t)\/(∃x t,k=aGh x/\v=Value.str x t)
 |.inl i,v,h=>by obtain⟨t,e⟩:=Value.isInt_shape (k:=i) (v:=v) h;exact .inl ⟨i,t,rfl,e⟩
 |.inr x,v,h=>by obtain⟨t,e⟩:=Value.isStrOf_shape (x:=x) (v:=v) h;exact .inr ⟨x,t,rfl,e⟩
def YA (a b:Int):decide ((aGg a:yH)=aGg b)=(a==b):=by
 by_cases e:a=b
 ·subst e;simp
 ·have h:¬(aGg a:yH)=aGg b:=λq=>e (Sum.inl.inj q);rw[decide_eq_false h];exact(beq_eq_false_iff_ne.mpr e).symm
def YI (a b:Str):decide ((aGh a:yH)=aGh b)=decide (a=b):=by
 by_cases e:a=b
 ·subst e;simp
 ·have h:¬(aGh a:yH)=aGh b:=λq=>e (Sum.inr.inj q);rw[decide_eq_false h,decide_eq_false e]
def VT (a:Int)(b:Str):decide ((aGg a:yH)=aGh b)=false:=decide_eq_false (λq=>nomatch q)
def VS (a:Str)(b:Int):decide ((aGh a:yH)=aGg b)=false:=decide_eq_false (λq=>nomatch q)
def uL (prog:Program)(w:World):PySem.KeyKind prog w yH where
 is:=MI
 hash:=yj w
 inj:=λv a b ha hb=>by
  rcases A1 ha with⟨i,t,rfl,rfl⟩|⟨x,t,rfl,rfl⟩
  ·rcases A1 hb with⟨j,u,rfl,e⟩|⟨y,u,rfl,e⟩
   ·injection e with e1 _;rw[e1]
   ·exact nomatch e
  ·rcases A1 hb with⟨j,u,rfl,e⟩|⟨y,u,rfl,e⟩
   ·exact nomatch e
   ·injection e with e1 _;rw[e1]
 byValue:=λk v h=>by rcases A1 h with⟨i,t,rfl,rfl⟩|⟨x,t,rfl,rfl⟩<;>rfl
 pyHash:=λhv h=>by
  rcases A1 hv with⟨i,t,rfl,rfl⟩|⟨x,t,rfl,rfl⟩
  ·exact wpAny_pyHash_int h
  ·exact wpAny_pyHash_str h
 eqBool:=λhu hv h=>by
  rcases A1 hu with⟨i,t,rfl,rfl⟩|⟨x,t,rfl,rfl⟩
  ·rcases A1 hv with⟨j,u,rfl,rfl⟩|⟨y,u,rfl,rfl⟩
   ·rw[YA]at h;exact wpAny_eqBool_int h
   ·rw[VT]at h;exact aGa i t y u _ _ _ _ h
  ·rcases A1 hv with⟨j,u,rfl,rfl⟩|⟨y,u,rfl,rfl⟩
   ·rw[VS]at h;exact aGb x t j u _ _ _ _ h
   ·rw[YI]at h;exact wpAny_eqBool_str h
 «strs»:=λk x t v h=>by
  rcases A1 h with⟨i,u,rfl,e⟩|⟨y,u,rfl,e⟩
  ·exact nomatch e
  ·injection e with e1 _;subst e1;cases v<;>rfl
def XY (prog:Program)(w:World)(k:yH)(v:Value):(uL prog w).is k v=MI k v:=rfl
end L2
namespace L2
open PySem PySem.Spec PyProof.Rows
inductive V where
 |non|bl (b:Bool)|int (i:Int)|str (x:Str)|byt (b:Array UInt8)|flt (b:UInt64)|ref (a:Addr)|ty (n:String)
 deriving DecidableEq
def RelV:V->Value->Prop
 |.non,u=>u=Value.none
 |.bl b,u=>u=aDc b
 |.int i,u=>∃t,u=aGr i t
 |.str x,u=>∃t,u=Value.str x t
 |.byt b,u=>∃t,u=Value.bytes b t
 |.flt b,u=>∃t,u=Value.float b t
 |.ref a,u=>u=aDv a
 |.ty n,u=>u=aCl n
abbrev m6:List V->List Value->Prop:=Paired RelV
def m6.length {xs:List V}{us:List Value}(r:m6 xs us):xs.length=us.length:=Paired.length r
theorem m6.get:∀{xs:List V} {us:List Value} {i:Nat} {x:V},m6 xs us->xs[i]?=some x->∃u,us[i]?=some u/\RelV x u
 |_,_,_,_,.nil,e=>by simp at e
 |_,_,0,_,.cons r _,e=>by simp at e;subst e;exact⟨_,rfl,r⟩
 |_,_,i+1,x,.cons _ t,e=>by obtain⟨u,h1,h2⟩:=m6.get (i:=i) (x:=x) t (by simpa using e);exact⟨u,by simpa using h1,h2⟩
theorem m6.set (r:RelV x u):∀{xs:List V} {us:List Value} (i:Nat),m6 xs us->m6 (xs.set i x) (us.set i u)
 |_,_,_,.nil=>.nil
 |_,_,0,.cons _ t=>.cons r t
 |_,_,i+1,.cons q t=>.cons q (m6.set r i t)
theorem m6.append:∀{xs ys:List V} {us ws:List Value},m6 xs us->m6 ys ws->m6 (xs++ys) (us++ws)
 |_,_,_,_,.nil,s=>s
 |_,_,_,_,.cons r t,s=>.cons r (m6.append t s)
theorem m6.take:∀{xs:List V} {us:List Value} (n:Nat),m6 xs us->m6 (xs.take n) (us.take n)
 |_,_,0,_=>.nil
 |_,_,_+1,.nil=>.nil
 |_,_,n+1,.cons r t=>.cons r (m6.take n t)
theorem m6.drop:∀{xs:List V} {us:List Value} (n:Nat),m6 xs us->m6 (xs.drop n) (us.drop n)
 |_,_,0,r=>r
 |_,_,_+1,.nil=>.nil
 |_,_,n+1,.cons _ t=>m6.drop n t
def my:Option V->Option Value->Prop
 |some v,some u=>RelV v u
 |none,none=>True
 |_,_=>False
def KV {κ:Type}:List (κ×V)->List (κ×Value)->Prop:=Paired λ(p:κ×V) (q:κ×Value)=>p.1=q.1/\RelV p.2 q.2
def kV:yH->V
 |.inl i=>.int i
 |.inr x=>.str x
inductive HO where
 |lst (xs:List V)
 |tup (xs:List V)
 |dK (kvs:List (yH×V))|dT (kvs:List (List yH×V))
 |set (S:Int->Bool) (n:Nat)
 |ins (C dx:Addr) (fs:List (Str×V))
 |own (x:Addr)
 |xd (fs:List (Str×V))
 |met (f x:Addr)
 |rng (lo hi:Int)
 |frz (o:Obj) (u:HO)
 |tbl (tb:List (Pos×Str))
 |ext (φ:Heap->Prop)
abbrev Hp:=Addr->Option HO
def upd (H:Hp)(a:Addr)(o:HO):Hp:=λb=>if b=a then some o else H b
def j4:upd H a o a=some o:=by unfold upd;rw[if_pos rfl]
def k8 (h:b≠a):upd H a o b=H b:=by unfold upd;rw[if_neg h]
def t4 {H:Hp}{a b:Addr}{o:HO}(h:H a=some o)(h':H b=none):a≠b:=by intro e;subst e;rw[h]at h';cases h'
section
variable(P:Program) (w:World)
def ObjOk (H:Hp)(h:Heap)(a:Addr):HO->Prop
 |.lst xs=>xs.length<=sizeLine/\∃(its:List Value) (n:Nat),m6 xs its/\h.get? a=some {cls:=.type "list",data:=.seq its.toArray n}
 |.tup xs=>xs.length<=sizeLine/\∃its:List Value,m6 xs its/\IsTup h a its.toArray
 |.dK kvs=>kvs.length<=sizeLine/\(a==sysModules)=false/\∃vs,KV kvs vs/\h.DictOf (uL P w) a vs
 |.dT kvs=>kvs.length<=sizeLine/\(a==sysModules)=false/\∃xs:List (List yH×Addr×Value),
  Paired (λ(p:List yH×V) (q:List yH×Addr×Value)=>p.1=q.1/\H q.2.1=some (.tup (p.1.map kV))/\RelV p.2 q.2.2) kvs xs/\
  ∃o es ep,h.get? a=some o/\o.ExactDict/\o.data=.dict es ep/\es.toList=xs.map (entryOfKey<|tupleKind<|uL P w)/\(xs.map (·.1)).Nodup
 |.set S n=>h.SetOf (intKind P w) a S n
 |.ins C dx fs=>H dx=some (.own a)/\fs.length<=1000/\dx≠a/\h.get? a=some (PySem.W.instObj C dx)/\
  ∃mA,h.Ns1 dx mA/\(∀f,my (fs.lookup f) (mA f))/\PySem.Within mA (fs.map (·.1))
 |.own _=>∃o,h.get? a=some o
 |.xd fs=>∃mA,h.Ns1 a mA/\∀f,my (fs.lookup f) (mA f)
 |.rng lo hi=>∃t u v,h.get? a=some {cls:=.type "range",data:=.fields #[.int lo t,.int hi u,.int 1 v]}
 |.frz o u=>h.get? a=some o/\ObjOk H h a u
 |.tbl tb=>∃ps:Array Value,h.get? a=some {cls:=.none,data:=.fields ps}/\TriplesOk ps.toList/\∀p∈tb,codeAmong p.1 ps.toList=none\/∃c oc vs t,codeAmong p.1 ps.toList=some (.ref c)/\H c=some (.frz oc (.own c))/\oc.data=.fields vs/\vs[1]?=some (.str p.2 t)
 |.met f x=>h.get? a=some (PySem.W.methodObj (.ref f)<|.ref x)
 |.ext φ=>φ h/\(∃o,h.get? a=some o)/\∀h1 h2:Heap,φ h1->(∀o,h1.get? a=some o->h2.get? a=some o)->φ h2
def VG:HO->Prop
 |.tup _=>True
 |.frz o _=>∃vs,o.data=.fields vs
 |_=>False
def fC (H:Hp)(h:Heap):Prop:=∀a o,H a=some o->ObjOk P w H h a o
end
section
variable{P:Program} {w:World} {H H':Hp} {h h':Heap} {a:Addr} {o:HO}
def ObjOk.lt (x:ObjOk P w H h a o):a<h.objs.size:=by
 cases o with
 |lst xs=>obtain⟨_,_,_,_,e⟩:=x;exact aAf e
 |tup xs=>obtain⟨_,_,_,p⟩:=x;exact p.lt
 |dK kvs=>obtain⟨_,_,_,_,o,_,_,e,_⟩:=x;exact aAf e
 |dT kvs=>obtain⟨_,_,_,_,o,_,_,e,_⟩:=x;exact aAf e
 |set S n=>obtain⟨o,_,_,_,e,_⟩:=x;exact aAf e
 |ins C dx fs=>obtain⟨_,_,_,e,_⟩:=x;exact aAf e
 |own y=>obtain⟨_,e⟩:=x;exact aAf e
 |xd fs=>obtain⟨_,⟨_,_,_,e,_⟩,_⟩:=x;exact aAf e
 |rng lo hi=>obtain⟨_,_,_,e⟩:=x;exact aAf e
 |frz ob u=>obtain⟨e,_⟩:=x;exact aAf e
 |tbl tb=>obtain⟨_,e,_⟩:=x;exact aAf e
 |met f y=>exact aAf (show h.get? a=some _ from x)
 |ext φ=>obtain⟨_,⟨_,e⟩,_⟩:=x;exact aAf e
theorem Paired.af5 {α β:Type}{F G:α->β->Prop}:∀{l₁:List α} {l₂:List β},Paired F l₁ l₂->(∀a b,F a b->G a b)->Paired G l₁ l₂
 |_,_,.nil,_=>.nil
 |_,_,.cons r t,f=>.cons (f _ _ r) (Paired.af5 t f)
def ObjOk.ab7 (x:ObjOk P w H h a o)(k:∀b u,(b=a\/H b=some (.own a))->h.get? b=some u->h'.get? b=some u)
  (ho:∀b,H b=some (.own a)->H' b=some (.own a)) (ht:∀b u,VG u->H b=some u->H' b=some u):ObjOk P w H' h' a o:=by
 induction o with
 |lst xs=>obtain⟨z,its,n,r,e⟩:=x;exact⟨z,its,n,r,k _ _ (.inl rfl) e⟩
 |tup xs=>obtain⟨z,its,r,ob,e,c⟩:=x;exact⟨z,its,r,ob,k _ _ (.inl rfl) e,c⟩
 |dK kvs=>obtain⟨z,y,vs,r,ob,es,ep,e,c⟩:=x;exact⟨z,y,vs,r,ob,es,ep,k _ _ (.inl rfl) e,c⟩
 |dT kvs=>obtain⟨z,y,xs,r,ob,es,ep,e,c⟩:=x;exact⟨z,y,xs,Paired.af5 r λp q z=>⟨z.1,ht _ _ trivial z.2.1,z.2.2⟩,ob,es,ep,k _ _ (.inl rfl) e,c⟩
 |set S n=>obtain⟨ob,es,ep,t,e,c⟩:=x;exact⟨ob,es,ep,t,k _ _ (.inl rfl) e,c⟩
 |ins C dx fs=>obtain⟨d,z,ne,e,mA,⟨od,es,ep,e2,c⟩,r⟩:=x;exact⟨ho _ d,z,ne,k _ _ (.inl rfl) e,mA,⟨od,es,ep,k _ _ (.inr d) e2,c⟩,r⟩
 |own y=>obtain⟨ob,e⟩:=x;exact⟨ob,k _ _ (.inl rfl) e⟩
 |xd fs=>obtain⟨mA,⟨od,es,ep,e,c⟩,r⟩:=x;exact⟨mA,⟨od,es,ep,k _ _ (.inl rfl) e,c⟩,r⟩
 |rng lo hi=>obtain⟨t,u,v,e⟩:=x;exact⟨t,u,v,k _ _ (.inl rfl) e⟩
 |frz ob u ih=>obtain⟨e,q⟩:=x;exact⟨k _ _ (.inl rfl) e,ih q⟩
 |tbl tb=>obtain⟨ps,e,t,f⟩:=x;exact⟨ps,k a _ (.inl rfl) e,t,λp hp=>(f p hp).imp id λ⟨c,oc,vs,t,e1,e2,e3⟩=>⟨c,oc,vs,t,e1,ht _ _ ⟨vs,e3.1⟩ e2,e3⟩⟩
 |met f y=>have e:h.get? a=some (PySem.W.methodObj (.ref f)<|.ref y):=x;show h'.get? a=some (PySem.W.methodObj (.ref f)<|.ref y);exact k a _ (.inl rfl) e
 |ext φ=>obtain⟨p,⟨o,e⟩,st⟩:=x;exact⟨st _ _ p λo q=>k _ _ (.inl rfl) q,⟨o,k _ _ (.inl rfl) e⟩,st⟩
def fC.lt (x:fC P w H h)(e:H a=some o):a<h.objs.size:=(x a o e).lt
def fC.fresh (x:fC P w H h)(e:h.objs.size<=a):H a=none:=by
 cases q:H a with
 |none=>rfl
 |some u=>exact absurd (aAq (x.lt q) e) (aAX _)
def fC.kept (x:fC P w H h)(k:∀b u,h.get? b=some u->h'.get? b=some u):fC P w H h':=λa o e=>(x a o e).ab7 (λb u _ q=>k b u q) (λ_ q=>q) λ_ _ _ q=>q
def fC.laid (x:fC P w H h)(k:∀b u,h.get? b=some u->h'.get? b=some u)(hp:h.objs.size<=a)(new:ObjOk P w (upd H a o) h' a o):fC P w (upd H a o) h':=λb u e=>by
 have hn:=x.fresh hp;by_cases hb:b=a
 ·subst hb;rw[j4]at e;cases e;exact new
 ·rw[k8 hb]at e;exact(x b u e).ab7 (λc v _ q=>k c v q) (λc q=>by rw[k8 (t4 q hn)];exact q) λc xs _ q=>by rw[k8 (t4 q hn)];exact q
end
def Rd (H:Hp)(a:Addr)(u:HO):Prop:=H a=some u\/∃o,H a=some (.frz o u)
def Rd.ok (r:Rd H a u)(x:fC P w H h):ObjOk P w H h a u:=by
 rcases r with r|⟨o,r⟩
 ·exact x a u r
 ·obtain⟨_,q⟩:=x a _ r;exact q
def ny:Option HO->Prop
 |some (.lst _)=>True
 |some (.dK _)=>True
 |some (.dT _)=>True
 |some (.set _ _)=>True
 |some (.ins _ _ _)=>True
 |some (.ext _)=>True
 |_=>False
section
variable{P:Program} {w:World} {H:Hp} {h h':Heap} {x e:Addr} {o':HO}
def fC.write (ok:fC P w H h)(mu:ny (H x))(he:e=x\/H e=some (.own x))(k:∀b u,b≠e->h.get? b=some u->h'.get? b=some u)(heo:∃u,h'.get? e=some u)
  (new:ObjOk P w (upd H x o') h' x o'):fC P w (upd H x o') h':=λb u q=>by
 have nown:∀c y,H c=some (.own y)->c≠x:=λc y r z=>by subst z;rw[r]at mu;exact mu
 have ntup:∀c u,VG u->H c=some u->c≠x:=λc u f r z=>by subst z;rw[r]at mu;cases u<;>first|exact mu|exact f
 by_cases hb:b=x
 ·subst hb;rw[j4]at q;cases q;exact new
 ·rw[k8 hb]at q;by_cases yc:b=e
  ·have q':H b=some (.own x):=by
    rcases he with z|z
    ·exact absurd (yc.trans z) hb
    ·rw[yc];exact z
   rw[q]at q';cases q';obtain⟨v,hv⟩:=heo;exact⟨v,by rw[yc];exact hv⟩
  ·refine(ok b u q).ab7 (λc v hc r=>k c v ?_ r) (λc r=>by rw[k8 (nown c b r)];exact r) λc xs f r=>by rw[k8 (ntup c xs f r)];exact r
   rcases hc with rfl|hc
   ·exact yc
   ·rintro rfl;rcases he with z|z
    ·exact nown c b hc z
    ·rw[hc]at z;cases z;exact hb rfl
end
structure Un (fs ex:List Addr)(H H':Hp)(h h':Heap):Prop where
 keep:∀b o,h.get? b=some o->H b=none->b∉fs->b∉ex->h'.get? b=some o
 slot:∀b o,h.get? b=some o->H b=none->b∈fs->b∉ex->∃sl,h'.get? b=some {o with slots:=sl}
 free:∀b o,h.get? b=some o->H b=none->b∉ex->H' b=none
 there:∀b o,h.get? b=some o->b∉ex->∃o',h'.get? b=some o'
 tups:∀b xs,H b=some (.tup xs)->H' b=some (.tup xs)
 frzs:∀b o u,H b=some (.frz o u)->H' b=some (.frz o u)
 tbls:∀b tb,H b=some (.tbl tb)->H' b=some (.tbl tb)
section
variable{fs xc ex ex':List Addr} {H H1 H2:Hp} {h h1 h2 h':Heap} {a x e:Addr} {o:HO}
def Un.any (u:Un fs ex H H1 h h1)(q:h.get? b=some ob)(n:H b=none)(hx:b∉ex):∃sl,h1.get? b=some {ob with slots:=sl}:=by
 by_cases hb:b∈fs
 ·exact u.slot b ob q n hb hx
 ·exact⟨ob.slots,u.keep b ob q n hb hx⟩
def Un.kept (k:∀b u,h.get? b=some u->h'.get? b=some u):Un fs ex H H h h':=
 ⟨λb ob q _ _ _=>k b ob q,λb ob q _ _ _=>⟨ob.slots,k b ob q⟩,λ_ _ _ n _=>n,λb ob q _=>⟨ob,k b ob q⟩,λ_ _ q=>q,λ_ _ _ q=>q,λ_ _ q=>q⟩
def Un.refl:Un fs ex H H h h:=Un.kept λ_ _ q=>q
def Un.laid (k:∀b u,h.get? b=some u->h'.get? b=some u)(hp:h.objs.size<=a)(hn:H a=none):Un fs ex H (upd H a o) h h' where
 keep:=λb u q _ _ _=>k b u q
 slot:=λb u q _ _ _=>⟨u.slots,k b u q⟩
 free:=λb u q n _=>by rw[k8 (aAj<|aAq (aAf q) hp)];exact n
 there:=λb u q _=>⟨u,k b u q⟩
 tups:=λb xs q=>by rw[k8 (t4 q hn)];exact q
 frzs:=λb u xs q=>by rw[k8 (t4 q hn)];exact q
 tbls:=λb ps q=>by rw[k8 (t4 q hn)];exact q
def Un.write (mu:ny (H x))(he:e=x\/H e=some (.own x))(k:∀b u,b≠e->h.get? b=some u->h'.get? b=some u)(heo:∃u,h'.get? e=some u):Un fs ex H (upd H x o) h h':=by
 have hx:∀b,H b=none->b≠x:=λb n z=>by subst z;rw[n]at mu;exact mu
 have hb:∀b,H b=none->b≠e:=λb n z=>by
  subst z;rcases he with r|r
  ·exact hx b n r
  ·rw[n]at r;cases r
 have hm:∀b u,H b=some u->¬ny (some u)->b≠x:=λb u q nm z=>by subst z;rw[q]at mu;exact nm mu
 refine⟨λb u q n _ _=>k b u (hb b n) q,λb u q n _ _=>⟨u.slots,k b u (hb b n) q⟩,λb u q n _=>by rw[k8 (hx b n)];exact n,λb u q _=>?_,
  λb xs q=>by rw[k8 (hm b _ q λz=>z)];exact q,λb u xs q=>by rw[k8 (hm b _ q λz=>z)];exact q,λb ps q=>by rw[k8 (hm b _ q λz=>z)];exact q⟩
 by_cases yc:b=e
 ·subst yc;exact heo
 ·exact⟨u,k b u yc q⟩
end
def trk (h:Heap)(H:Hp):List Addr:=(aBy h.objs.size).filter λa=>(H a).isSome
def pK (h:Heap)(H:Hp):Heap:=PySem.W.hideAll h (trk h H)
def GI (h:Heap)(H:Hp):(pK h H).objs.size=h.objs.size:=PySem.W.hideAll_size _ _
def MY (e:h.get? b=some o)(n:H b=none):(pK h H).get? b=some o:=
 PySem.W.hideAll_get _ e λhm=>by have q:(H b).isSome=true:=(aDk.mp hm).2;rw[n]at q;simp at q
def OY (e:(pK h H).get? b=some o):h.get? b=some o/\H b=none:=by
 have e':h.get? b=some o:=PySem.W.of_hideAll (trk h H) e;refine⟨e',?_⟩;cases q:H b with
 |none=>rfl
 |some x=>have hm:b∈trk h H:=aDk.mpr ⟨aCr.mpr (aAf e'),by simp[q]⟩;have z:(pK h H).get? b=none:=PySem.W.hideAll_none (trk h H) hm;rw[z]at e;cases e
def TC (g h:Heap)(L:Addr):List (Addr×Obj):=(aBy h.objs.size).filterMap λa=>if a=L\/(g.get? a).isSome=true then none else(h.get? a).map λo=>(a,o)
def rest (g h:Heap)(L d:Addr):List (Addr×Obj):=(TC g h L).filter λp=>decide (p.1≠d)
end L2
namespace L2
open PySem PySem.Spec PyProof.Rows
structure Mod (K:PySem.W.Frag)(mg:cP)(base:Heap):Prop where
 kin:K.In base
 glob:base.Ns mainGlobals mg
 blt:∃mb,base.Ns builtinsNs mb/\∀x:Str,x≠ "__name__"->mb x=bootBuiltins x
 nolimit:base.NoLimit
structure Cx where
 prog:Program
 w:World
 K:PySem.W.Frag
 mg:Str->Option Value
 base:Heap
 A:Around
 N:List Str
 sa:Shared
 H9:Hp
 env:Env
 outer:List Env
 stack:List Env
 ex:List Addr
 fn:Str->Bool
 calm:Bool
 pn:List (Addr×Obj)
 xe:Value->Shared->Prop
def xG (l:List Env):List Addr:=l.filterMap (·.frame)
abbrev Cx.fs (X:Cx):List Addr:=xG X.outer
def BI (sc:Scope)(x:Str):Prop:=sc.names.lookup x=some .local\/sc.names.lookup x=some .cell\/sc.names.lookup x=some .free
def Loc (sc:Scope)(x:Str):Prop:=sc.names.lookup x=some .local\/sc.names.lookup x=some .cell
def Look (env:Env)(h:Heap)(m:cP)(x:Str)(u:Value):Prop:=
 (env.kindOf x=some .local/\m x=some u)\/((env.kindOf x=some .cell\/env.kindOf x=some .free)/\∃c,env.cells.lookup x=some c/\h.IsCell c (some u))
structure Cx.Ok (X:Cx):Prop where
 mod:Mod X.K X.mg X.base
 kind:X.env.scope.kind=.function
 glob:X.env.globals=mainGlobals
 blt:X.env.builtins=builtinsNs
 above:X.sa.heap.objs.size<=X.env.locals
 inj:∀x y c,X.env.cells.lookup x=some c->X.env.cells.lookup y=some c->x=y
 has:∀x,(X.env.kindOf x=some .cell\/X.env.kindOf x=some .free)->∃c,X.env.cells.lookup x=some c
 cab:∀x c,X.fn x=true->X.env.cells.lookup x=some c->X.sa.heap.objs.size<=c
 hd:X.calm=true->X.A.handled=none
 frames:X.A.frames=some X.stack
 stk:X.stack=X.outer\/(X.stack=X.env::X.outer/\X.env.frame=some X.env.locals)
 exf:∀b∈X.ex,b≠X.env.locals/\∀x c,X.env.cells.lookup x=some c->c≠b
 bs:∀b o,X.base.get? b=some o->X.sa.heap.get? b=some o/\X.H9 b=none
 bsz:X.base.objs.size<=X.sa.heap.objs.size
 noex:∀b o,X.base.get? b=some o->b∉X.ex
 exfs:∀b∈X.ex,b∉X.fs
 funs:X.sa.heap.FunFrames X.base X.outer
 frf:∀b∈X.fs,X.H9 b=none
structure Inv (X:Cx)(pins:L8)(σ:List (Option V))(H:Hp)(s:Shared):Prop where
 ok:X.Ok
 os:s.os=X.sa.os
 bare:AllBare s.gens
 base:Un X.fs X.ex X.H9 H X.sa.heap s.heap
 loc:∃m,s.heap.Ns X.env.locals m/\∀(i:Nat) (x:Str) (v:V),X.N[i]?=some x->σ[i]?=some (some v)->BI X.env.scope x->∃u,RelV v u/\Look X.env s.heap m x u
 cell:∀x c,X.env.cells.lookup x=some c->∃v,s.heap.IsCell c v
 free:H X.env.locals=none
 freeC:∀x c,X.env.cells.lookup x=some c->H c=none
 pin:∀p∈X.pn++pins,s.heap.get? p.1=some p.2/\H p.1=none/\p.1≠X.env.locals/\p.1∉X.fs/\∀v,p.2.data≠.cell v
 hok:fC X.prog X.w H s.heap
 len:σ.length=X.N.length
section
variable{X:Cx} {pins:L8} {σ:List (Option V)} {H H':Hp} {s:Shared} {h':Heap}
def Cx.Ok.nofr (ok:X.Ok)(e:X.base.get? b=some o):b∉X.fs:=λhb=>by have:=(ok.funs.mem hb).1;rw[e]at this;cases this
def Inv.bs (I:Inv X pins σ H s):∀b o,X.base.get? b=some o->s.heap.get? b=some o/\H b=none:=λb o e=>⟨I.base.keep b o (I.ok.bs b o e).1 (I.ok.bs b o e).2 (I.ok.nofr e) (I.ok.noex b o e),I.base.free b o (I.ok.bs b o e).1 (I.ok.bs b o e).2 (I.ok.noex b o e)⟩
def Inv.bk (I:Inv X pins σ H s):∀b o,X.base.get? b=some o->s.heap.get? b=some o:=λb o e=>(I.bs b o e).1
def Inv.mod (I:Inv X pins σ H s):Mod X.K X.mg X.base:=I.ok.mod
def Inv.kIn (I:Inv X pins σ H s):X.K.In s.heap:=I.ok.mod.kin.keeps I.bk
def Inv.lt (I:Inv X pins σ H s):X.env.locals<s.heap.objs.size:=let⟨_,hn,_⟩:=I.loc;hn.lt
def Inv.sz (I:Inv X pins σ H s):X.sa.heap.objs.size<=s.heap.objs.size:=aAo I.ok.above (aDl I.lt)
def Inv.af9 (I:Inv X pins σ H s)(h:s.heap.objs.size<=a):a∉X.fs:=λhb=>by obtain⟨_,o,ho,_⟩:=I.ok.funs.mem hb;exact absurd (aAq (aAf ho)<|aAo I.sz h) (aAX _)
def Inv.cne (I:Inv X pins σ H s):∀x c,X.env.cells.lookup x=some c->c≠X.env.locals:=λx c e z=>by obtain⟨v,o,ho,hd⟩:=I.cell x c e;obtain⟨m,⟨o',es,ep,yd,ko,_⟩,_⟩:=I.loc;rw[z,yd]at ho;cases ho;rw[ko]at hd;cases hd
def Inv.funs (I:Inv X pins σ H s):s.heap.FunFrames X.base X.outer:=by
 have all:∀(l:List Env),(∀b∈xG l,b∈X.fs)->X.sa.heap.FunFrames X.base l->s.heap.FunFrames X.base l:=by
  intro l;induction l with
  |nil=>intro _ _;trivial
  |cons env r ih=>intro hs hl;obtain⟨hk,⟨L,o,hf,hn,ho,hd⟩,hr⟩:=hl;have hL:L∈X.fs:=hs L (by unfold xG;rw[aCv,hf];exact aAJ);obtain⟨sl,e⟩:=I.base.slot L o ho (I.ok.frf L hL) hL λz=>I.ok.exfs L z hL;exact⟨hk,⟨L,_,hf,hn,e,hd⟩,ih (λb hb=>hs b (by unfold xG;rw[aCv,hf];exact aAe _ hb)) hr⟩
 exact all X.outer (λ_ hb=>hb) I.ok.funs
def Inv.stack (I:Inv X pins σ H s):s.heap.FunFrames X.base X.stack:=by
 rcases I.ok.stk with e|⟨e,hf⟩
 ·rw[e];exact I.funs
 ·rw[e];obtain⟨m,hn,_⟩:=I.loc;refine .cons (by rw[I.ok.kind];decide) hf hn ?_ I.funs;exact aEi (aAo I.ok.bsz I.ok.above)
def Inv.ab3 (I:Inv X pins σ H s):∀b∈xG X.stack,b∈X.env.locals::X.fs:=λb hb=>by
 rcases I.ok.stk with e|⟨e,hf⟩
 ·rw[e]at hb;exact aAe _ hb
 ·rw[e]at hb;unfold xG at hb;rw[aCv,hf]at hb;exact hb
def Inv.ad3 (I:Inv X pins σ H s):∀b∈xG X.stack,H b=none:=λb hb=>by
 rcases aAd.mp (I.ab3 b hb)with e|hb
 ·rw[e];exact I.free
 ·obtain⟨_,o,ho,_⟩:=I.ok.funs.mem hb;exact I.base.free b o ho (I.ok.frf b hb) λz=>I.ok.exfs b z hb
def Inv.step {g':Array GenState}{t':Nat}{d':Drawn}{ch:List Addr}(I:Inv X pins σ H s)
  (xf:∀b∈ch,(b∈X.ex\/X.sa.heap.objs.size<=b)/\b≠X.env.locals/\(∀x c,X.env.cells.lookup x=some c->c≠b)/\∀p∈X.pn++pins,p.1≠b)
  (keep:∀b o,b≠X.env.locals->b∉X.fs->b∉ch->s.heap.get? b=some o->H b=none->h'.get? b=some o)
  (slot:∀b o,b≠X.env.locals->b∈X.fs->b∉ch->s.heap.get? b=some o->H b=none->∃sl,h'.get? b=some {o with slots:=sl}) (free:∀b o,b∉ch->s.heap.get? b=some o->H b=none->H' b=none)
  (there:∀b o,b∉ch->s.heap.get? b=some o->∃o',h'.get? b=some o')
  (tups:∀b xs,H b=some (.tup xs)->H' b=some (.tup xs)) (frzs:∀b o u,H b=some (.frz o u)->H' b=some (.frz o u)) (tbls:∀b tb,H b=some (.tbl tb)->H' b=some (.tbl tb))
  (ns:∀m,s.heap.Ns X.env.locals m->h'.Ns X.env.locals m) (hok:fC X.prog X.w H' h') (hg:AllBare g'):
  Inv X pins σ H' {s with heap:=h',gens:=g',drawn:=d',toks:=t'}:=by
 have neL:∀b o,X.sa.heap.get? b=some o->b≠X.env.locals:=λb o e=>aAj (aAq (aAf e) I.ok.above);have neC:∀b o,X.sa.heap.get? b=some o->b∉X.ex->b∉ch:=λb o e hx hb=>by
  rcases(xf b hb).1 with z|z
  ·exact hx z
  ·exact absurd (aAq (aAf e) z) (aAX _)
 have cellK:∀x c,X.env.cells.lookup x=some c->∀v,s.heap.IsCell c v->h'.IsCell c v:=λx c e v ⟨o,ho,hd⟩=>by
  have nch:c∉ch:=λz=>(xf c z).2.2.1 x c e rfl;by_cases hc:c∈X.fs
  ·obtain⟨sl,q⟩:=slot c o (I.cne x c e) hc nch ho (I.freeC x c e);exact⟨_,q,hd⟩
  ·exact⟨o,keep c o (I.cne x c e) hc nch ho (I.freeC x c e),hd⟩
 refine⟨I.ok,I.os,hg,⟨λb o e n hb hx=>?_,λb o e n hb hx=>?_,λb o e n hx=>?_,λb o e hx=>?_,λb xs e=>tups b xs (I.base.tups b xs e),λb o xs e=>frzs b o xs (I.base.frzs b o xs e),λb ps e=>?_⟩,?_,λx c e=>?_,?_,λx c e=>?_,λp hp=>?_,hok,I.len⟩
 ·exact keep b o (neL b o e) hb (neC b o e hx) (I.base.keep b o e n hb hx) (I.base.free b o e n hx)
 ·obtain⟨sl,e1⟩:=I.base.slot b o e n hb hx;obtain⟨sl',e2⟩:=slot b _ (neL b o e) hb (neC b o e hx) e1 (I.base.free b o e n hx);exact⟨sl',e2⟩
 ·obtain⟨o',e1⟩:=I.base.there b o e hx;exact free b o' (neC b o e hx) e1 (I.base.free b o e n hx)
 ·obtain⟨o',e1⟩:=I.base.there b o e hx;exact there b o' (neC b o e hx) e1
 ·exact tbls b ps (I.base.tbls b ps e)
 ·obtain⟨m,hn,hl⟩:=I.loc;refine⟨m,ns m hn,λi x v e1 e2 e3=>?_⟩;obtain⟨u,r,l⟩:=hl i x v e1 e2 e3;refine⟨u,r,?_⟩;rcases l with l|⟨k,c,e,z⟩
  ·exact .inl l
  ·exact .inr ⟨k,c,e,cellK x c e _ z⟩
 ·obtain⟨v,z⟩:=I.cell x c e;exact⟨v,cellK x c e v z⟩
 ·obtain⟨m,⟨o,_,_,ho,_⟩,_⟩:=I.loc;exact free _ o (λz=>(xf _ z).2.1 rfl) ho I.free
 ·obtain⟨v,o,ho,hd⟩:=I.cell x c e;exact free c o (λz=>(xf c z).2.2.1 x c e rfl) ho (I.freeC x c e)
 ·obtain⟨e,n,ne,nf,d⟩:=I.pin p hp;have nch:p.1∉ch:=λz=>(xf p.1 z).2.2.2 p hp rfl;exact⟨keep p.1 p.2 ne nf nch e n,free p.1 p.2 nch e n,ne,nf,d⟩
def Inv.un {t':Nat}(I:Inv X pins σ H s)(u:Un X.fs [] H H' s.heap h')(hok:fC X.prog X.w H' h'):Inv X pins σ H' {s with heap:=h',toks:=t'}:=by
 obtain⟨m,⟨o,es,ep,ho,r⟩,_⟩:=id I.loc;obtain⟨sl,hL⟩:=u.any ho I.free (by simp);exact I.step (g':=s.gens) (d':=s.drawn) (ch:=[]) (λ_ z=>nomatch z) (λb o _ hb _ e n=>u.keep b o e n hb (by simp)) (λb o _ hb _ e n=>u.slot b o e n hb (by simp)) (λb o _ e n=>u.free b o e n (by simp)) (λb o _ e=>u.there b o e (by simp)) u.tups u.frzs u.tbls (λm' hm=>by obtain⟨o',es',ep',yd,r'⟩:=hm;rw[ho]at yd;cases yd;exact⟨_,es',ep',hL,r'⟩) hok I.bare
def Inv.call {g':Array GenState}{t':Nat}{d':Drawn}{ch:List Addr}(I:Inv X pins σ H s)(u:Un (xG X.stack) ch H H' s.heap h')(hok:fC X.prog X.w H' h')(hg:AllBare g')
  (xf:∀b∈ch,(b∈X.ex\/X.sa.heap.objs.size<=b)/\b≠X.env.locals/\(∀x c,X.env.cells.lookup x=some c->c≠b)/\∀p∈X.pn++pins,p.1≠b):
  Inv X pins σ H' {s with heap:=h',gens:=g',drawn:=d',toks:=t'}:=by
 obtain⟨m,⟨o,es,ep,ho,r⟩,_⟩:=id I.loc;obtain⟨sl,hL⟩:=u.any ho I.free λz=>(xf _ z).2.1 rfl;exact I.step (ch:=ch) xf (λb o hL hb hc e n=>u.keep b o e n (λz=>(aAd.mp<|I.ab3 b z).elim hL hb) hc) (λb o _ _ hc e n=>u.any e n hc) (λb o hc e n=>u.free b o e n hc) (λb o hc e=>u.there b o e hc) u.tups u.frzs u.tbls (λm' hm=>by obtain⟨o',es',ep',yd,r'⟩:=hm;rw[ho]at yd;cases yd;exact⟨_,es',ep',hL,r'⟩) hok hg
def Inv.turned {t':Nat}{it:Addr}(I:Inv X pins σ H s)(k:∀b o,b≠it->s.heap.get? b=some o->h'.get? b=some o)(hn:H it=none)(hL:it≠X.env.locals)
  (h1:it∈X.ex\/X.sa.heap.objs.size<=it) (h2:∀x c,X.env.cells.lookup x=some c->c≠it) (h3:∀p∈X.pn++pins,p.1≠it):Inv X pins σ H {s with heap:=h',toks:=t'}:=by
 have nit:∀b u,H b=some u->b≠it:=λb u e z=>by rw[z,hn]at e;cases e
 refine I.step (g':=s.gens) (d':=s.drawn) (ch:=[it]) (λb hb=>?_) (λb o _ _ hc e _=>k b o (λz=>hc (by simp[z])) e) (λb o _ _ hc e _=>⟨o.slots,k b o (λz=>hc (by simp[z])) e⟩) (λ_ _ _ _ n=>n)
  (λb o hc e=>⟨o,k b o (λz=>hc (by simp[z])) e⟩) (λ_ _ e=>e) (λ_ _ _ e=>e) (λ_ _ e=>e) (λm hm=>?_) (λb u e=>?_) I.bare
 ·have e:b=it:=by simpa using hb
  subst e;exact⟨h1,hL,h2,h3⟩
 ·obtain⟨o,es,ep,ho,r⟩:=hm;exact⟨o,es,ep,k _ o (aBQ hL) ho,r⟩
 ·refine(I.hok b u e).ab7 (λc v hc q=>k c v ?_ q) (λ_ q=>q) λ_ _ _ q=>q;rcases hc with z|z
  ·rw[z];exact nit b u e
  ·exact nit c _ z
def Inv.tok (I:Inv X pins σ H s)(t:Nat):Inv X pins σ H {s with toks:=t}:=I.un (h':=s.heap) (t':=t) Un.refl I.hok
def Inv.kept (I:Inv X pins σ H s)(k:∀b u,s.heap.get? b=some u->h'.get? b=some u):Inv X pins σ H {s with heap:=h',toks:=t'}:=I.un (Un.kept k) (I.hok.kept k)
def Inv.laid (I:Inv X pins σ H s)(k:∀b u,s.heap.get? b=some u->h'.get? b=some u)(hp:s.heap.objs.size<=a)(new:ObjOk X.prog X.w (upd H a o) h' a o):
 Inv X pins σ (upd H a o) {s with heap:=h',toks:=t'}:=I.un (Un.laid k hp<|I.hok.fresh hp) (I.hok.laid k hp new)
def Inv.write (I:Inv X pins σ H s)(mu:ny (H x))(he:e=x\/H e=some (.own x))(k:∀b u,b≠e->s.heap.get? b=some u->h'.get? b=some u)(heo:∃u,h'.get? e=some u)(new:ObjOk X.prog X.w (upd H x o) h' x o):Inv X pins σ (upd H x o) {s with heap:=h',toks:=t'}:=I.un (Un.write mu he k heo) (I.hok.write mu he k heo new)
def Inv.ad2 (I:Inv X pins σ H s)(h:∀p∈pins',s.heap.get? p.1=some p.2/\H p.1=none/\p.1≠X.env.locals/\p.1∉X.fs/\∀v,p.2.data≠.cell v):Inv X pins' σ H s:=
 ⟨I.ok,I.os,I.bare,I.base,I.loc,I.cell,I.free,I.freeC,λp hp=>(aAN.mp hp).elim (λz=>I.pin p (aBB _ z)) (h p),I.hok,I.len⟩
def xZ {N:List Str}(hN:N.Nodup){i j:Nat}{x:Str}(a:N[i]?=some x)(b:N[j]?=some x):i=j:=by obtain⟨h1,e1⟩:=aAC.mp a;obtain⟨h2,e2⟩:=aAC.mp b;exact(List.getElem_inj hN).mp (e1.trans e2.symm)
def jM {M:Model}{A:Around}{E:A3}{i:Nat}{x:Str}{v:V}{u:Value}{Q:Unit->Shared->Prop}(I:Inv X pins σ H s)(hN:X.N.Nodup)(hi:X.N[i]?=some x)(hx:Loc X.env.scope x)(r:RelV v u)
  (h:∀s',Inv X pins (σ.set i (some v)) H s'->(∃a,Heap.SameBut a s.heap s'.heap/\(a=X.env.locals\/X.env.cells.lookup x=some a))->Q () s') (hf:X.fn x=true\/X.env.scope.names.lookup x=some .local:=by first|exact .inl rfl|exact .inr rfl|assumption):wpAny M A (storeName X.env x u) Q E s:=by
 obtain⟨m,hn,hl⟩:=id I.loc;have hcls:(X.env.scope.kind==.class||(X.env.scope.kind==.module&&X.env.locals !=X.env.globals))=false:=by rw[I.ok.kind];rfl
 have hiσ:i<σ.length:=by rw[I.len];exact(aAC.mp hi).1
 have cne:=I.cne;have tracked:∀{a:Addr} {h':Heap},(∃o,s.heap.get? a=some o/\H a=none)->Heap.SameBut a s.heap h'->fC X.prog X.w H h':=λ{a h'} ha hs b ob e=>by
  obtain⟨_,_,jv⟩:=ha;refine(I.hok b ob e).ab7 (λc w' hc q=>(hs.2 c ?_).trans q) (λ_ q=>q) λ_ _ _ q=>q;rintro rfl;rcases hc with rfl|hc
  ·rw[jv]at e;cases e
  ·rw[jv]at hc;cases hc
 rcases hx with hk|hk
 ·refine wpAny_storeName_local hk hn (λh' hn' hs=>?_) hcls;obtain⟨oL,_,_,hoL,_⟩:=id hn;refine h _ ⟨I.ok,I.os,I.bare,⟨λb o e n hb hx=>?_,λb o e n hb hx=>?_,I.base.free,λb o e hx=>?_,I.base.tups,I.base.frzs,I.base.tbls⟩,⟨_,hn',λj y v' e1 e2 e3=>?_⟩,λy c e=>?_,I.free,I.freeC,λp hp=>?_,tracked ⟨oL,hoL,I.free⟩ hs,by simpa using I.len⟩ ⟨_,hs,.inl rfl⟩
  ·exact(hs.2 b (aAj<|aAq (aAf e) I.ok.above)).trans (I.base.keep b o e n hb hx)
  ·obtain⟨sl,e1⟩:=I.base.slot b o e n hb hx;exact⟨sl,(hs.2 b (aAj<|aAq (aAf e) I.ok.above)).trans e1⟩
  ·obtain⟨o',e1⟩:=I.base.there b o e hx;exact⟨o',(hs.2 b (aAj<|aAq (aAf e) I.ok.above)).trans e1⟩
  ·by_cases hj:j=i
   ·subst hj;rw[hi]at e1;cases e1;rw[aBH hiσ]at e2;cases e2;exact⟨u,r,.inl ⟨hk,by simp⟩⟩
   ·rw[aCo (aBQ hj)]at e2;obtain⟨u',r',q⟩:=hl j y v' e1 e2 e3;refine⟨u',r',?_⟩;rcases q with⟨k,e⟩|⟨k,c,e,z⟩
    ·refine .inl ⟨k,?_⟩;have:y≠x:=λe=>hj (xZ hN e1<|e▸hi);simp[this,e]
    ·exact .inr ⟨k,c,e,z.sameBut hs (cne y c e)⟩
  ·obtain⟨w',z⟩:=I.cell y c e;exact⟨w',z.sameBut hs (cne y c e)⟩
  ·obtain⟨e,n,ne,nf,d⟩:=I.pin p hp;exact⟨(hs.2 p.1 ne).trans e,n,ne,nf,d⟩
 ·have xg:X.fn x=true:=by
   rcases hf with z|z
   ·exact z
   ·rw[z]at hk;cases hk
  obtain⟨c,hc⟩:=I.ok.has x (.inl hk);obtain⟨w',z⟩:=I.cell x c hc;refine wpAny_storeName_cell I.ok.kind hk hc z (λh' xh hs=>?_);obtain⟨oc,cg,hocd⟩:=id z;refine h {s with heap:=h'} ⟨I.ok,I.os,I.bare,⟨λb o e n hb hx=>?_,λb o e n hb hx=>?_,I.base.free,λb o e hx=>?_,I.base.tups,I.base.frzs,I.base.tbls⟩,⟨m,hn.sameBut hs (aBQ<|cne x c hc),λj y v' e1 e2 e3=>?_⟩,λy c' e=>?_,I.free,I.freeC,λp hp=>?_,tracked ⟨oc,cg,I.freeC x c hc⟩ hs,by simpa using I.len⟩ ⟨c,hs,.inr hc⟩
  ·exact(hs.2 b (aAj<|aAq (aAf e)<|I.ok.cab x c xg hc)).trans (I.base.keep b o e n hb hx)
  ·obtain⟨sl,e1⟩:=I.base.slot b o e n hb hx;exact⟨sl,(hs.2 b (aAj<|aAq (aAf e)<|I.ok.cab x c xg hc)).trans e1⟩
  ·obtain⟨o',e1⟩:=I.base.there b o e hx;exact⟨o',(hs.2 b (aAj<|aAq (aAf e)<|I.ok.cab x c xg hc)).trans e1⟩
  ·by_cases hj:j=i
   ·subst hj;rw[hi]at e1;cases e1;rw[aBH hiσ]at e2;cases e2;exact⟨u,r,.inr ⟨.inl hk,c,hc,xh⟩⟩
   ·rw[aCo (aBQ hj)]at e2;obtain⟨u',r',q⟩:=hl j y v' e1 e2 e3;refine⟨u',r',?_⟩;rcases q with q|⟨k,c',e,z'⟩
    ·exact .inl q
    ·refine .inr ⟨k,c',e,z'.sameBut hs ?_⟩;rintro rfl;exact hj (xZ hN e1<|I.ok.inj _ _ _ e hc▸hi)
  ·by_cases hcc:c'=c
   ·subst hcc;exact⟨_,xh⟩
   ·obtain⟨w2,z2⟩:=I.cell y c' e;exact⟨w2,z2.sameBut hs hcc⟩
  ·obtain⟨e,n,ne,nf,d⟩:=I.pin p hp;refine⟨(hs.2 p.1 ?_).trans e,n,ne,nf,d⟩;intro q;rw[q,cg]at e;have q':oc=p.2:=Option.some.inj e;exact d w' (by rw[<-q'];exact hocd)
def P4 {E:A3}{Q:Unit->Shared->Prop}(I:Inv X pins σ H s)(hN:X.N.Nodup)(hi:X.N[i]?=some x)(hx:Loc X.env.scope x)(r:RelV v u)(h:∀s',Inv X pins (σ.set i (some v)) H s'->Q () s')(hf:X.fn x=true\/X.env.scope.names.lookup x=some .local:=by first|exact .inl rfl|exact .inr rfl|assumption):wpAny M A (storeName X.env x u) Q E s:=
 jM I hN hi hx r (λs' I' _=>h s' I') hf
def Inv.af8 (I:Inv X pins σ H s)(ho:s'.os=s.os)(u:Un (xG X.stack) ch H H' s.heap s'.heap)(hok:fC X.prog X.w H' s'.heap)(hg:AllBare s'.gens)(xf:∀b∈ch,(b∈X.ex\/X.sa.heap.objs.size<=b)/\b≠X.env.locals/\(∀x c,X.env.cells.lookup x=some c->c≠b)/\∀p∈X.pn++pins,p.1≠b):Inv X pins σ H' s':=by obtain⟨h',g',d',t',o'⟩:=s';have e:o'=s.os:=ho;subst e;exact I.call (g':=g') (t':=t') (d':=d') u hok hg xf
end
abbrev XK:=Value->Option Addr->Hp->Prop
abbrev St:=List (Option V)
abbrev VK:=V->Hp->Prop
abbrev TE:=St->Hp->VK->Prop
abbrev TT:=St->Hp->(Bool->Hp->Prop)->Prop
abbrev TA:=St->Hp->(List V->Hp->Prop)->Prop
structure Ends where
 nx:St->Hp->Prop
 rt:VK
 bk:St->Hp->Prop:=λ_ _=>False
 ct:St->Hp->Prop:=λ_ _=>False
abbrev TS:=Ends->St->Hp->Prop
def EP (X:Cx)(pins:L8)(σ:St)(Q:VK)(u:Value)(s':Shared):Prop:=∃v H',Inv X pins σ H' s'/\RelV v u/\Q v H'
def TP (X:Cx)(pins:L8)(σ:St)(Q:Bool->Hp->Prop)(b:Bool)(s':Shared):Prop:=∃H',Inv X pins σ H' s'/\Q b H'
def AP (X:Cx)(pins:L8)(σ:St)(Q:List V->Hp->Prop)(us:List Value)(s':Shared):Prop:=∃vs H',Inv X pins σ H' s'/\m6 vs us/\Q vs H'
def SP (X:Cx)(pins:L8)(D:Ends)(f:Flow)(s':Shared):Prop:=
 match f with
 |.next=>∃ai H',Inv X pins ai H' s'/\D.nx ai H'
 |.brk=>∃ai H',Inv X pins ai H' s'/\D.bk ai H'
 |.cont=>∃ai H',Inv X pins ai H' s'/\D.ct ai H'
 |.ret u=>∃v ai H',Inv X pins ai H' s'/\RelV v u/\D.rt v H'
def PE (X:Cx)(e:Expr)(t:TE):Prop:=
 ∀(pins:L8) (s:Shared) (σ:St) (H:Hp) (Q:VK),Inv X pins σ H s->t σ H Q->wpAny (model X.prog X.w) X.A (eval e X.env) (EP X pins σ Q) X.xe s
def PT (X:Cx)(e:Expr)(t:TT):Prop:=
 ∀(pins:L8) (s:Shared) (σ:St) (H:Hp) (Q:Bool->Hp->Prop),Inv X pins σ H s->t σ H Q->wpAny (model X.prog X.w) X.A (isTrue e X.env<|eval e X.env) (TP X pins σ Q) X.xe s
def PW (X:Cx)(e:Expr)(t:TT):Prop:=
 ∀(whole:Sem Value) (pins:L8) (s:Shared) (σ:St) (H:Hp) (Q:Bool->Hp->Prop),Inv X pins σ H s->t σ H Q->wpAny (model X.prog X.w) X.A (isTrue e X.env whole) (TP X pins σ Q) X.xe s
def PW.pt (h:PW X e t):PT X e t:=h _
def PA (X:Cx)(es:List Expr)(t:TA):Prop:=
 ∀(pos:Pos) (pins:L8) (s:Shared) (σ:St) (H:Hp) (Q:List V->Hp->Prop),Inv X pins σ H s->t σ H Q->wpAny (model X.prog X.w) X.A (spliced<|backTo pos<|starEach es X.env) (AP X pins σ Q) X.xe s
def PS (X:Cx)(st:Stmt)(t:TS):Prop:=
 ∀(pins:L8) (s:Shared) (σ:St) (H:Hp) (D:Ends),Inv X pins σ H s->t D σ H->wpAny (model X.prog X.w) X.A (exec st X.env) (SP X pins D) X.xe s
def uR (X:Cx)(st:List Stmt)(t:TS):Prop:=
 ∀(pins:L8) (s:Shared) (σ:St) (H:Hp) (D:Ends),Inv X pins σ H s->t D σ H->wpAny (model X.prog X.w) X.A (execs st X.env) (SP X pins D) X.xe s
def D8 {α:Type}{t:Sem α}{Q Q':α->Shared->Prop}{M:Model}{A:Around}{E:A3}{s:Shared}(h:wpAny M A t Q E s)(hQ:∀a s,Q a s->Q' a s):wpAny M A t Q' E s:=aCb h hQ λ_ _ x=>x
end L2
namespace L2
open PySem PySem.Spec PyProof.Rows
section
variable{X:Cx}
def bq (i:Nat):TE:=λσ H Q=>∃v,σ[i]?=some (some v)/\Q v H
def tC (v:V):TE:=λ_ H Q=>Q v H
def Q7 (hN:X.N[i]?=some x)(hv:BI X.env.scope x)(hd:(x==("__debug__":Str))=false:=by decide)(eu:(x==("__classdict__":Str))=false:=by decide):PE X (.Name x pos) (bq i):=by
 intro pins s σ H Q I h;obtain⟨v,e,h⟩:=h;obtain⟨m,hn,hl⟩:=I.loc;obtain⟨u,r,l⟩:=hl i x v hN e hv;have fin:EP X pins σ Q u s:=⟨v,H,I,r,h⟩;rcases l with⟨hk,hm⟩|⟨hk,c,hc,dg⟩
 ·exact wpAny_Name (wpAny_loadName_local I.ok.kind hk hn hm fin) hd
 ·rcases hk with hk|hk
  ·exact wpAny_Name (wpAny_loadName_cell I.ok.kind hk hc dg fin) hd
  ·exact wpAny_Name (wpAny_loadName_free I.ok.kind hk hc dg fin eu) hd
def VY {i j pos}:PE X (.Constant (.int i) j pos) (tC (.int i)):=λ_ _ _ H _ I h=>wpAny_Constant_int ⟨.int i,H,I.tok _,⟨_,rfl⟩,h⟩
def fj {b j pos}:PE X (.Constant (.bool b) j pos) (tC (.bl b)):=λ_ _ _ H _ I h=>Constant_bool ⟨.bl b,H,I,rfl,h⟩
def WJ {j pos}:PE X (.Constant .none j pos) (tC .non):=λ_ _ _ H _ I h=>Constant_none ⟨.non,H,I,rfl,h⟩
def Gl (X:Cx)(x:Str):Prop:=X.env.kindOf x=some .globalImplicit
def tJ {E:A3}{Q:A3}(I:Inv X pins σ H s)(hg:Gl X x)(hm:X.mg x=some u)(h:Q u s)(hd:(x==("__debug__":Str))=false:=by decide):wpAny (model X.prog X.w) X.A (eval (.Name x pos) X.env) Q E s:=
 Calls.Name_function_global I.ok.kind hg (Calls.loadGlobal_global (by rw[I.ok.glob];exact I.mod.glob.keeps I.bk) hm h) hd
def K9 {E:A3}{Q:A3}(I:Inv X pins σ H s)(hg:Gl X x)(hm:X.mg x=none)(hv:bootBuiltins x=some u)(h:Q u s)(hn:x≠ "__name__":=by decide)(hd:(x==("__debug__":Str))=false:=by decide):wpAny (model X.prog X.w) X.A (eval (.Name x pos) X.env) Q E s:=by obtain⟨mb,h1,h2⟩:=I.mod.blt;exact Calls.Name_function_global I.ok.kind hg (Calls.loadGlobal_builtin (by rw[I.ok.glob];exact I.mod.glob.keeps I.bk) hm (by rw[I.ok.blt];exact h1.keeps I.bk) ((h2 x hn).trans hv) h) hd
def TU (hg:Gl X x)(hm:X.mg x=some u)(r:RelV v u)(hd:(x==("__debug__":Str))=false:=by decide):PE X (.Name x pos) (tC v):=
 λ_ _ _ H _ I h=>tJ I hg hm ⟨v,H,I,r,h⟩ hd
variable{a b:Expr} {ta tb:TE} {pos:Pos}
def tB (t:TE):TT:=λσ H Q=>t σ H λx H1=>∃c,x=.bl c/\Q c H1
def YM {e:Expr}{t:TE}(h:PE X e t)(he:∀whole,isTrue e X.env whole=(do let v<-whole;standAt e.pos;holding [v] (truthy v)):=by intro _;rfl):PT X e (tB t):=by intro pins s σ H Q I hw;refine isTrue_plain (D8 (h pins s σ H _ I hw) λv s1 ⟨x,H1,I1,r1,q1⟩=>?_) (he _);obtain⟨d,rfl,q⟩:=q1;cases r1;exact aBF ⟨H1,I1,q⟩
variable{tA tB':TT} {rest:List Expr}
def sj (t u:TT):TT:=λσ H Q=>t σ H λc H1=>if c=true then u σ H1 Q else Q false H1
def tOr (t u:TT):TT:=λσ H Q=>t σ H λc H1=>if c=true then Q true H1 else u σ H1 Q
def UA (ha:PT X a tA):PW X (.BoolOp .And [a] pos) tA:=by
 intro wh pins s σ H Q I h;refine isTrue_and (D8 (ha pins s σ H Q I h) λc s1 e=>?_);cases c with
 |true=>exact isTrue_and_nil e
 |false=>exact e
def XM (ha:PT X a tA):PW X (.BoolOp .Or [a] pos) tA:=by
 intro wh pins s σ H Q I h;refine isTrue_or (D8 (ha pins s σ H Q I h) λc s1 e=>?_);cases c with
 |false=>exact isTrue_or_nil e
 |true=>exact e
def VZ (ha:PT X a tA)(hb:PW X (.BoolOp .And (b::rest) pos) tB'):PW X (.BoolOp .And (a::b::rest) pos) (sj tA tB'):=by
 intro wh pins s σ H Q I h;refine isTrue_and (D8 (ha pins s σ H _ I h) λc s1 ⟨H1,I1,q1⟩=>?_);cases c with
 |true=>exact hb wh pins s1 σ H1 Q I1 q1
 |false=>exact⟨H1,I1,q1⟩
def ZV (ha:PT X a tA)(hb:PW X (.BoolOp .Or (b::rest) pos) tB'):PW X (.BoolOp .Or (a::b::rest) pos) (tOr tA tB'):=by
 intro wh pins s σ H Q I h;refine isTrue_or (D8 (ha pins s σ H _ I h) λc s1 ⟨H1,I1,q1⟩=>?_);cases c with
 |true=>exact⟨H1,I1,q1⟩
 |false=>exact hb wh pins s1 σ H1 Q I1 q1
end
end L2
namespace L2
open PySem PySem.Spec PyProof.Rows
def L7 (K:PySem.W.Frag)(H:Hp)(a:Addr)(xs:List V):Prop:=
 Rd H a (.lst xs)\/
  ∃(o:Obj) (its:Array Value) (n:Nat),K.lookup a=some o/\o.cls=.type "list"/\o.dict=none/\o.data=.seq its n/\its.size<=sizeLine/\m6 xs its.toList
def T2 (K:PySem.W.Frag)(H:Hp)(a:Addr)(xs:List V):Prop:=
 Rd H a (.tup xs)\/
  ∃(o:Obj) (its:Array Value) (n:Nat),K.lookup a=some o/\o.cls=.type "tuple"/\o.data=.seq its n/\its.size<=sizeLine/\m6 xs its.toList
def a0g:Value->Option V
 |.none=>some .non
 |.bool b=>some (.bl b)
 |.int i _=>some (.int i)
 |.str x _=>some (.str x)
 |.bytes b _=>some (.byt b)
 |.float b _=>some (.flt b)
 |.ref a=>some (.ref a)
 |.type n=>some (.ty n)
 |_=>none
def RelV.abs (r:RelV x u):a0g u=some x:=by
 cases x with
 |non=>cases r;rfl
 |bl _=>cases r;rfl
 |int _=>obtain⟨t,rfl⟩:=r;rfl
 |str _=>obtain⟨t,rfl⟩:=r;rfl
 |byt _=>obtain⟨t,rfl⟩:=r;rfl
 |flt _=>obtain⟨t,rfl⟩:=r;rfl
 |ref _=>cases r;rfl
 |ty _=>cases r;rfl
def RelV.inj {x y:V}{u:Value}(r:RelV x u)(q:RelV y u):x=y:=Option.some.inj (r.abs.symm.trans q.abs)
theorem m6.inj:∀{xs ys:List V} {us:List Value},m6 xs us->m6 ys us->xs=ys
 |_,_,_,.nil,.nil=>rfl
 |_,_,_,.cons r t,.cons r' t'=>by rw[r.inj r',m6.inj t t']
section
variable{X:Cx} {pins:L8} {σ:St} {H:Hp} {s:Shared} {a:Addr} {xs ys:List V}
def L7.of {K:PySem.W.Frag}(h:H a=some (.lst xs)):L7 K H a xs:=.inl (.inl h)
def T2.of {K:PySem.W.Frag}(h:H a=some (.tup xs)):T2 K H a xs:=.inl (.inl h)
def Inv.list (I:Inv X pins σ H s)(h:L7 X.K H a xs):∃its:List Value,m6 xs its/\PlainL s.heap a its.toArray/\xs.length<=sizeLine:=by
 rcases h with h|⟨o,its,n,hk,hc,hd,hs,hz,r⟩
 ·obtain⟨z,its,n,r,e⟩:=h.ok I.hok;exact⟨its,r,⟨_,n,e,rfl,rfl,rfl⟩,z⟩
 ·refine⟨its.toList,r,⟨o,n,I.kIn a o hk,hc,hd,by simpa using hs⟩,?_⟩;have e:=r.length;simp only[aAU]at e
  lia
def Inv.tuple (I:Inv X pins σ H s)(h:T2 X.K H a xs):∃its:List Value,m6 xs its/\IsTup s.heap a its.toArray/\xs.length<=sizeLine:=by
 rcases h with h|⟨o,its,n,hk,hc,hs,hz,r⟩
 ·obtain⟨z,its,r,p⟩:=h.ok I.hok;exact⟨its,r,p,z⟩
 ·refine⟨its.toList,r,⟨o,I.kIn a o hk,hc,n,by simpa using hs⟩,?_⟩;have e:=r.length;simp only[aAU]at e
  lia
def Inv.ab0 (I:Inv X pins σ H s)(h:L7 X.K H a xs)(h':L7 X.K H a ys):xs=ys:=by
 obtain⟨its,r,⟨o,n,e,_,_,d⟩,_⟩:=I.list h;obtain⟨its',r',⟨o',n',e',_,_,d'⟩,_⟩:=I.list h';rw[e]at e';cases e';rw[d]at d';injection d' with d1 _;have:its=its':=by simpa using congrArg aFz d1
 subst this;exact r.inj r'
def Inv.ab4 (I:Inv X pins σ H s)(h:T2 X.K H a xs)(h':T2 X.K H a ys):xs=ys:=by
 obtain⟨its,r,⟨o,e,_,n,d⟩,_⟩:=I.tuple h;obtain⟨its',r',⟨o',e',_,n',d'⟩,_⟩:=I.tuple h';rw[e]at e';cases e';rw[d]at d';injection d' with d1 _;have:its=its':=by simpa using congrArg aFz d1
 subst this;exact r.inj r'
end
abbrev Cx.ac1 (X:Cx)(E:A3):Cx:={X with xe:=E}
abbrev Cx.nox (X:Cx):Cx:=X.ac1 λ_ _=>False
def Cx.Ok.ac1 {X:Cx}(ok:X.Ok)(E:A3):(X.ac1 E).Ok:=
 ⟨ok.mod,ok.kind,ok.glob,ok.blt,ok.above,ok.inj,ok.has,ok.cab,ok.hd,ok.frames,ok.stk,ok.exf,ok.bs,ok.bsz,ok.noex,ok.exfs,ok.funs,ok.frf⟩
def Cx.Ok.aa8 {X:Cx}{E:A3}(ok:(X.ac1 E).Ok):X.Ok:=
 ⟨ok.mod,ok.kind,ok.glob,ok.blt,ok.above,ok.inj,ok.has,ok.cab,ok.hd,ok.frames,ok.stk,ok.exf,ok.bs,ok.bsz,ok.noex,ok.exfs,ok.funs,ok.frf⟩
section
variable{X:Cx} {pins:L8} {σ:St} {H:Hp} {s:Shared} {E:A3}
def Inv.ac1 (I:Inv X pins σ H s)(E:A3):Inv (X.ac1 E) pins σ H s:=⟨I.ok.ac1 E,I.os,I.bare,I.base,I.loc,I.cell,I.free,I.freeC,I.pin,I.hok,I.len⟩
def Inv.aa8 (I:Inv (X.ac1 E) pins σ H s):Inv X pins σ H s:=⟨I.ok.aa8,I.os,I.bare,I.base,I.loc,I.cell,I.free,I.freeC,I.pin,I.hok,I.len⟩
def SP.aa8 (h:SP (X.ac1 E) pins D f s'):SP X pins D f s':=by
 cases f with
 |next=>obtain⟨ai,H',I,q⟩:=h;exact⟨ai,H',I.aa8,q⟩
 |brk=>obtain⟨ai,H',I,q⟩:=h;exact⟨ai,H',I.aa8,q⟩
 |cont=>obtain⟨ai,H',I,q⟩:=h;exact⟨ai,H',I.aa8,q⟩
 |ret u=>obtain⟨v,ai,H',I,r,q⟩:=h;exact⟨v,ai,H',I.aa8,r,q⟩
def uR.nox {st:List Stmt}{t:TS}(h:uR X.nox st t):uR X st t:=λpins s σ H D I hw=>aCb (h pins s σ H D (I.ac1 _) hw) (λ_ _ q=>q.aa8) λ_ _ z=>aAk z
end
section
variable{X:Cx} {st:Stmt} {rest:List Stmt} {t u:TS} {e:Expr} {te:TE} {pos:Pos}
def jz:TS:=λD σ H=>D.nx σ H
def yz (t u:TS):TS:=λD σ H=>t {D with nx:=u D} σ H
def SA:uR X [] jz:=λ_ _ σ H _ I h=>aEr ⟨σ,H,I,h⟩
def IW (h1:PS X st t)(h2:uR X rest u):uR X (st::rest) (yz t u):=by
 intro pins s σ H D I h;refine aEd (D8 (h1 pins s σ H {D with nx:=u D} I h) λf s1 q=>?_);cases f with
 |next=>obtain⟨ai,H',I',q⟩:=q;exact h2 pins s1 ai H' D I' q
 |ret v=>exact q
 |brk=>exact q
 |cont=>exact q
def DG (h1:PS X st t):uR X [st] t:=by
 intro pins s σ H D I h;refine aEd (D8 (h1 pins s σ H D I h) λf s1 q=>?_);cases f with
 |next=>exact aEr q
 |ret v=>exact q
 |brk=>exact q
 |cont=>exact q
def Inv.quiet (I:Inv X pins σ H s):interactive X.env=false:=by simp[interactive,I.ok.kind]
def jy (te:TE):TS:=λD σ H=>te σ H λ_ H1=>D.nx σ H1
def mL (he:PE X e te)(hs:swapsWith e none pos.line X.env=pure false:=by rfl):PS X (.Expr e pos) (jy te):=by intro pins s σ H D I h;exact wpAny_Expr_any (D8 (he pins s σ H _ I h) λv s1 ⟨x,H1,I1,r1,q1⟩=>⟨σ,H1,I1,q1⟩) I.quiet hs
def tx (te:TE):TS:=λD σ H=>te σ H D.rt
def OH (he:PE X e te):PS X (.Return (some e) pos) (tx te):=by intro pins s σ H D I h;exact wpAny_Return_some (D8 (he pins s σ H _ I h) λv s1 ⟨x,H1,I1,r1,q1⟩=>⟨x,σ,H1,I1,r1,q1⟩)
def rz (c:TT)(t u:TS):TS:=λD σ H=>c σ H λb H1=>if b=true then t D σ H1 else u D σ H1
def ZR {c:Expr}{a b:List Stmt}{tc:TT}(hc:PT X c tc)(ha:uR X a t)(hb:uR X b u):PS X (.If c a b pos) (rz tc t u):=by
 intro pins s σ H D I h;refine wpAny_If (D8 (hc pins s σ H _ I h) λd s1 ⟨H1,I1,q1⟩=>?_);cases d with
 |true=>exact ha pins s1 σ H1 D I1 q1
 |false=>exact hb pins s1 σ H1 D I1 q1
def YX:TS:=λ_ _ _=>False
def JG:PS X st YX:=λ_ _ _ _ _ _ h=>h.elim
end
abbrev TG:=V->St->Hp->(St->Hp->Prop)->Prop
abbrev YG:=List V->St->Hp->(St->Hp->Prop)->Prop
def PG (X:Cx)(target:Expr)(t:TG):Prop:=
 ∀(pins:L8) (s:Shared) (σ:St) (H:Hp) (v:V) (u:Value) (Q:St->Hp->Prop),Inv X pins σ H s->RelV v u->t v σ H Q->
  wpAny (model X.prog X.w) X.A (assign target X.env u) (λ_ s'=>∃ai H',Inv X pins ai H' s'/\Q ai H') X.xe s
def ZI (X:Cx)(ts:List Expr)(t:YG):Prop:=
 ∀(pins:L8) (s:Shared) (σ:St) (H:Hp) (vs:List V) (us:List Value) (Q:St->Hp->Prop),Inv X pins σ H s->m6 vs us->t vs σ H Q->
  wpAny (model X.prog X.w) X.A (assignInOrder ((assignEach ts X.env).map (·.2)) us) (λ_ s'=>∃ai H',Inv X pins ai H' s'/\Q ai H') X.xe s
abbrev TV:=V->V->V->Hp->(Hp->Prop)->Prop
def WE (X:Cx)(t:TV):Prop:=
 ∀(pins:L8) (s:Shared) (σ:St) (H:Hp) (o i v:V) (ov iv u:Value) (Q:Hp->Prop),Inv X pins σ H s->RelV o ov->RelV i iv->RelV v u->t o i v H Q->
  wpAny (model X.prog X.w) X.A (setItem ov iv u) (λ_ s'=>∃H',Inv X pins σ H' s'/\Q H') X.xe s
section
variable{X:Cx} {pos:Pos}
def UO (i:Nat):TG:=λv σ H Q=>Q (σ.set i<|some v) H
def TY (hN:X.N.Nodup)(hi:X.N[i]?=some x)(hx:Loc X.env.scope x)(hf:X.fn x=true\/X.env.scope.names.lookup x=some .local:=by first|exact .inl rfl|exact .inr rfl|assumption):PG X (.Name x pos) (UO i):=by intro pins s σ H v u Q I r h;exact aEW (P4 I hN hi hx r (λs' I'=>⟨_,H,I',h⟩) hf)
def sk:YG:=λvs σ H Q=>vs=[]/\Q σ H
def gy (t:TG)(u:YG):YG:=λvs σ H Q=>∃v r,vs=v::r/\t v σ H λai H'=>u r ai H' Q
def QC:ZI X [] sk:=by intro pins s σ H vs us Q I r h;obtain⟨e,h⟩:=h;subst e;cases r;exact assignInOrder_nil ⟨σ,H,I,h⟩
def KN {e:Expr}{es:List Expr}{t:TG}{u:YG}(h1:PG X e t)(h2:ZI X es u)
  (hs:(assignEach (e::es) X.env).map (·.2)=assign e X.env::(assignEach es X.env).map (·.2):=by rfl):ZI X (e::es) (gy t u):=by
 intro pins s σ H vs us Q I r h;obtain⟨v,vr,e1,h⟩:=h;subst e1;cases r with
 |cons r rr=>rw[hs];refine aEH (D8 (h1 pins s σ H _ _ _ I r h) λ_ s1 ⟨σ1,H1,I1,q1⟩=>?_);exact h2 pins s1 σ1 H1 _ _ Q I1 rr q1
def xk (to ti:TE)(t:TV):TG:=λv σ H Q=>to σ H λo H1=>ti σ H1 λi H2=>t o i v H2 λH3=>Q σ H3
def MH {o i:Expr}{to ti:TE}{t:TV}(ho:PE X o to)(hi:PE X i ti)(hs:WE X t)
  (ha:∀v,assign (.Subscript o i pos) X.env v=(do
   let ov<-holding [v] (eval o X.env)
   let iv<-holding [v,ov] (eval i X.env)
   standAt pos
   holding [v,ov,iv] (setItem ov iv v)
   release [v,ov,iv] []):=by intro _;rfl):PG X (.Subscript o i pos) (xk to ti t):=by
 intro pins s σ H v u Q I r h;rw[ha];refine aAa (aAK<|D8 (ho pins s σ H _ I h) λov s1 ⟨x,H1,I1,r1,q1⟩=>?_);refine aAa (aAK<|D8 (hi pins s1 σ H1 _ I1 q1) λiv s2 ⟨y,H2,I2,r2,q2⟩=>?_);refine aAa (aDJ<|aAa<|aAK<|D8 (hs pins s2 σ H2 x y v ov iv u _ I2 r1 r2 r q2) λ_ s3 ⟨H3,I3,q3⟩=>?_);exact wpAny_release ⟨σ,H3,I3,q3⟩
def jj (te:TE)(g:TG):TS:=λD σ H=>te σ H λx H1=>g x σ H1 D.nx
def BY {tg e:Expr}{te:TE}{g:TG}(he:PE X e te)(hg:PG X tg g)(hs:swapsWithSole [tg] e pos.line X.env=pure false:=by rfl)(hw:swappedStores [tg] e X.env=pure none:=by rfl)
  (h1:(assignEach [tg] X.env).map (·.2)=[assign tg X.env]:=by rfl):PS X (.Assign [tg] e pos) (jj te g):=by
 intro pins s σ H D I h;refine wpAny_Assign_stores (D8 (he pins s σ H _ I h) λv s1 ⟨x,H1,I1,r1,q1⟩=>?_) hs hw;rw[h1];exact D8 (hg pins s1 σ H1 x v _ I1 r1 q1) λ_ s2 q=>q
def LU {i:Nat}{x:Str}{e:Expr}{te:TE}{pos':Pos}(hN:X.N.Nodup)(hi:X.N[i]?=some x)(hx:Loc X.env.scope x)(he:PE X e te)(hs:swapsWith e (some (.Name x pos')) pos.line X.env=pure false:=by rfl)(hf:X.fn x=true\/X.env.scope.names.lookup x=some .local:=by first|exact .inl rfl|exact .inr rfl|assumption):
  PS X (.Assign [.Name x pos'] e pos) (jj te (UO i)):=by
 intro pins s σ H D I h;refine aEX (D8 (he pins s σ H _ I h) λv s1 ⟨y,H1,I1,r1,q1⟩=>?_) hs;exact P4 I1 hN hi hx r1 (λs2 I2=>⟨_,H1,I2,q1⟩) hf
def xw (i j:Nat)(ta:TA):TS:=λD σ H=>ta σ H λvs H1=>∃v w,vs=[v,w]/\D.nx ((σ.set i<|some v).set j (some w)) H1
def XR {i j:Nat}{x y:Str}{a b:Expr}{ta:TA}{px py pt:Pos}{kt k2 GB}(hc:X.calm=true)(hN:X.N.Nodup)(hi:X.N[i]?=some x)(hj:X.N[j]?=some y)(jm:i≠j)
  (hx:X.env.scope.names.lookup x=some .local) (hy:X.env.scope.names.lookup y=some .local) (ha:PA X [a,b] ta)
  (hw:swappedStores [.Tuple [.Name x px,.Name y py] kt pt] (.Tuple [a,b] k2 GB) X.env=pure (some [x,y]))
  (hs:swapsWithSole [.Tuple [.Name x px,.Name y py] kt pt] (.Tuple [a,b] k2 GB) pos.line X.env=pure false:=by rfl):
  PS X (.Assign [.Tuple [.Name x px,.Name y py] kt pt] (.Tuple [a,b] k2 GB) pos) (xw i j ta):=by
 intro pins s σ H D I h;rw[exec_Assign_arm];refine aAa (aDJ ?_);rw[hs];refine aAa (aAb ?_);rw[if_neg (by decide)];refine aAa (Tuple_<|D8 (ha _ pins s σ H _ I h) λus s1 ⟨vs,H1,I1,r1,q1⟩=>?_);obtain⟨v,w,e1,q1⟩:=q1;subst e1;obtain⟨u1,u2,rfl,rv,rw'⟩:∃u1 u2,us=[u1,u2]/\RelV v u1/\RelV w u2:=by
  cases r1 with
  |cons p q=>
   cases q with
   |cons p' q'=>cases q';exact⟨_,_,rfl,p,p'⟩
 refine aBm ?_ (by show 2<=sizeLine;decide);have I2:Inv X pins σ H1 {s1 with heap:=s1.heap.push {cls:=.type "tuple",data:=.seq [u1,u2].toArray}}:=I1.kept (t':=s1.toks) λb o e=>aAc _ e;rw[hw];refine aAa (aAb ?_);show wpAny (model X.prog X.w) X.A (do rule "assign.swapped-stores";let items<-unpackItems (.ref s1.heap.objs.size) 2 none;assignInOrder [λv=>bindName X.env y v,λv=>bindName X.env x v] items.reverse;pure Flow.next) _ _ _;refine aAa (aDr<|aAa<|unpackItems_tuple (items:=#[u1,u2]) (I.ok.hd hc) (IsTup.new s1.heap _) λh' hx'=>?_);have I3:=I2.kept (h':=h') (t':=s1.toks) λb o e=>hx' b o (aAj<|aAf e) e;show wpAny _ _ (assignInOrder [λv=>bindName X.env y v,λv=>bindName X.env x v] [u2,u1]>>=λ_=>pure Flow.next) _ _ _;refine aAa (aEH<|wpAny_bindName<|P4 I3 hN hj (.inl hy) rw' (λs2 I4=>?_)<|.inr hy);refine aEH (wpAny_bindName<|P4 I4 hN hi (.inl hx) rv (λs3 I5=>assignInOrder_nil (aAb ?_))<|.inr hx);rw[List.set_comm _ _ (aBQ jm)]at I5;exact⟨_,H1,I5,q1⟩
end
section
variable{X:Cx} {pos:Pos}
def XA (c:TT)(tb:TS):TS:=λD σ H=>∃W:Nat->St->Hp->Prop,(∃m,W m σ H)/\∀m σ H,W m σ H->
 c σ H λb H1=>if b=true then∃N:St->Hp->Prop,(∀ai H',N ai H'->∃m',m'<m/\W m' ai H')/\tb {D with nx:=N,ct:=N,bk:=D.nx} σ H1 else D.nx σ H1
def MC {c:Expr}{body:List Stmt}{tc:TT}{tb:TS}(hp:PassesOwn (model X.prog X.w) X.A X.env X.xe)(hc:PT X c tc)(hb:uR X body tb):PS X (.While c body [] pos) (XA tc tb):=by
 intro pins s σ H D I h;obtain⟨W,⟨m0,w0⟩,turn⟩:=h;refine wpAny_While (codeAny_whileLoop (λn s'=>∃ai H',Inv X pins ai H' s'/\W n ai H') ?_ m0 ⟨σ,H,I,w0⟩);rintro n s1 ⟨σ1,H1,I1,w1⟩;refine aCO hp (D8 (hc pins s1 σ1 H1 _ I1<|turn n σ1 H1 w1) λb s2 ⟨H2,I2,q2⟩=>?_);cases b with
 |true=>
  obtain⟨N,hN,q2⟩:=q2;rw[if_pos rfl];refine aCO hp (D8 (hb pins s2 σ1 H2 _ I2 q2) λf s3 q3=>?_);cases f with
  |next=>obtain⟨ql,H3,I3,n3⟩:=q3;obtain⟨m',hm,w3⟩:=hN ql H3 n3;exact⟨m',hm,ql,H3,I3,w3⟩
  |cont=>obtain⟨ql,H3,I3,n3⟩:=q3;obtain⟨m',hm,w3⟩:=hN ql H3 n3;exact⟨m',hm,ql,H3,I3,w3⟩
  |brk=>exact q3
  |ret v=>exact q3
 |false=>rw[if_neg aAT];exact aEr ⟨σ1,H2,I2,q2⟩
end
structure It where
 go:Nat->Hp->Prop
 yld:Nat->Hp->V->Hp->Prop
 stop:Nat->Hp->Prop
def lR (X:Cx)(pins:L8)(H:Hp)(b:Addr):Prop:=
 H b=none/\b≠X.env.locals/\b∉X.fs/\(b∈X.ex\/X.sa.heap.objs.size<=b)/\(∀x c,X.env.cells.lookup x=some c->c≠b)/\∀p∈X.pn++pins,p.1≠b
def Inv.ae4 (I:Inv X pins σ H s)(hb:s.heap.objs.size<=b)(hn:H' b=none):lR X pins H' b:=by
 refine⟨hn,aCD (aAq I.lt hb),I.af9 hb,.inr (aAo I.sz hb),λx c e z=>?_,λp hp z=>?_⟩
 ·obtain⟨v,q⟩:=I.cell x c e;exact absurd (aAq q.lt (by rw[z];exact hb)) (aAX _)
 ·exact absurd (aAq (aAf (I.pin p hp).1) (by rw[z];exact hb)) (aAX _)
structure Turn (P:Program)(w:World)(K:PySem.W.Frag)(tg:Expr)(J:It)(fp:List Addr)(it:Addr)(tn:Nat->Heap->Prop):Prop where
 mem:it∈fp
 obj:∀i h,tn i h->∀b∈fp,∃o,h.get? b=some o/\∀v,o.data≠.cell v
 keep:∀i h h',tn i h->(∀b∈fp,∀o,h.get? b=some o->h'.get? b=some o)->tn i h'
 item:∀(X:Cx),X.prog=P->X.w=w->X.K=K->X.calm=true->∀(i:Nat) (pins:L8) (s:Shared) (σ:St) (H:Hp) (E:A3),Inv X pins σ H s->(∀b∈fp,lR X pins H b)->tn i s.heap->J.go i H->
  wpAny (model P w) X.A (pyNext (.ref it)) (λr s1=>∃u,r=some u/\
   wpAny (model P w) X.A (letOwnedTupleGo tg (.ref it) u) (λ_ s2=>∃x H',Inv X pins σ H' s2/\RelV x u/\J.yld i H x H'/\tn (i+1) s2.heap/\∀b∈fp,H' b=none) E s1) E s
 done:∀(X:Cx),X.prog=P->X.w=w->X.K=K->X.calm=true->∀(i:Nat) (pins:L8) (s:Shared) (σ:St) (H:Hp) (E:A3),Inv X pins σ H s->(∀b∈fp,lR X pins H b)->tn i s.heap->J.stop i H->
  wpAny (model P w) X.A (pyNext (.ref it)) (λr s1=>r=none/\Inv X pins σ H s1) E s
 self:∀(A:Around) (i:Nat) (s:Shared) (Q:A3) (E:A3),tn i s.heap->Q (.ref it) s->wpAny (model P w) A (pyIter (.ref it)) Q E s
abbrev TI:=St->Hp->(It->Hp->Prop)->Prop
def qy (X:Cx)(pins:L8)(σ:St)(tg:Expr)(R:It->Hp->Prop)(itv:Value)(s2:Shared):Prop:=
 ∃(it:Addr) (fp:List Addr) (tn:Nat->Heap->Prop) (J:It) (H':Hp),itv=.ref it/\Inv X pins σ H' s2/\Turn X.prog X.w X.K tg J fp it tn/\tn 0 s2.heap/\(∀b∈fp,lR X pins H' b)/\R J H'
def PI (X:Cx)(tg z9:Expr)(wi:TI):Prop:=
 ∀(pins:L8) (s:Shared) (σ:St) (H:Hp) (R:It->Hp->Prop),Inv X pins σ H s->wi σ H R->
  wpAny (model X.prog X.w) X.A (eval z9 X.env) (λv s1=>wpAny (model X.prog X.w) X.A (pyIter v) (qy X pins σ tg R) X.xe s1) X.xe s
def ME {E : Value → Shared → Prop} {Q : Unit → Shared → Prop} (ho : s.heap.get? it = some o) (hc : o.cls = .type n) (hd : o.data = .fields vs) (hn : ["enumerate", "zip", "dict_itemiterator", "dict_reverseitemiterator", "odict_iterator", "itertools.zip_longest", "itertools.pairwise"].contains n = false) (hQ : Q () s) : wpAny M A (letOwnedTupleGo tg (.ref it) u) Q E s := by
  unfold letOwnedTupleGo;cases tg <;> first
    | exact aAb hQ
    | (cases u <;> first
        | exact aAb hQ
        | (refine aAa (wpAny_load ho ?_)
           rw [hc, hd];show wpAny M A (if (["enumerate", "zip", "dict_itemiterator", "dict_reverseitemiterator", "odict_iterator", "itertools.zip_longest", "itertools.pairwise"].contains n && vs[0]? == some (rawInt _)) = true then _ else _) Q E s;rw [if_neg (by intro h; rw [hn, Bool.false_and] at h; cases h)];exact aAb hQ))
def yw (K:PySem.W.Frag)(a:Addr):It:=
 ⟨λi H=>∃xs x,L7 K H a xs/\xs[i]?=some x,λi H x H'=>H'=H/\∀xs,L7 K H a xs->xs[i]?=some x,λi H=>∃xs,L7 K H a xs/\xs.length<=i⟩
def yy (K:PySem.W.Frag)(a:Addr):It:=
 ⟨λi H=>∃xs x,T2 K H a xs/\xs[i]?=some x,λi H x H'=>H'=H/\∀xs,T2 K H a xs->xs[i]?=some x,λi H=>∃xs,T2 K H a xs/\xs.length<=i⟩
def HE {P:Program}{w:World}{K:PySem.W.Frag}{tg:Expr}(a it:Addr):Turn P w K tg (yw K a) [it] it (λi h=>h.IsListIter it a i)where
 mem:=by simp
 obj:=λi h st b hb=>by
  have e:b=it:=by simpa using hb
  subst e;obtain⟨o,e,c,d⟩:=st;exact⟨o,e,λv z=>by rw[d]at z;cases z⟩
 keep:=λi h h' st k=>st.at λo e=>k it (by simp) o e
 item:=by intro X hP hw hK hc i pins s σ H E I hf st hg;subst hP hw hK;obtain⟨xs,x,hq,hx⟩:=hg;obtain⟨its,rv,p,hz⟩:=I.list hq;obtain⟨u,hu,ru⟩:=rv.get hx;obtain⟨f0,f1,f2,f3,f4,f5⟩:=hf it (by simp);refine wpAny_pyNext_list_item st p.isList (x:=u) (by simpa using hu) λh' st' sb=>?_;have I1:Inv X pins σ H {s with heap:=h'}:=I.turned (t':=s.toks) (λb o hb e=>(sb.2 b hb).trans e) f0 f1 f3 f4 f5;obtain⟨o,e,c,d⟩:=id st';exact⟨u,rfl,ME (s:={s with heap:=h'}) e c d (by decide) ⟨x,H,I1,ru,⟨rfl,λys hy=>by rw[I.ab0 hy hq];exact hx⟩,st',λb hb=>(hf b hb).1⟩⟩
 done:=by intro X hP hw hK hc i pins s σ H E I hf st hg;subst hP hw hK;obtain⟨xs,hq,hx⟩:=hg;obtain⟨its,rv,p,hz⟩:=I.list hq;obtain⟨f0,f1,f2,f3,f4,f5⟩:=hf it (by simp);have hl:=rv.length;exact wpAny_pyNext_list_end (I.ok.hd hc) st p.isList (by simp;lia) λh' eb=>⟨rfl,I.turned (t':=s.toks) (λb o hb e=>eb b o hb e) f0 f1 f3 f4 f5⟩
 self:=λ_ _ _ _ _ st h=>wpAny_pyIter_listiter st h
def BM {P:Program}{w:World}{K:PySem.W.Frag}{tg:Expr}(a it:Addr):Turn P w K tg (yy K a) [it] it (λi h=>h.IsTupleIter it a i)where
 mem:=by simp
 obj:=λi h st b hb=>by
  have e:b=it:=by simpa using hb
  subst e;obtain⟨o,e,c,d⟩:=st;exact⟨o,e,λv z=>by rw[d]at z;cases z⟩
 keep:=λi h h' st k=>st.at λo e=>k it (by simp) o e
 item:=by intro X hP hw hK hc i pins s σ H E I hf st hg;subst hP hw hK;obtain⟨xs,x,hq,hx⟩:=hg;obtain⟨its,rv,p,hz⟩:=I.tuple hq;obtain⟨u,hu,ru⟩:=rv.get hx;obtain⟨f0,f1,f2,f3,f4,f5⟩:=hf it (by simp);refine wpAny_pyNext_tuple_item st (show s.heap.IsTuple a its.toArray from p) (x:=u) (by simpa using hu) λh' st' sb=>?_;have I1:Inv X pins σ H {s with heap:=h'}:=I.turned (t':=s.toks) (λb o hb e=>(sb.2 b hb).trans e) f0 f1 f3 f4 f5;obtain⟨o,e,c,d⟩:=id st';exact⟨u,rfl,ME (s:={s with heap:=h'}) e c d (by decide) ⟨x,H,I1,ru,⟨rfl,λys hy=>by rw[I.ab4 hy hq];exact hx⟩,st',λb hb=>(hf b hb).1⟩⟩
 done:=by intro X hP hw hK hc i pins s σ H E I hf st hg;subst hP hw hK;obtain⟨xs,hq,hx⟩:=hg;obtain⟨its,rv,p,hz⟩:=I.tuple hq;obtain⟨f0,f1,f2,f3,f4,f5⟩:=hf it (by simp);have hl:=rv.length;exact wpAny_pyNext_tuple_end (I.ok.hd hc) st (show s.heap.IsTuple a its.toArray from p) (by simp;lia) λh' eb=>⟨rfl,I.turned (t':=s.toks) (λb o hb e=>eb b o hb e) f0 f1 f3 f4 f5⟩
 self:=λ_ _ _ _ _ st h=>wpAny_pyIter_tupleiter st h
end L2
namespace L2
open PySem PySem.Spec PyProof.Rows
section
variable{X:Cx} {tg:Expr}
def dj (K:PySem.W.Frag)(tl:TE):TI:=λσ H R=>tl σ H λx H1=>∃a,x=.ref a/\(∃xs,L7 K H1 a xs)/\R (yw K a) H1
def a0f (K:PySem.W.Frag)(tl:TE):TI:=λσ H R=>tl σ H λx H1=>∃a,x=.ref a/\(∃xs,T2 K H1 a xs)/\R (yy K a) H1
def SM (hl:PE X l tl):PI X tg l (dj X.K tl):=by
 intro pins s σ H R I h;refine D8 (hl pins s σ H _ I h) λv s1 ⟨x,H1,I1,r1,q1⟩=>?_;obtain⟨a,e,⟨xs,hq⟩,q⟩:=q1;subst e;cases r1;obtain⟨its,rv,p,hz⟩:=I1.list hq;refine aDs p.isList ?_;refine⟨s1.heap.objs.size,[s1.heap.objs.size],_,_,H1,rfl,I1.kept (t':=s1.toks) λb o e=>aAc _ e,HE a _,⟨_,aAp _ rfl,rfl,rfl⟩,λb hb=>?_,q⟩;have e:b=s1.heap.objs.size:=by simpa using hb
 subst e;exact I1.ae4 (aAg _) (I1.hok.fresh<|aAg _)
def YU {l:Expr}{tl:TE}(hl:PE X l tl):PI X tg l (a0f X.K tl):=by
 intro pins s σ H R I h;refine D8 (hl pins s σ H _ I h) λv s1 ⟨x,H1,I1,r1,q1⟩=>?_;obtain⟨a,e,⟨xs,hq⟩,q⟩:=q1;subst e;cases r1;obtain⟨its,rv,p,hz⟩:=I1.tuple hq;refine wpAny_pyIter_tuple (show s1.heap.IsTuple a its.toArray from p) ?_;refine⟨s1.heap.objs.size,[s1.heap.objs.size],_,_,H1,rfl,I1.kept (t':=s1.toks) λb o e=>aAc _ e,BM a _,⟨_,aAp _ rfl,rfl,rfl⟩,λb hb=>?_,q⟩;have e:b=s1.heap.objs.size:=by simpa using hb
 subst e;exact I1.ae4 (aAg _) (I1.hok.fresh<|aAg _)
def rj (wi:TI)(g:TG)(tb:TS):TS:=λD σ H=>wi σ H λJ H1=>∃W:Nat->Nat->St->Hp->Prop,(∃m,W 0 m σ H1)/\∀i m σ H,W i m σ H->
 (J.stop i H/\D.nx σ H)\/(J.go i H/\∃N:St->Hp->Prop,(∀ai H',N ai H'->∃m',m'<m/\W (i+1) m' ai H')/\∀x H',J.yld i H x H'->g x σ H' λve H2=>tb {D with nx:=N,ct:=N,bk:=D.nx} ve H2)
def oB (fp:List Addr)(h:Heap):List (Addr×Obj):=fp.filterMap λb=>(h.get? b).map λo=>(b,o)
def aV (hb:b∈fp)(e:h.get? b=some o):(b,o)∈oB fp h:=aBR.mpr ⟨b,hb,by rw[e];rfl⟩
def FW (hp:p∈oB fp h):p.1∈fp/\h.get? p.1=some p.2:=by
 obtain⟨b,hb,e⟩:=aBR.mp hp;cases q:h.get? b with
 |none=>rw[q]at e;cases e
 |some o=>rw[q]at e;have e':(b,o)=p:=Option.some.inj e;subst e';exact⟨hb,q⟩
def Inv.pinned (I:Inv X pins σ H s)(hf:∀b∈fp,lR X pins H b)(ho:∀b∈fp,∃o,s.heap.get? b=some o/\∀v,o.data≠.cell v):Inv X (pins++oB fp s.heap) σ H s:=
 I.ad2 λp hp=>(aAN.mp hp).elim (λz=>I.pin p (aAF _ z)) λz=>by obtain⟨hb,e⟩:=FW z;obtain⟨f0,f1,f2,_⟩:=hf p.1 hb;obtain⟨o,e',d⟩:=ho p.1 hb;rw[e]at e';cases e';exact⟨e,f0,f1,f2,d⟩
def Inv.ab1 (I:Inv X (pins++pl) σ H s):Inv X pins σ H s:=I.ad2 λp hp=>I.pin p (aAF _<|aBB _ hp)
def VW (hp:PassesOwn (model X.prog X.w) X.A X.env X.xe)(hc:X.calm=true)(hi:PI X tg z9 wi)(hg:PG X tg g)(hb:uR X body tb)(hs:∀x,foldedSetIterable z9 X.env x=pure x:=by intro _;rfl):PS X (.For tg z9 body [] pos) (rj wi g tb):=by
 intro pins s σ H D I h;refine wpAny_For (D8 (hi pins s σ H _ I h) λv s1 h1=>D8 h1 λitv s2 h2=>?_) hs;obtain⟨it,fp,tn,J,H2,e,I2,T,iu,f2,W,⟨m0,w0⟩,turn⟩:=h2;subst e;have stat:∀{H':Hp},(∀b∈fp,H' b=none)->∀b∈fp,lR X pins H' b:=λhn b hb=>⟨hn b hb,(f2 b hb).2⟩;refine codeAny_forLoop_any (λn s'=>∃i ai H',Inv X pins ai H' s'/\tn i s'.heap/\(∀b∈fp,H' b=none)/\W i n ai H') ?_ m0 ⟨0,σ,H2,I2,iu,λb hb=>(f2 b hb).1,w0⟩;rintro n s3 ⟨i,ql,H3,I3,ye,fr3,w3⟩;rcases turn i n ql H3 w3 with⟨stop,qn⟩|⟨go,N,hN,step⟩
 ·refine aCO hp (D8 (T.done X rfl rfl rfl hc i pins s3 ql H3 X.xe I3 (stat fr3) ye stop) λr s4 ⟨hr,I4⟩=>?_);subst hr;exact aEr ⟨ql,H3,I4,qn⟩
 ·refine aCO hp (D8 (T.item X rfl rfl rfl hc i pins s3 ql H3 X.xe I3 (stat fr3) ye go) λr s4 ⟨u,hr,h4⟩=>?_);subst hr;refine aCO hp (D8 h4 λ_ s5 ⟨x,H5,I5,r5,y5,st5,fr5⟩=>?_);have I5':=I5.pinned (stat fr5) (T.obj _ _ st5);refine aCO hp (D8 (hg _ s5 ql H5 x u _ I5' r5<|step x H5 y5) λ_ s6 ⟨σ6,H6,I6,q6⟩=>?_);refine aCO hp (D8 (hb _ s6 σ6 H6 _ I6 q6) λf s7 q7=>?_);have again:∀{qa:St} {H7:Hp},Inv X (pins++oB fp s5.heap) qa H7 s7->N qa H7->∃m,m<n/\∃i ai H',Inv X pins ai H' s7/\tn i s7.heap/\(∀b∈fp,H' b=none)/\W i m ai H':=λ{qa H7} I7 n7=>by obtain⟨m',hm,w7⟩:=hN qa H7 n7;refine⟨m',hm,i+1,qa,H7,I7.ab1,T.keep _ _ _ st5 λb hb o e=>(I7.pin (b,o)<|aAF _<|aAF _<|aV hb e).1,λb hb=>?_,w7⟩;obtain⟨o,e,d⟩:=T.obj _ _ st5 b hb;exact(I7.pin (b,o)<|aAF _<|aAF _<|aV hb e).2.1
  cases f with
  |next=>obtain⟨qa,H7,I7,n7⟩:=q7;exact again I7 n7
  |cont=>obtain⟨qa,H7,I7,n7⟩:=q7;exact again I7 n7
  |brk=>obtain⟨qa,H7,I7,q7⟩:=q7;exact⟨qa,H7,I7.ab1,q7⟩
  |ret v=>obtain⟨x7,qa,H7,I7,r7,q7⟩:=q7;exact⟨x7,qa,H7,I7.ab1,r7,q7⟩
end
end L2
namespace L2
open PySem PySem.Spec PyProof.Rows
abbrev R2:=V->V->Hp->VK->Prop
def lS (X:Cx)(f:Value->Value->Sem Value)(r:R2):Prop:=
 ∀(pins:L8) (s:Shared) (σ:St) (H:Hp) (x y:V) (v u:Value) (Q:VK),Inv X pins σ H s->RelV x v->RelV y u->r x y H Q->
  wpAny (model X.prog X.w) X.A (f v u) (EP X pins σ Q) X.xe s
def zw (X:Cx)(f:Value->Sem Value)(r:V->Hp->VK->Prop):Prop:=
 ∀(pins:L8) (s:Shared) (σ:St) (H:Hp) (x:V) (v:Value) (Q:VK),Inv X pins σ H s->RelV x v->r x H Q->
  wpAny (model X.prog X.w) X.A (f v) (EP X pins σ Q) X.xe s
def rY (X:Cx)(f:Value)(r:List V->Hp->VK->Prop):Prop:=
 ∀(pins:L8) (s:Shared) (σ:St) (H:Hp) (xs:List V) (us:List Value) (Q:VK),Inv X pins σ H s->m6 xs us->r xs H Q->
  wpAny (model X.prog X.w) X.A (call f us) (EP X pins σ Q) X.xe s
def tUn (r:V->Hp->VK->Prop)(ta:TE):TE:=λσ H Q=>ta σ H λx H1=>r x H1 Q
def rI (C:Int->Int->Prop)(g:Int->Int->V):R2:=λx y H Q=>∃i j,x=.int i/\y=.int j/\C i j/\Q (g i j) H
def UY (g:Int->Int->V):R2:=λx y H Q=>∃i j,x=.int i/\y=.int j/\Q (g i j) H
def rU (g:Int->V):V->Hp->VK->Prop:=λx H Q=>∃i,x=.int i/\Q (g i) H
section
variable{X:Cx} {a b c:Expr} {ta tb tc:TE} {pos:Pos}
def NX (ha:PE X a ta)(hb:PE X b tb){pins:L8}{s:Shared}{σ:St}{H:Hp}{R:V->V->Hp->Prop}(I:Inv X pins σ H s)
  (h:ta σ H λx H1=>tb σ H1 λy H2=>R x y H2) {Q:A3} {f:Value->Value->Sem Value}
  (hf:∀v u s2 x y H2,Inv X pins σ H2 s2->RelV x v->RelV y u->R x y H2->wpAny (model X.prog X.w) X.A (f v u) Q X.xe s2):
  wpAny (model X.prog X.w) X.A (eval a X.env) (λv aa=>wpAny (model X.prog X.w) X.A (eval b X.env) (λu bc=>wpAny (model X.prog X.w) X.A (f v u) Q X.xe bc) X.xe aa) X.xe s:=by
 refine D8 (ha pins s σ H _ I h) λv s1 ⟨x,H1,I1,r1,q1⟩=>?_;refine D8 (hb pins s1 σ H1 _ I1 q1) λu s2 ⟨y,H2,I2,r2,q2⟩=>?_;exact hf v u s2 x y H2 I2 r1 r2 q2
def fx {r:V->Hp->VK->Prop}(ho:zw X (unaryOp op) r)(ha:PE X a ta):PE X (.UnaryOp op a pos) (tUn r ta):=by intro pins s σ H Q I h;exact UnaryOp_ (D8 (ha pins s σ H _ I h) λv s1 ⟨x,H1,I1,r1,q1⟩=>ho pins s1 σ H1 x v Q I1 r1 q1)
def pk {f:Value->Value->Sem Value}{C:Int->Int->Prop}{g:Int->Int->Int}
  (rule:∀(i j:Int) (t u:Tok) (s:Shared) (Q:A3) (E:A3),C i j->Q (.int (g i j) s.toks) {s with toks:=s.toks+1}->wpAny (model X.prog X.w) X.A (f (.int i t) (.int j u)) Q E s):
  lS X f (rI C λi j=>.int (g i j)):=by
 intro pins s σ H x y v u Q I rx ry h;obtain⟨i,j,rfl,rfl,hc,q⟩:=h;obtain⟨t,rfl⟩:=rx;obtain⟨t',rfl⟩:=ry;exact rule i j t t' s _ _ hc ⟨.int (g i j),H,I.tok _,⟨_,rfl⟩,q⟩
def ZT {f:Value->Value->Sem Value}{g:Int->Int->Int}
  (rule:∀(i j:Int) (t u:Tok) (s:Shared) (Q:A3) (E:A3),Q (.int (g i j) s.toks) {s with toks:=s.toks+1}->wpAny (model X.prog X.w) X.A (f (.int i t) (.int j u)) Q E s):
  lS X f (UY λi j=>.int (g i j)):=by
 intro pins s σ H x y v u Q I rx ry h;obtain⟨i,j,rfl,rfl,q⟩:=h;obtain⟨t,rfl⟩:=rx;obtain⟨t',rfl⟩:=ry;exact rule i j t t' s _ _ ⟨.int (g i j),H,I.tok _,⟨_,rfl⟩,q⟩
def WQ {f:Value->Value->Sem Value}{g:Int->Int->Bool}
  (rule:∀(i j:Int) (t u:Tok) (s:Shared) (Q:A3) (E:A3),Q (.bool (g i j)) s->wpAny (model X.prog X.w) X.A (f (.int i t) (.int j u)) Q E s):
  lS X f (UY λi j=>.bl (g i j)):=by
 intro pins s σ H x y v u Q I rx ry h;obtain⟨i,j,rfl,rfl,q⟩:=h;obtain⟨t,rfl⟩:=rx;obtain⟨t',rfl⟩:=ry;exact rule i j t t' s _ _ ⟨.bl (g i j),H,I,rfl,q⟩
def wj (i j:Int):Prop:=0<=j/\j<=1000000/\i.natAbs<2^64
def XV:lS X (binaryOp .Add) (UY λi j=>.int (i+j)):=ZT λ_ _ _ _ _ _ _ q=>add_int q
def ZH:lS X (binaryOp .Sub) (UY λi j=>.int (i-j)):=ZT λ_ _ _ _ _ _ _ q=>sub_int q
def TM:lS X (binaryOp .Mod) (rI (λ_ j=>j≠0) λi j=>.int (i.fmod j)):=pk λ_ _ _ _ _ _ _ hc q=>mod_int' hc q
def WY:lS X (binaryOp .Pow) (rI wj λi j=>.int (i^j.toNat)):=pk λ_ _ _ _ _ _ _ hc q=>pow_int_small hc.1 hc.2.1 hc.2.2 q
def unI {f:Value->Sem Value}{g:Int->Int}
  (rule:∀(i:Int) (t:Tok) (s:Shared) (Q:A3) (E:A3),Q (.int (g i) s.toks) {s with toks:=s.toks+1}->wpAny (model X.prog X.w) X.A (f (.int i t)) Q E s):
  zw X f (rU λi=>.int (g i)):=by
 intro pins s σ H x v Q I rx h;obtain⟨i,rfl,q⟩:=h;obtain⟨t,rfl⟩:=rx;exact rule i t s _ _ ⟨.int (g i),H,I.tok _,⟨_,rfl⟩,q⟩
def YC:zw X (unaryOp .USub) (rU λi=>.int (-i)):=unI λ_ _ _ _ _ q=>neg_int q
end
section
variable{X:Cx} {a b c:Expr} {ta tb tc:TE} {pos:Pos}
def XO (I:Inv X pins σ H s)(q:Q (.bl k) H)(e:k=k'):EP X pins σ Q (.bool k') s:=by subst e;exact⟨.bl k,H,I,rfl,q⟩
def fy:lS X (compareOp .Lt) (UY λi j=>.bl (decide (i<j))):=WQ λ_ _ _ _ _ _ _ q=>lt_int q
def ZX:lS X (compareOp .LtE) (UY λi j=>.bl (decide (i<=j))):=WQ λ_ _ _ _ _ _ _ q=>le_int q
def gq:lS X (compareOp .Gt) (UY λi j=>.bl (decide (j<i))):=WQ λ_ _ _ _ _ _ _ q=>gt_int q
def WR:lS X (compareOp .Is) (λx y H Q=>y=.non/\Q (.bl (decide (x=.non))) H):=by
 intro pins s σ H x y v u Q I rx ry h;obtain⟨rfl,q⟩:=h;cases ry;refine is_none_gen (XO I q ?_);cases x<;>first
  |(cases rx;rfl)
  |(obtain⟨t,rfl⟩:=rx;rfl)
def NV (b:Expr)(h:op≠.In:=by decide)(h2:op≠.NotIn:=by decide):behindInMarks op b=false:=by
 have e1:(op==CmpOp.In)=false:=by cases op<;>first|rfl|exact absurd rfl h
 have e2:(op==CmpOp.NotIn)=false:=by cases op<;>first|rfl|exact absurd rfl h2
 cases b<;>simp[behindInMarks,e1,e2]
def uE:(sizeLine:Nat)<2^63:=by rw[aFj];decide
def vals1 (r:m6 [x] us):∃u,us=[u]/\RelV x u:=by
 cases r with
 |cons r1 r2=>cases r2;exact⟨_,rfl,r1⟩
def vals2 (r:m6 [x,y] us):∃u w',us=[u,w']/\RelV x u/\RelV y w':=by
 cases r with
 |cons r1 r2=>
  cases r2 with
  |cons r3 r4=>cases r4;exact⟨_,_,rfl,r1,r3⟩
def NS:rY X (.builtin "abs") (λxs H Q=>∃i,xs=[.int i]/\Q (.int (if i<0 then-i else i)) H):=by intro pins s σ H xs us Q I r h;obtain⟨i,rfl,q⟩:=h;obtain⟨u,rfl,t,rfl⟩:=vals1 r;exact call_abs_int λu tk=>⟨.int (if i<0 then-i else i),H,I.tok _,⟨_,rfl⟩,q⟩
def HW (hc:X.calm=true):rY X (.builtin "max") (λxs H Q=>∃i j,xs=[.int i,.int j]/\Q (.int (if j>i then j else i)) H):=by
 intro pins s σ H xs us Q I r h;obtain⟨i,j,rfl,q⟩:=h;obtain⟨u,w',rfl,⟨t,rfl⟩,⟨t',rfl⟩⟩:=vals2 r;refine max_two_ints (I.ok.hd hc) λh' tk k=>⟨_,H,I.kept k,?_,q⟩;by_cases hj:j>i
 ·rw[if_pos hj,if_pos hj];exact⟨_,rfl⟩
 ·rw[if_neg hj,if_neg hj];exact⟨_,rfl⟩
end
end L2
namespace L2
open PySem PySem.Spec PyProof.Rows
section
variable{prog:Program} {w:World} {A:Around} {E:A3} {s:Shared} {K:PySem.W.Frag} {x dx C f:Addr} {mA:cP} {name:Str} {v:Value}
end
section
variable{P:Program} {w:World} {H H':Hp} {h h':Heap} {a C dx:Addr} {fs xc:List (Str×V)}
end
section
variable{X:Cx} {pins:L8} {σ:St} {H:Hp} {s:Shared} {a C dx:Addr} {fs:List (Str×V)} {f:Str} {v:V} {A:Around} {E:A3}
end
section
variable{X:Cx} {o e value:Expr} {f:Str} {pos pos' tpos:Pos} {ta tv:TE}
end
section
variable{X:Cx} {pins:L8} {σ:St} {H:Hp} {s:Shared} {A:Around} {E:A3} {Q:A3} {c:Value} {b:Bool}
end
end L2
namespace L2
open PySem PySem.Spec PyProof.Rows
structure Room (k:Nat)(A:Around):Prop where
 hd:A.handled=none
 dp:A.depth+3*k+5<recursionLimit
 un:A.units+16*k+200<cLine
def Room.mono (r:Room k A)(h:j<=k):Room j A:=⟨r.hd,by have:=r.dp;lia,by have:=r.un;lia⟩
def Room.deeper (r:Room (k+1) A)(env:Env):Room k (A.deeper env):=
 ⟨r.hd,by have:=r.dp;show A.depth+1+3*k+5<_;lia,by have:=r.un;show A.units+3+16*k+200<_;lia⟩
def Room.depth (r:Room k A):A.depth<recursionLimit:=by have:=r.dp;lia
def Room.units (r:Room k A):A.units+64<cLine:=by have:=r.un;lia
def zq:TA:=λ_ H Q=>Q [] H
def aj (ta:TE)(tr:TA):TA:=λσ H Q=>ta σ H λx H1=>tr σ H1 λxs H2=>Q (x::xs) H2
section
variable{X:Cx} {e:Expr} {es:List Expr} {te:TE} {t:TA} {pos:Pos}
def X1:PA X [] zq:=λ_ _ _ _ H Q I h=>aEY ⟨[],H,I,.nil,h⟩
def J1 (ha:PE X e te)(hr:PA X es t)(hs:starEach (e::es) X.env=(false,eval e X.env)::starEach es X.env:=by rfl):PA X (e::es) (aj te t):=by intro pos pins s σ H Q I h;rw[hs];show wpAny _ _ (spliced ((false,eval e X.env)::backTo pos (starEach es X.env))) _ _ s;refine aEI (D8 (ha pins s σ H _ I h) λu s1 ⟨x,H1,I1,r1,q1⟩=>?_);exact D8 (hr pos pins s1 σ H1 _ I1 q1) λus s2 ⟨xs,H2,I2,r2,q2⟩=>⟨x::xs,H2,I2,.cons r1 r2,q2⟩
def a0e (t:TA):TE:=λσ H Q=>t σ H λxs H1=>xs.length<=sizeLine/\∀p,H1 p=none->Q (.ref p) (upd H1 p<|.tup xs)
def xy (t:TA):TE:=λσ H Q=>t σ H λxs H1=>xs.length<=sizeLine/\∀p,H1 p=none->Q (.ref p) (upd H1 p<|.lst xs)
def WW {x1}(h:PA X es t):PE X (.Tuple es x1 pos) (a0e t):=by intro pins s σ H Q I hq;refine wpAny_Tuple_spliced (D8 (h pos pins s σ H _ I hq) λus s1 ⟨xs,H1,I1,r,z,q⟩=>⟨by rw[<-r.length];exact z,?_⟩);have hf:H1 s1.heap.objs.size=none:=I1.hok.fresh (aAg _);refine⟨.ref s1.heap.objs.size,upd H1 s1.heap.objs.size (.tup xs),I1.laid (t':=s1.toks) (λb u e=>aAc _ e) (aAg _) ?_,rfl,q _ hf⟩;exact⟨z,us,r,⟨_,aAp _ rfl,rfl,_,rfl⟩⟩
def KB (h:PA X es t):PE X (.List es pos) (xy t):=by intro pins s σ H Q I hq;refine wpAny_List_spliced (D8 (h pos pins s σ H _ I hq) λus s1 ⟨xs,H1,I1,r,z,q⟩=>⟨by rw[<-r.length];exact z,?_⟩);have hf:H1 s1.heap.objs.size=none:=I1.hok.fresh (aAg _);refine⟨.ref s1.heap.objs.size,upd H1 s1.heap.objs.size (.lst xs),I1.laid (t':=s1.toks) (λb u e=>aAc _ e) (aAg _) ?_,rfl,q _ hf⟩;exact⟨z,us,0,r,aAp _ rfl⟩
end
abbrev Sp:=List V->Hp->VK->XK->Prop
abbrev OU:=List Env->Hp->Shared->XK->Value->Shared->Prop
structure Env0 (P:Program)(w:World)(K:PySem.W.Frag)(mg:cP)(base:Heap)(A:Around)(outer:List Env)(s:Shared)(H:Hp):Prop where
 frames:A.frames=some outer
 mod:Mod K mg base
 bs:∀b o,base.get? b=some o->s.heap.get? b=some o/\H b=none
 bsz:base.objs.size<=s.heap.objs.size
 funs:s.heap.FunFrames base outer
 frf:∀b∈xG outer,H b=none
 hok:fC P w H s.heap
 bare:AllBare s.gens
def CE (outer:List Env)(P:Program)(w:World)(H:Hp)(s:Shared)(Q:VK)(u:Value)(s':Shared):Prop:=
 ∃v H',s'.os=s.os/\AllBare s'.gens/\Un (xG outer) [] H H' s.heap s'.heap/\fC P w H' s'.heap/\RelV v u/\Q v H'
def CR (CX:OU)(outer:List Env)(P:Program)(w:World)(H:Hp)(s:Shared)(Q:VK)(E:XK)(r:Result)(s':Shared):Prop:=
 match r with
 |.ok (.ret u)=>CE outer P w H s Q u s'
 |.ok _=>False
 |.error e=>CX outer H s E e s'
structure FnOk (P:Program)(w:World)(K:PySem.W.Frag)(mg:cP)(base:Heap)(CX:OU)(k:Nat)(f:Addr)(fd:FuncData)(ps:List Str)(sp:Sp):Prop where
 len:∀vs H Q E,sp vs H Q E->vs.length=ps.length
 run:∀(A:Around) (outer:List Env) (s:Shared) (H:Hp) (args:Args) (us:List Value) (vs:List V) (Q:VK) (E:XK),Room k A->Env0 P w K mg base A outer s H->BindsTo s fd args (ps.zip us)->m6 vs us->sp vs H Q E->
  codeAny (model P w) A (.call (.ref f) args) (CR CX outer P w H s Q E) s
def FnOk.imp {P:Program}{w:World}{K:PySem.W.Frag}{mg:cP}{base:Heap}{CX:OU}{k:Nat}{f:Addr}{fd:FuncData}{ps:List Str}{sp sp':Sp}(F:FnOk P w K mg base CX k f fd ps sp)
  (h:∀vs H Q E,sp' vs H Q E->sp vs H Q E):FnOk P w K mg base CX k f fd ps sp':=
 ⟨λvs H Q E q=>F.len vs H Q E (h _ _ _ _ q),λA outer s H args us vs Q E hr he hb hv hs=>F.run A outer s H args us vs Q E hr he hb hv (h _ _ _ _ hs)⟩
section
variable{X:Cx} {pins:L8} {σ:St} {H:Hp} {s s':Shared}
def Inv.af6 (I:Inv X pins σ H s):Env0 X.prog X.w X.K X.mg X.base X.A X.stack s H:=
 ⟨I.ok.frames,I.ok.mod,I.bs,aAo I.ok.bsz I.sz,I.stack,I.ad3,I.hok,I.bare⟩
def Inv.after (I:Inv X pins σ H s)(h:CE X.stack X.prog X.w H s Q u s'):EP X pins σ Q u s':=by obtain⟨v,H',os,bare,un,hok,r,q⟩:=h;obtain⟨hh,g,d,t,os'⟩:=s';obtain rfl:os'=s.os:=os;exact⟨v,H',I.call (h':=hh) (g':=g) (d':=d) (t':=t) (ch:=[]) un hok bare (λb z=>absurd z (by simp)),r,q⟩
end
def iy (sp:Sp)(zr:List V)(E:XK)(t:TA):TE:=λσ H Q=>t σ H λvs H1=>sp (vs++zr) H1 Q E
def Binds (K:PySem.W.Frag)(fd:FuncData)(ps:List Str)(ds:List Value):Prop:=
 ∀(s:Shared) (us:List Value),K.In s.heap->(us++ds).length=ps.length->BindsTo s fd ⟨us,[]⟩ (ps.zip<|us++ds)
def Binds.all {K:PySem.W.Frag}{fd:FuncData}{ps:List Str}(h:∀us:List Value,us.length=ps.length->bindArgs fd ⟨us,[]⟩=pure (ps.zip us)):Binds K fd ps []:=λs us _ hl=>by rw[aCg]at hl⊢;exact .of_eq (h us hl)
def BG (CX:OU)(X:Cx)(E:XK):Prop:=∀(pins:L8) (σ:St) (H:Hp) (s:Shared) (e:Value) (s':Shared),Inv X pins σ H s->CX X.stack H s E e s'->X.xe e s'
section
variable{X:Cx} {CX:OU} {k:Nat} {f C:Addr} {fd:FuncData} {ps:List Str} {sp:Sp} {zr:List V} {ds:List Value} {E:XK} {x m:Str} {p pos apos:Pos} {e o:Expr} {es:List Expr} {ta:TE} {t:TA}
def XG (F:FnOk X.prog X.w X.K X.mg X.base CX k f fd ps sp)(hr:Room k X.A)(hb:Binds X.K fd ps ds)(hd:m6 zr ds)(hx:BG CX X E)(I:Inv X pins σ H s)(r:m6 vs us)(h:sp (vs++zr) H Q E):wpAny (model X.prog X.w) X.A (call (.ref f) us) (EP X pins σ Q) X.xe s:=by
 have r2:m6 (vs++zr) (us++ds):=r.append hd;have hl:(us++ds).length=ps.length:=by rw[<-r2.length];exact F.len _ _ _ _ h
 refine wpAny_call (aDF (F.run X.A X.stack s H ⟨us,[]⟩ (us++ds) (vs++zr) Q E hr I.af6 (hb s us I.kIn hl) r2 h) λr s' hq=>?_);cases r with
 |error e=>exact hx pins σ H s e s' I hq
 |ok fl=>
  cases fl with
  |ret u=>exact I.after hq
  |next=>exact aAk hq
  |brk=>exact aAk hq
  |cont=>exact aAk hq
def SY (F:FnOk X.prog X.w X.K X.mg X.base CX k f fd ps sp)(hr:Room k X.A)(hg:Gl X x)(hm:X.mg x=some (.ref f))(hk:PySem.W.keepIn X.K (.ref f)=true)(hb:Binds X.K fd ps ds)(hd:m6 zr ds)(hx:BG CX X E)
  (ha:PA X (e::es) t) (il:(x==("__debug__":Str))=false:=by decide) (he:starEach (e::es) X.env=(false,eval e X.env)::starEach es X.env:=by rfl) (bf:(backTo pos (starEach es X.env)).any (·.1)=false:=by rfl):
  PE X (.Call (.Name x p) (e::es) [] pos) (iy sp zr E t):=by
 intro pins s σ H Q I h;refine aAM (tJ I hg hm ?_ il);refine PySem.W.callWith_K (h₀:=X.base) I.ok.mod.kin hk (D8 (ha pos pins s σ H _ I h) λus s1 ⟨vs,H1,I1,r,q⟩=>⟨I1.kIn,?_⟩) he bf;exact XG F hr hb hd hx I1 r q
end
section
variable{X:Cx} {CX:OU} {k:Nat} {f C:Addr} {fd:FuncData} {ps ks:List Str} {sp:Sp} {E:XK} {x m:Str} {p pos apos kpos:Pos} {e o:Expr} {es:List Expr} {kws:List Keyword} {te ta:TE} {t tk:TA} {nm:Option Str}
variable{g:List Value->List Value->List Value} {gV:List V->List V->List V}
end
structure FnScope (N P:List Str)(sc:Scope):Prop where
 kind:sc.kind=.function
 co:sc.isCoroutine=false
 gen:sc.isGenerator=false
 nd:N.Nodup
 pre:N.take P.length=P
 par:∀x∈P,sc.names.lookup x=some .local\/sc.names.lookup x=some .cell
 nofree:∀y∈sc.names,y.2≠.free
theorem qP {kindOf:Str->Option NameKind}{x:Str}:∀{binds:List (Str×Value)} {m:cP},(∀v,(x,v)∉binds)->bindL kindOf binds m x=m x
 |[],_,_=>rfl
 |(n,v)::r,m,h=>by
  unfold bindL;rw[qP λw hw=>h w (aAe _ hw)];split
  ·have:x≠n:=by rintro rfl;exact h v aAJ
   simp[this]
  ·rfl
theorem qW {kindOf:Str->Option NameKind}{x:Str}:∀{binds:List (Str×Value)} {m:cP},(∀v,(x,v)∉binds)->bindC kindOf binds m x=m x
 |[],_,_=>rfl
 |(n,v)::r,m,h=>by
  unfold bindC;rw[qW λw hw=>h w (aAe _ hw)];split
  ·rfl
  ·have:x≠n:=by rintro rfl;exact h v aAJ
   simp[this]
theorem rX {kindOf:Str->Option NameKind}{x:Str}{v:Value}:∀{P:List Str} {vs:List Value} {i:Nat} {m:cP},P.Nodup->P[i]?=some x->vs[i]?=some v->kindOf x=some .local->
  bindL kindOf (P.zip vs) m x=some v
 |[],_,_,_,_,h,_,_=>by simp at h
 |_::_,[],_,_,_,_,h,_=>by simp at h
 |p::P,w::vs,0,m,nd,h1,h2,hk=>by simp at h1 h2;subst h1;subst h2;show bindL kindOf ((p,w)::P.zip vs) m p=_;unfold bindL;rw[qP λv hv=>(aAE.mp nd).1 (aDK hv).1,if_pos hk];simp
 |p::P,w::vs,i+1,m,nd,h1,h2,hk=>by show bindL kindOf ((p,w)::P.zip vs) m x=_;unfold bindL;exact rX (i:=i) (aAE.mp nd).2 (by simpa using h1) (by simpa using h2) hk
theorem rK {kindOf:Str->Option NameKind}{x:Str}{v:Value}:∀{P:List Str} {vs:List Value} {i:Nat} {m:cP},P.Nodup->P[i]?=some x->vs[i]?=some v->kindOf x≠some .local->
  bindC kindOf (P.zip vs) m x=some v
 |[],_,_,_,_,h,_,_=>by simp at h
 |_::_,[],_,_,_,_,h,_=>by simp at h
 |p::P,w::vs,0,m,nd,h1,h2,hk=>by simp at h1 h2;subst h1;subst h2;show bindC kindOf ((p,w)::P.zip vs) m p=_;unfold bindC;rw[qW λv hv=>(aAE.mp nd).1 (aDK hv).1,if_neg hk];simp
 |p::P,w::vs,i+1,m,nd,h1,h2,hk=>by show bindC kindOf ((p,w)::P.zip vs) m x=_;unfold bindC;exact rK (i:=i) (aAE.mp nd).2 (by simpa using h1) (by simpa using h2) hk
def start (N:List Str)(vs:List V):St:=vs.map some++aCH (N.length-vs.length) none
def AU (CX:OU)(P:Program)(w:World)(K:PySem.W.Frag)(mg:cP)(base:Heap)(N:List Str)(qual:Str)(scope:Scope)(f:Addr)(cd:Value)(A:Around)(outer:List Env)(s:Shared)(H:Hp)(E:XK):Cx where
 prog:=P
 w:=w
 K:=K
 mg:=mg
 base:=base
 A:=A.deeper (envOfC qual scope s.heap.objs.size f cd)
 N:=N
 sa:=s
 H9:=H
 env:=envOfC qual scope s.heap.objs.size f cd
 outer:=outer
 stack:=envOfC qual scope s.heap.objs.size f cd::outer
 ex:=[]
 calm:=true
 fn:=λ_=>true
 pn:=[]
 xe:=λe s'=>wpAny (model P w) (A.deeper<|envOfC qual scope s.heap.objs.size f cd) (leaving (envOfC qual scope s.heap.objs.size f cd) e) (λ_ s''=>CX outer H s E e s'') (λe' s''=>CX outer H s E e' s'') s'
def wT {sc:Scope}{n:Nat}{x:Str}(h:sc.names.lookup x=some .cell):∃c,(cellsFrom n sc.names []).lookup x=some c:=by have q:=PySem.W.cellsFrom_some sc.names n [] (.inl h);exact aEZ.mp q
def GX {CX:OU}{P:Program}{w:World}{K:PySem.W.Frag}{mg:cP}{base:Heap}{N ps:List Str}{qual:Str}{scope:Scope}{f:Addr}{cd:Value}{A:Around}{outer:List Env}{s s1:Shared}{H:Hp}{E:XK}{us:List Value}{vs:List V}
  (S:FnScope N ps scope) (hd:A.handled=none) (e0:Env0 P w K mg base A outer s H) (hl:vs.length=ps.length) (r:m6 vs us)
  (x:InCallC s s.heap.objs.size (bindL (envOfC qual scope s.heap.objs.size f cd).kindOf (ps.zip us) λ_=>none) (cellsFrom (s.heap.objs.size+1) scope.names []) (bindC (envOfC qual scope s.heap.objs.size f cd).kindOf (ps.zip us) λ_=>none) s1):
  Inv (AU CX P w K mg base N qual scope f cd A outer s H E) [] (start N vs) H s1:=by
 have bf:ps.length<=N.length:=by have:=congrArg List.length S.pre;rw[aBM]at this;lia
 obtain⟨h1,tk,rfl,hk⟩:=x.done;have noA:∀b:Addr,b∉(AU CX P w K mg base N qual scope f cd A outer s H E).ex:=λb z=>absurd (show b∈([]:List Addr)from z) (by simp);refine⟨⟨e0.mod,S.kind,rfl,rfl,aAg _,λy z c h1 h2=>?_,λy hy=>?_,λy c _ h=>?_,λ_=>hd,aFK e0.frames,.inr ⟨rfl,rfl⟩,λb z=>absurd z (noA b),e0.bs,e0.bsz,λb _ _=>noA b,λb z=>absurd z (noA b),e0.funs,e0.frf⟩,
  rfl,e0.bare,Un.kept hk,⟨_,x.toInCall.ns,λi y v h1 h2 h3=>?_⟩,λy c h=>⟨_,x.cell y c h⟩,e0.hok.fresh (aAg _),λy c h=>?_,λp hp=>absurd (show p∈([]:L8)from hp) (by simp),e0.hok.kept hk,?_⟩
 ·exact name_of_addr x.apart (PySem.mem_of_lookup h1) (PySem.mem_of_lookup h2)
 ·have hy:scope.names.lookup y=some .cell\/scope.names.lookup y=some .free:=hy;rcases hy with hy|hy
  ·exact wT hy
  ·exact absurd rfl (S.nofree _<|PySem.mem_of_lookup hy)
 ·exact aDl (x.above y c<|PySem.mem_of_lookup h)
 ·have hi:i<vs.length:=by
   unfold start at h2;by_cases hi:i<vs.length
   ·exact hi
   ·rw[aAx (by simpa using hi)]at h2;rw[aBr]at h2;split at h2<;>cases h2
  have ha:vs[i]?=some v:=by
   unfold start at h2;rw[aAR (by simpa using hi),aAG]at h2;cases e:vs[i]? with
   |none=>rw[e]at h2;cases h2
   |some a=>rw[e]at h2;cases h2;rfl
  obtain⟨u,hu,rv⟩:=r.get ha;have hp:ps[i]?=some y:=by rw[<-S.pre,List.getElem?_take_of_lt (by lia)];exact h1
  have ndP:ps.Nodup:=by rw[<-S.pre];exact S.nd.sublist (List.take_sublist _ _)
  refine⟨u,rv,?_⟩;rcases S.par y (aAt hp)with k|k
  ·exact .inl ⟨k,rX ndP hp hu k⟩
  ·obtain⟨c,e⟩:=wT (n:=s.heap.objs.size+1) k;refine .inr ⟨.inl k,c,e,?_⟩;have q:=x.cell y c e;rw[rK ndP hp hu (by show scope.names.lookup y≠_;rw[k];decide)]at q;exact q
 ·exact e0.hok.fresh (aDl<|x.above y c<|PySem.mem_of_lookup h)
 ·unfold start;show _=N.length;rw[aAz,aAl,aCh]
  lia
def UM {CX:OU}{P:Program}{w:World}{K:PySem.W.Frag}{mg:cP}{base:Heap}{k:Nat}{f:Addr}{name qual:Str}{params:Arguments}{body:List Stmt}{scope:Scope}{dV kV doc pm cdv ct oc:Value}{an od:Option Addr}
  {osl:Array (Option Value)} {N ps:List Str} {sp:Sp} (lk:K.lookup f=some ⟨oc,od,.func (PySem.W.fnOf name qual params body scope dV kV doc pm an cdv ct),osl⟩) (eu:PySem.W.codeIn K cdv qual=true) (S:FnScope N ps scope)
  (len:∀vs H Q E,sp vs H Q E->vs.length=ps.length)
  (vf:∀(A:Around) (outer:List Env) (s:Shared) (H:Hp) (vs:List V) (Q:VK) (E:XK),Room k (A.deeper (envOfC qual scope s.heap.objs.size f cdv))->sp vs H Q E->
   ∃t,uR (AU CX P w K mg base N qual scope f cdv A outer s H E) body t/\t {nx:=λ_ H'=>Q .non H',rt:=Q} (start N vs) H):
  FnOk P w K mg base CX (k+1) f (PySem.W.fnOf name qual params body scope dV kV doc pm an cdv ct) ps sp:=by
 refine⟨len,λA outer s H args us vs Q E hr e0 hb r hsp=>?_⟩;have hl:=len _ _ _ _ hsp;have KX:K.In s.heap:=e0.mod.kin.keeps λb o e=>(e0.bs b o e).1;have lim:s.heap.NoLimit:=e0.mod.nolimit.keeps λb o e=>(e0.bs b o e).1;have oh:∀y∈ps.zip us,scope.names.lookup y.1=some .local\/(scope.names.lookup y.1=some .cell/\((cellsFrom (s.heap.objs.size+1) scope.names []).lookup y.1).isSome=true):=λ⟨n,v⟩ hy=>by
  rcases S.par n (aDK hy).1 with q|q
  ·exact .inl q
  ·exact .inr ⟨q,PySem.W.cellsFrom_some _ _ _ (.inl q)⟩
 refine codeAny_call_function hr.depth (KX _ _ lk) rfl S.co S.gen rfl (PySem.W.codeRec_of KX eu) (hb _ _ _ _ ?_);refine wpAny_newFunctionEnv_cells S.kind oh λenv he s1 x=>?_;subst he;refine⟨lim.keeps x.toInCall.keep,codeAny_func ?_⟩;obtain⟨t,ht,hq⟩:=vf A outer s H vs Q E (hr.deeper _) hsp;have I:Inv (AU CX P w K mg base N qual scope f cdv A outer s H E) [] (start N vs) H s1:=GX S hr.hd e0 hl r x;refine aCb (ht [] s1 (start N vs) H _ I hq) (λfl s' hs=>?_) λe s' hs=>hs;have fin:∀{ai:St} {H':Hp} {v:V} {u:Value},Inv (AU CX P w K mg base N qual scope f cdv A outer s H E) [] ai H' s'->RelV v u->Q v H'->CE outer P w H s Q u s':=
  λ{ai H' v u} J rv q=>⟨v,H',J.os,J.bare,J.base,J.hok,rv,q⟩
 cases fl with
 |ret u=>obtain⟨v,ai,H',J,rv,q⟩:=hs;exact fin J rv q
 |next=>obtain⟨ai,H',J,q⟩:=hs;exact fin (v:=V.non) (u:=Value.none) J rfl q
 |brk=>obtain⟨_,_,_,q⟩:=hs;exact aAk q
 |cont=>obtain⟨_,_,_,q⟩:=hs;exact aAk q
end L2
namespace L2
open PySem PySem.Spec PyProof.Rows
section
variable{X:Cx} {x:Str} {p pos:Pos} {e:Expr} {es:List Expr} {t:TA} {id T:String} {r:List V->Hp->VK->Prop}
end
end L2
namespace HT
open PySem PyProof.Rows
def lexLt:List Int->List Int->Bool
 |[],[]=>false
 |[],_::_=>true
 |_::_,[]=>false
 |x::xs,y::ys=>if x=y then lexLt xs ys else decide (x<y)
def lexLt_cons (x y:Int)(xs ys:List Int):lexLt (x::xs) (y::ys)=if x=y then lexLt xs ys else decide (x<y):=rfl
def N5:lexLt [] []=false:=rfl
def E9 (y:Int)(ys:List Int):lexLt [] (y::ys)=true:=rfl
def y8 (x:Int)(xs:List Int):lexLt (x::xs) []=false:=rfl
def nB (A:Around)(s:Shared)(a:Int)(t:Tok)(c:Int)(u:Tok):∃e,SeqAt.EqAt A s (.int a t) (.int c u) e/\(e=true↔a=c):=
 ⟨(a==c),aEJ a t c u,by simp⟩
def wR (A:Around)(s:Shared)(a:Int)(t:Tok)(c:Int)(u:Tok)(prog:Program)(w:World)(E:A3)(Q:A3)(h:Q (.bool (decide (a<c))) s):
  wpAny (model prog w) A (richCompare .Lt (.int a t) (.int c u)) Q E s:=
 (PyProof.Rows.lt_int h:wpAny (model prog w) A (compareOp .Lt (.int a t) (.int c u)) Q E s)
section
open PySem.SeqAt
open PySem.AutoSeq1 (wpAny_loadPart')
open PySem.MeetsSeq PySem.MeetsSeq2 PySem.MeetsSeq3
def qC (l b:Addr)(items ae:Array Value)(n n2:Nat)(dd qm:Option Addr)(sl qc:Array (Option Value))(ns ms:List Int)(hi:IntsAre items.toList ns)(hj:IntsAre ae.toList ms):
  Meets (Builtin.«tuple.__lt__» ⟨[.ref l,.ref b],[]⟩)
   (λ_ R s=>s.heap.get? l=some {cls:=.type "tuple",dict:=dd,data:=.seq items n,slots:=sl}/\s.heap.get? b=some {cls:=.type "tuple",dict:=qm,data:=.seq ae n2,slots:=qc}/\
    R (.ok (.ret (.bool (lexLt ns ms)))) s):=
 .of_wp λprog w A R s h=>by
  obtain⟨hp,g,d,tk,os⟩:=s;obtain⟨hl,hb,h⟩:=h;have f2:=aFa;have z1:items.size=ns.length:=by rw[<-hi.length];simp
  have z2:ae.size=ms.length:=by rw[<-hj.length];simp
  wp_walk using aDm hl,aDm hb,aBX _ (λrest b s'=>b.1=none/\s'=⟨hp,g,d,tk,os⟩/\∃(vs ws:List Value) (mn mo:List Int),rest=vs.zip ws/\
   IntsAre vs mn/\IntsAre ws mo/\mn.length+ae.size=mo.length+items.size/\R (.ok (.ret (.bool (lexLt mn mo)))) ⟨hp,g,d,tk,os⟩) _
  case turn=>
   rintro⟨y,x⟩ rest b s' ⟨ja,rfl,vs,ws,mn,mo,hz,qd,tf,hlen,hR⟩;cases qd with
   |nil=>rw[aFb]at hz;cases hz
   |cons a t hvi'=>
    cases tf with
    |nil=>rw[aEK]at hz;cases hz
    |cons c u hwi'=>
     rw[aBC]at hz;injection hz with xi af;injection xi with hy hx;subst hy hx;rw[lexLt_cons]at hR;simp only[aAu]at hlen;obtain⟨e,he,oi⟩:=nB A.in1 ⟨hp,g,d,tk,os⟩ a t c u;refine aAa (he prog w _ _ ?_);cases e with
     |true=>
      rw[if_pos (oi.mp rfl)]at hR
      wp_walk
      exact⟨rfl,rfl,_,_,_,_,af,hvi',hwi',by lia,hR⟩
     |false=>
      rw[if_neg (λq=>absurd (oi.mpr q) aAT)]at hR;have hri:=wR A.in1 ⟨hp,g,d,tk,os⟩ a t c u prog w
      wp_walk using hri
      exact⟨_,rfl,by simpa using hR⟩
  case fin=>
   rintro⟨b1,b2⟩ s' ⟨ja,rfl,vs,ws,mn,mo,hz,qd,tf,hlen,hR⟩;simp only at ja;subst ja;have hv:lexLt mn mo=decide (items.size<ae.size):=by
    cases qd with
    |nil=>
     cases tf with
     |nil=>simp only[aBD]at hlen;rw[N5];exact(decide_eq_false (by lia)).symm
     |cons c u hw=>simp only[aBD,aAu]at hlen;rw[E9];exact(decide_eq_true (by lia)).symm
    |cons a t hv=>
     cases tf with
     |nil=>simp only[aBD,aAu]at hlen;rw[y8];exact(decide_eq_false (by lia)).symm
     |cons c u hw=>rw[aBC]at hz;cases hz
   rw[hv]at hR
   wp_walk
   exact⟨_,rfl,by simpa[aDS]using hR⟩
  case h=>exact⟨rfl,rfl,items.toList,ae.toList,ns,ms,rfl,hi,hj,by lia,h⟩
end
section
variable{prog:Program} {w:World} {A:Around} {E:A3} {s:Shared}
def lt_tupInts {Q:A3}(hl:IsTup s.heap l items)(hb:IsTup s.heap b ae)(hi:IntsAre items.toList ns)(hj:IntsAre ae.toList ms)(hu:A.units<cLine)(h:Q (.bool (lexLt ns ms)) s):wpAny (model prog w) A (compareOp .Lt (.ref l) (.ref b)) Q E s:=by
 obtain⟨⟨cls,dd,data,sl⟩,ho,hc,n,hd⟩:=id hl;obtain⟨⟨yf,qm,data2,qc⟩,jg,jc,n2,hd2⟩:=id hb;simp only at hc hd jc hd2;subst hc hd jc hd2;exact richCompare_meets_room (op:=.Lt) ⟨_,ho,rfl⟩ ⟨_,jg,rfl⟩ PySem.F.slot_tuple_lt PySem.F.entry_tuple_lt (PySem.F.args_tuple_lt_2 _ _) (qC l b items ae n n2 dd qm sl qc ns ms hi hj)
  ⟨ho,jg,show aDc (lexLt ns ms)≠aFL/\Q (.bool (lexLt ns ms)) s from⟨(λx=>nomatch x),h⟩⟩ hu
def cat_tup {Q:A3}(ht:IsTup s.heap t vs.toArray)(hb:IsTup s.heap b ws.toArray)(hv:vs≠[])(h1:ws=[]->Q (.ref t) s)(h2:ws≠[]->Q (.ref s.heap.objs.size) {s with heap:=s.heap.push {cls:=.type "tuple",data:=.seq (vs++ws).toArray}})(hsz:vs.length+ws.length<=sizeLine):wpAny (model prog w) A (binaryOp .Add (.ref t) (.ref b)) Q E s:=by
 obtain⟨⟨cls,dd,data,sl⟩,ho,hc,n,hd⟩:=id ht;obtain⟨⟨yf,qm,data2,qc⟩,jg,jc,n2,hd2⟩:=id hb;simp only at hc hd jc hd2;subst hc hd jc hd2;have e:vs.toArray++ws.toArray=(vs++ws).toArray:=by simp
 by_cases hw:ws=[]
 ·exact aFA ⟨_,ho,rfl⟩ ⟨_,jg,rfl⟩ aFn seq_tuple_add PySem.F.slot_tuple_add PySem.F.entry_tuple_add (PySem.F.args_tuple_add_2 _ _)
   (tuple_addW1 t b vs.toArray ws.toArray n n2 dd qm sl qc (by simpa using hv) (by simp[hw])) ⟨ho,jg,h1 hw⟩
 ·refine aFA ⟨_,ho,rfl⟩ ⟨_,jg,rfl⟩ aFn seq_tuple_add PySem.F.slot_tuple_add PySem.F.entry_tuple_add (PySem.F.args_tuple_add_2 _ _)
   (tuple_addW2 t b vs.toArray ws.toArray n n2 dd qm sl qc (by simpa using hv) (by simpa using hw) (by rw[aAm,aAm];exact hsz)) ⟨ho,jg,?_⟩
  rw[e];exact h2 hw
def sIx (n d:Nat):Option Int->Nat
 |none=>d
 |some v=>if v<0 then(v+(n:Int)).toNat else min v.toNat n
def ax (n d:Nat):sIx n d none=d:=rfl
def YW (n d:Nat)(hd:d<=n)(o:Option Int):sIx n d o<=n:=by
 cases o with
 |none=>exact hd
 |some v=>
  show(if v<0 then(v+(n:Int)).toNat else min v.toNat n)<=n;by_cases hv:v<0
  ·rw[if_pos hv];lia
  ·rw[if_neg hv];exact Nat.min_le_right _ _
def CO (v:Int)(n d:Nat):(if v<0 then max (v+(n:Int)) 0 else min v (n:Int))=((sIx n d (some v):Nat):Int):=by
 show(if v<0 then max (v+(n:Int)) 0 else min v (n:Int))=(((if v<0 then(v+(n:Int)).toNat else min v.toNat n):Nat):Int);by_cases hv:v<0
 ·simp only[if_pos hv];lia
 ·simp only[if_neg hv];lia
def AE (lo hi:Option Int)(n:Nat):aDw lo hi 1 (n:Int)=(((sIx n 0 lo:Nat):Int),((sIx n n hi:Nat):Int)):=by
 have h1:¬((1:Int)<0):=by lia
 unfold aDw;simp only[h1,if_false];refine aFJ ?_ ?_
 ·cases lo with
  |none=>rfl
  |some v=>exact CO v n 0
 ·cases hi with
  |none=>rfl
  |some v=>exact CO v n n
def AK (i j:Nat):aCI (i:Int) (j:Int) 1=j-i:=by
 unfold aCI;have h1:(1:Int)>0:=by lia
 simp only[h1,if_true,Int.ediv_one];split<;>lia
def mX {Q:Option Int->Shared->Prop}(p:IsPart v o)(h:Q o s):wpAny (model prog w) A (Builtin.Slice.slicePartIndex v) Q E s:=by
 cases p with
 |none=>exact slicePart_none h
 |int i t=>exact slicePart_int h
def jG {sl:Addr}{vl vu:Value}{lo hi:Option Int}{n:Nat}{Q:Int×Int×Nat->Shared->Prop}(hs:s.heap.IsSliceOf sl vl vu .none)(pl:IsPart vl lo)(pu:IsPart vu hi)
  (h:Q (((sIx n 0 lo:Nat):Int),1,sIx n n hi-sIx n 0 lo) s):wpAny (model prog w) A (aEB (.ref sl) (pure (n:Int))) Q E s:=by
 obtain⟨os,hos,vg,xl⟩:=id hs;unfold aEB Builtin.Slice.sliceFields;refine aAa (aAa<|aCJ hos xl (x:=vl) rfl<|aAa<|aCJ hos xl (x:=vu) rfl<|aAa<|aCJ hos xl (x:=.none) rfl<|aAb ?_);refine aAa (slicePart_none ?_);show wpAny _ _ (if((1:Int)==0)=true then _ else _) _ _ s;rw[if_neg (by decide)];refine aAa (mX pl<|aAa<|mX pu<|aAa<|aAb ?_);show wpAny _ _ (match aDw lo hi 1 (n:Int)with|(lo,hi)=>pure (lo,(1:Int),aCI lo hi 1)) _ _ s;rw[AE lo hi n];show wpAny _ _ (pure (((sIx n 0 lo:Nat):Int),(1:Int),aCI ((sIx n 0 lo:Nat):Int) ((sIx n n hi:Nat):Int) 1)) _ _ s;rw[AK];exact aAb h
def LD (xs:Array Value)(i k:Nat):((aBy k).filterMap λ(m:Nat)=>xs[((i:Int)+(m:Int)*1).toNat]?).toArray=((xs.toList.drop i).take k).toArray:=by
 have e:(λ(m:Nat)=>xs[((i:Int)+(m:Int)*1).toNat]?)=λm=>xs[i+m]?:=by
  funext m
  have:((i:Int)+(m:Int)*1).toNat=i+m:=by lia
  rw[this]
 rw[e];have:=pick_run xs i k;rw[aDf]at this;have e2:((λx=>xs[x]?)∘λx=>i+x)=λm=>xs[i+m]?:=rfl;rw[e2]at this;rw[this]
def getItem_tuple_cut {t sl:Addr}{items:Array Value}{vl vu:Value}{lo hi:Option Int}{Q:A3}(ht:IsTup s.heap t items)(hs:s.heap.IsSliceOf sl vl vu .none)(pl:IsPart vl lo)(pu:IsPart vu hi)
  (hw:¬(sIx items.size 0 lo=0/\sIx items.size items.size hi=items.size))
  (h:Q (.ref s.heap.objs.size) {s with heap:=s.heap.push {cls:=.type "tuple",data:=.seq ((items.toList.drop (sIx items.size 0 lo)).take (sIx items.size items.size hi-sIx items.size 0 lo)).toArray}})
  (hsz:items.size<=sizeLine):wpAny (model prog w) A (getItem (.ref t) (.ref sl)) Q E s:=by
 have ua:sizeOk (.seq ((items.toList.drop<|sIx items.size 0 lo).take (sIx items.size items.size hi-sIx items.size 0 lo)).toArray):=by
  show((items.toList.drop<|sIx items.size 0 lo).take (sIx items.size items.size hi-sIx items.size 0 lo)).toArray.size<=sizeLine;rw[aAm,aBM,aDA,aAU]
  lia
 have hj:sIx items.size items.size hi<=items.size:=YW _ _ (aAg _) hi;obtain⟨os,hos,vg,xl⟩:=id hs;have hTs:s.TypeIs (.ref sl) "slice":=⟨os,hos,vg⟩;unfold getItem;try with_reducible refine aAK ?_
 first|refine aAa (aAb ?_)|skip
 refine aAa (wpAny_sequenceKey ht.typeIs (by decide) ?_);refine aAa (aCp (name:=aDn "__getitem__") ht.typeIs aCs
  (aBv aCs ht.typeIs entry_tuple_getitem ?_ (args_tuple_getitem _ _)))
 show wpAny _ _ (aDt (.ref t)>>=_) _ _ s;refine aAa (tupleItemsOf_ ht ?_);refine aAa (aDG hTs ?_);rw[if_pos (by decide)];refine aAa (jG hs pl pu ?_);have hno:¬((((sIx items.size 0 lo:Nat):Int)==0&&(1:Int)==1&&(sIx items.size items.size hi-sIx items.size 0 lo)==items.size)=true):=by intro q;rw[aAI,aAI]at q;have q1:((sIx items.size 0 lo:Nat):Int)=0:=eq_of_beq q.1.1;have q2:sIx items.size items.size hi-sIx items.size 0 lo=items.size:=eq_of_beq q.2;exact hw ⟨by lia,by lia⟩
 show wpAny _ _ (if(((sIx items.size 0 lo:Nat):Int)==0&&(1:Int)==1&&(sIx items.size items.size hi-sIx items.size 0 lo)==items.size)=true then _ else _) _ _ s;rw[if_neg hno,LD];first
  |exact aAa (m:=aCP _) (aBm (aAb ⟨_,rfl,aAb h⟩) ua)
  |exact aAa (m:=aCP _) (aBm (aAa<|aAb<|aAb ⟨_,rfl,aAb h⟩) ua)
  |exact aAa (aAa (m:=aCP _)<|aBm (aAb<|aAb ⟨_,rfl,aAb h⟩) ua)
  |exact aAa (aAa (m:=aCP _)<|aBm (aAb ⟨_,rfl,aAb h⟩) ua)
end
end HT
namespace L2
open PySem PySem.Spec PyProof.Rows
abbrev TO:=St->Hp->(Option Int->Hp->Prop)->Prop
def PO (X:Cx)(e:Option Expr)(t:TO):Prop:=
 ∀(pins:L8) (s:Shared) (σ:St) (H:Hp) (Q:Option Int->Hp->Prop),Inv X pins σ H s->t σ H Q->
  wpAny (model X.prog X.w) X.A (evalPart e X.env) (λu s'=>∃o H',Inv X pins σ H' s'/\IsPart u o/\Q o H') X.xe s
def SU:TO:=λ_ H Q=>Q none H
def az (t:TE):TO:=λσ H Q=>t σ H λx H1=>∃i,x=.int i/\Q (some i) H1
section
variable{X:Cx} {e:Expr} {te:TE} {lo hi:Option Expr} {tl th:TO} {pos p2:Pos}
def RJ:PO X none SU:=by intro pins s σ H Q I h;rw[evalPart_none];exact aAb ⟨none,H,I,.none,h⟩
def SC (h:PE X e te):PO X (some e) (az te):=by intro pins s σ H Q I hw;rw[evalPart_some];refine D8 (h pins s σ H _ I hw) λu s1 ⟨x,H1,I1,r1,q1⟩=>?_;obtain⟨i,rfl,q⟩:=q1;obtain⟨t,rfl⟩:=r1;exact⟨some i,H1,I1,.int i t,q⟩
def YQ (X:Cx)(r:V->Option Int->Option Int->Hp->VK->Prop):Prop:=
 ∀(pins:L8) (s:Shared) (σ:St) (H:Hp) (x:V) (v vl vu:Value) (lo hi:Option Int) (sl:Addr) (Q:VK),Inv X pins σ H s->RelV x v->s.heap.IsSliceOf sl vl vu .none->IsPart vl lo->IsPart vu hi->r x lo hi H Q->
  ∃T id,typeLookup (.type T) "__getitem__"=pure (some<|.builtin id)/\s.TypeIs v T/\wpAny (model X.prog X.w) X.A (getItem v<|.ref sl) (EP X pins σ Q) X.xe s
def YQ.or {r r':V->Option Int->Option Int->Hp->VK->Prop}(h:YQ X r)(h':YQ X r'):YQ X (λx lo hi H Q=>r x lo hi H Q\/r' x lo hi H Q):=by
 intro pins s σ H x v vl vu lo hi sl Q I rx hs pl pu q;rcases q with q|q
 ·exact h pins s σ H x v vl vu lo hi sl Q I rx hs pl pu q
 ·exact h' pins s σ H x v vl vu lo hi sl Q I rx hs pl pu q
def tSl (r:V->Option Int->Option Int->Hp->VK->Prop)(te:TE)(tl th:TO):TE:=λσ H Q=>te σ H λx H1=>tl σ H1 λl H2=>th σ H2 λu H3=>r x l u H3 Q
def IY {r:V->Option Int->Option Int->Hp->VK->Prop}(hr:YQ X r)(he:PE X e te)(hl:PO X lo tl)(hu:PO X hi th):PE X (.Subscript e (.Slice lo hi none p2) pos) (tSl r te tl th):=by intro pins s σ H Q I h;refine Subscript_ (D8 (he pins s σ H _ I h) λv s1 ⟨x,H1,I1,r1,q1⟩=>?_);refine wpAny_Slice (D8 (hl pins s1 σ H1 _ I1 q1) λvl s2 ⟨l,H2,I2,pl,q2⟩=>D8 (hu pins s2 σ H2 _ I2 q2) λvu s3 ⟨u,H3,I3,pu,q3⟩=>?_);rw[evalPart_none];refine aAb ?_;have I4:Inv X pins σ H3 {s3 with heap:=s3.heap.push {cls:=.type "slice",data:=.fields #[vl,vu,.none]}}:=I3.kept (t':=s3.toks) λb ob q=>aAc _ q;obtain⟨T,id,hT,ht,hg⟩:=hr pins {s3 with heap:=s3.heap.push {cls:=.type "slice",data:=.fields #[vl,vu,.none]}} σ H3 x v vl vu l u s3.heap.objs.size Q I4 r1 (Heap.IsSliceOf.new ..) pl pu q3;show wpAny (model X.prog X.w) X.A (subscriptTail e (.Slice lo hi none p2) v<|.ref s3.heap.objs.size) (EP X pins σ Q) X.xe {s3 with heap:=s3.heap.push {cls:=.type "slice",data:=.fields #[vl,vu,.none]}};exact tail_any (ops:=[.ref s3.heap.objs.size,v]) ht hT hg (by with_unfolding_all rfl)
def vF (xs:List V)(lo hi:Option Int):List V:=(xs.drop<|HT.sIx xs.length 0 lo).take (HT.sIx xs.length xs.length hi-HT.sIx xs.length 0 lo)
def kR (xs:List V)(lo hi:Option Int):(vF xs lo hi).length<=xs.length:=by
 unfold vF;rw[aBM,aDA]
 lia
def cx (K:PySem.W.Frag):V->Option Int->Option Int->Hp->VK->Prop:=λx lo hi H Q=>∃a xs,x=.ref a/\T2 K H a xs/\
 ¬(HT.sIx xs.length 0 lo=0/\HT.sIx xs.length xs.length hi=xs.length)/\∀p,H p=none->Q (.ref p) (upd H p<|.tup (vF xs lo hi))
def XD:YQ X (cx X.K):=by
 intro pins s σ H x v vl vu lo hi sl Q I rx hs pl pu h;obtain⟨a,xs,rfl,hx,hw,q⟩:=h;cases rx;obtain⟨its,r,ht,hz⟩:=I.tuple hx;have hlen:its.toArray.size=xs.length:=by rw[aAm];exact r.length.symm
 refine⟨"tuple",_,aCs.lookup,ht.typeIs,?_⟩;refine HT.getItem_tuple_cut ht hs pl pu (by rw[hlen];exact hw) ?_ (by rw[hlen];exact hz);rw[hlen];refine⟨.ref s.heap.objs.size,_,I.laid (t':=s.toks) (o:=.tup (vF xs lo hi)) (λb ob q=>aAc _ q) (aAg _) ?_,rfl,q _ (I.hok.fresh<|aAg _)⟩;exact⟨aAo (kR xs lo hi) hz,_,(r.drop<|HT.sIx xs.length 0 lo).take (HT.sIx xs.length xs.length hi-HT.sIx xs.length 0 lo),IsTup.new _ _⟩
def ZY (K:PySem.W.Frag):R2:=λx y H Q=>∃a b xs ys,x=.ref a/\y=.ref b/\T2 K H a xs/\T2 K H b ys/\xs≠[]/\xs.length+ys.length<=sizeLine/\
 (ys=[]->Q (.ref a) H)/\(ys≠[]->∀p,H p=none->Q (.ref p) (upd H p<|.tup (xs++ys)))
def m6.ac3 (r:m6 xs us):us=[]↔xs=[]:=by
 cases r with
 |nil=>simp
 |cons _ _=>simp
def DX:lS X (binaryOp .Add) (ZY X.K):=by intro pins s σ H x y v u Q I rx ry h;obtain⟨a,b,xs,ys,rfl,rfl,ha,hb,hx,hz,q1,q2⟩:=h;cases rx;cases ry;obtain⟨its,r1,p1,_⟩:=I.tuple ha;obtain⟨lg,r2,p2,_⟩:=I.tuple hb;refine HT.cat_tup p1 p2 (λz=>hx (r1.ac3.mp z)) (λz=>⟨.ref a,H,I,rfl,q1 (r2.ac3.mp z)⟩) (λz=>?_) (by rw[<-r1.length,<-r2.length];exact hz);refine⟨.ref s.heap.objs.size,_,I.laid (t':=s.toks) (o:=.tup (xs++ys)) (λb ob q=>aAc _ q) (aAg _) ?_,rfl,q2 (λw=>z (r2.ac3.mpr w)) _ (I.hok.fresh<|aAg _)⟩;exact⟨by rw[aAz];exact hz,_,r1.append r2,IsTup.new _ _⟩
end
end L2
namespace L2
open PySem PySem.Spec PyProof.Rows
def yW (n:Nat)(i:Int):Option Nat:=if 0<=i then(if i<n then some i.toNat else none)else if-(n:Int)<=i then some (i+n).toNat else none
def lP {α:Type}(xs:List α)(i:Int):Option α:=(yW xs.length i).bind λj=>xs[j]?
def DN (h:yW n i=some j):seqIndex? i n=some j/\j<n/\-(n:Int)<=i/\i<n:=by
 unfold yW at h;by_cases h0:0<=i
 ·rw[if_pos h0]at h;by_cases h1:i<n
  ·rw[if_pos h1]at h;have e:i.toNat=j:=Option.some.inj h;exact⟨by rw[seqIndex_of h0 h1,e],by lia,by lia,h1⟩
  ·rw[if_neg h1]at h;cases h
 ·rw[if_neg h0]at h;by_cases h1:-(n:Int)<=i
  ·rw[if_pos h1]at h;have e:(i+n).toNat=j:=Option.some.inj h;exact⟨by rw[seqIndex_neg (by lia) h1,e],by lia,h1,by lia⟩
  ·rw[if_neg h1]at h;cases h
def CJ {α:Type}{xs:List α}{i:Int}{v:α}(h:lP xs i=some v):∃j,seqIndex? i xs.length=some j/\xs[j]?=some v/\j<xs.length/\-(xs.length:Int)<=i/\i<xs.length:=by
 unfold lP at h;cases e:yW xs.length i with
 |none=>rw[e]at h;cases h
 |some j=>rw[e]at h;obtain⟨h1,h2,h3,h4⟩:=DN e;exact⟨j,h1,h,h2,h3,h4⟩
def QZ (b:Expr):Prop:=∀o i,subscripted b false o i=operate [o,i] (getItem o i)
def IxR (X:Cx)(r:R2):Prop:=
 ∀(value slice:Expr) (pins:L8) (s:Shared) (σ:St) (H:Hp) (x y:V) (v u:Value) (Q:VK),Inv X pins σ H s->RelV x v->RelV y u->r x y H Q->
  subscripted slice false v u=operate [v,u] (getItem v u)->wpAny (model X.prog X.w) X.A (subscriptTail value slice v u) (EP X pins σ Q) X.xe s
def MtR (X:Cx)(id:String)(r:V->List V->Hp->VK->Prop):Prop:=
 ∀(pins:L8) (s:Shared) (σ:St) (H:Hp) (x:V) (xs:List V) (v:Value) (us:List Value) (Q:VK),Inv X pins σ H s->RelV x v->m6 xs us->r x xs H Q->
  wpAny (model X.prog X.w) X.A (call (.builtin id) (v::us)) (EP X pins σ Q) X.xe s
section
variable{X:Cx} {a b:Expr} {ta tb:TE} {pos:Pos}
def a0h (K:PySem.W.Frag):R2:=λx y H Q=>∃p xs i v,x=.ref p/\y=.int i/\L7 K H p xs/\lP xs i=some v/\Q v H
def yq (K:PySem.W.Frag):R2:=λx y H Q=>∃p xs i v,x=.ref p/\y=.int i/\T2 K H p xs/\lP xs i=some v/\Q v H
def RX:IxR X (a0h X.K):=by
 intro value slice pins s σ H x y v u Q I rx ry h hs;obtain⟨p,xs,i,z,rfl,rfl,hq,he,q⟩:=h;cases rx;obtain⟨t,rfl⟩:=ry;obtain⟨its,r,pl,hz⟩:=I.list hq;obtain⟨j,h1,h2,h3,h4,h5⟩:=CJ he;obtain⟨w,ew,rw'⟩:=r.get h2;have hl:=r.length;have hn:=uE;have fin:EP X pins σ Q w s:=⟨z,H,I,rw',q⟩;by_cases h0:0<=i
 ·have hj:i.toNat=j:=by rw[seqIndex_of h0 h5]at h1;exact Option.some.inj h1
  exact item_listR pl.isList h0 (by lia) (by rw[hj];simpa using ew) fin hs
 ·have hj:(i+(its.toArray.size:Int)).toNat=j:=by rw[seqIndex_neg (by lia) h4]at h1;rw[aAm,<-hl];exact Option.some.inj h1
  exact subscriptTail_builtinR (x:=w) pl.isList.typeIs slot_list_getitem.lookup
   (wpAny_getItem_list_neg (Q:=λr s'=>r=w/\EP X pins σ Q r s') pl.isList (by lia) (by rw[aAm]<;>lia) (by lia) (by rw[hj];simpa using ew) ⟨rfl,fin⟩) hs
def WF:IxR X (yq X.K):=by
 intro value slice pins s σ H x y v u Q I rx ry h hs;obtain⟨p,xs,i,z,rfl,rfl,hq,he,q⟩:=h;cases rx;obtain⟨t,rfl⟩:=ry;obtain⟨its,r,pl,hz⟩:=I.tuple hq;obtain⟨j,h1,h2,h3,h4,h5⟩:=CJ he;obtain⟨w,ew,rw'⟩:=r.get h2;have hl:=r.length;have hn:=uE;have fin:EP X pins σ Q w s:=⟨z,H,I,rw',q⟩;exact subscriptTail_builtinR (x:=w) pl.typeIs aCs.lookup
  (getItem_tuple (j:=j) (Q:=λr s'=>r=w/\EP X pins σ Q r s') pl (by lia) (by lia) (by rw[aAm,<-hl];exact h1) (by simpa using ew) ⟨rfl,fin⟩) hs
def zV (its:List Value)(n j:Nat)(u:Value):aBz (·.setIfInBounds j u) {cls:=.type "list",data:=.seq its.toArray n}={cls:=.type "list",data:=.seq (its.set j u).toArray n}:=by simp[aBz]
def Inv.lst {pins:L8}{σ:St}{H:Hp}{s:Shared}{p:Addr}{xs:List V}(I:Inv X pins σ H s)(h:H p=some (.lst xs)):
  ∃(its:List Value) (n:Nat),m6 xs its/\s.heap.get? p=some {cls:=.type "list",data:=.seq its.toArray n}/\xs.length<=sizeLine:=by
 obtain⟨z,its,n,r,e⟩:=I.hok p _ h;exact⟨its,n,r,e,z⟩
def Inv.af4 {pins:L8}{σ:St}{H:Hp}{s:Shared}{p:Addr}{xs ys:List V}{its its':List Value}{n n':Nat}{f:Obj->Obj}(I:Inv X pins σ H s)(h:H p=some (.lst xs))
  (ho:s.heap.get? p=some {cls:=.type "list",data:=.seq its.toArray n}) (hf:f {cls:=.type "list",data:=.seq its.toArray n}={cls:=.type "list",data:=.seq its'.toArray n'}) (r:m6 ys its') (hz:ys.length<=sizeLine) (t:Nat):
  Inv X pins σ (upd H p (.lst ys)) {s with heap:=s.heap.update p f,toks:=t}:=by
 have e:(s.heap.update p f).get? p=some {cls:=.type "list",data:=.seq its'.toArray n'}:=by rw[aAS f ho (by rw[hf]<;>rfl),hf]
 refine I.write (x:=p) (e:=p) (by rw[h];trivial) (.inl rfl) (λb u hb q=>(aAr _ _<|aBQ hb).trans q) ⟨_,e⟩ ?_;exact⟨hz,its',n',r,e⟩
def cw:V->V->V->Hp->(Hp->Prop)->Prop:=λo i v H Q=>∃p xs k j,o=.ref p/\i=.int k/\H p=some (.lst xs)/\yW xs.length k=some j/\Q (upd H p<|.lst (xs.set j v))
def KY:WE X cw:=by
 intro pins s σ H o i v ov iv u Q I ro ri rv h;obtain⟨p,xs,k,j,rfl,rfl,hp,hj,q⟩:=h;cases ro;obtain⟨t,rfl⟩:=ri;obtain⟨its,n,r,ho,hz⟩:=I.lst hp;obtain⟨h1,h2,h3,h4⟩:=DN hj;have hl:=r.length;have hn:=uE;have I':Inv X pins σ (upd H p<|.lst (xs.set j v)) {s with heap:=s.heap.update p (aBz (·.setIfInBounds j u))}:=
  I.af4 hp ho (zV its n j u) (r.set rv j) (by rw[aFB];exact hz) s.toks
 by_cases h0:0<=k
 ·have hk:k.toNat=j:=by rw[seqIndex_of h0 h4]at h1;exact Option.some.inj h1
  exact PySem.W.ki_setAt ho h0 (by lia) (by rw[aAm,<-hl];exact h4) (by rw[hk];exact⟨_,I',q⟩)
 ·have hk:(k+(its.toArray.size:Int)).toNat=j:=by rw[seqIndex_neg (by lia) h3]at h1;rw[aAm,<-hl];exact Option.some.inj h1
  exact PySem.W.ki_setBack ho (by lia) (by rw[aAm,<-hl];exact h3) (by lia) (by rw[hk];exact⟨_,I',q⟩)
def uQ (lo hi:Option Int)(n:Nat):(sliceBounds lo hi none n).1=((HT.sIx n 0 lo:Nat):Int)/\(sliceBounds lo hi none n).2.1=((HT.sIx n n hi:Nat):Int)/\(sliceBounds lo hi none n).2.2=1:=by
 refine⟨?_,?_,rfl⟩
 ·cases lo with
  |none=>simp[sliceBounds,HT.sIx]
  |some i=>
   simp only[sliceBounds,HT.sIx,Option.getD_none,show(1:Int)>0 by decide,if_true];by_cases h:i<0
   ·simp only[h,if_true]<;>lia
   ·simp only[h,if_false]<;>lia
 ·cases hi with
  |none=>simp[sliceBounds,HT.sIx]
  |some i=>
   simp only[sliceBounds,HT.sIx,Option.getD_none,show(1:Int)>0 by decide,if_true];by_cases h:i<0
   ·simp only[h,if_true]<;>lia
   ·simp only[h,if_false]<;>lia
def qH (its:List Value)(lo hi:Option Int):slicePick its.toArray lo hi none=((its.drop (HT.sIx its.length 0 lo)).take (HT.sIx its.length its.length hi-HT.sIx its.length 0 lo)).toArray:=by obtain⟨h1,h2,h3⟩:=uQ lo hi its.toArray.size;unfold slicePick;rw[h1,h2,h3];simp only[sliceRange_one,pick_run,aAm]<;>rfl
def iw (K:PySem.W.Frag):V->Option Int->Option Int->Hp->VK->Prop:=λx lo hi H Q=>∃a xs,x=.ref a/\L7 K H a xs/\∀p,H p=none->Q (.ref p) (upd H p<|.lst (vF xs lo hi))
def QP:YQ X (iw X.K):=by intro pins s σ H x v vl vu lo hi sl Q I rx hs pl pu h;obtain⟨a,xs,rfl,hx,q⟩:=h;cases rx;obtain⟨its,r,ht,hz⟩:=I.list hx;have hlen:=r.length;refine⟨"list",_,slot_list_getitem.lookup,ht.isList.typeIs,?_⟩;refine wpAny_getItem_list_slice ht.isList hs pl pu .none (by simp) ?_ (by rw[aAm]<;>lia);rw[qH,<-hlen];refine⟨.ref s.heap.objs.size,_,I.laid (t':=s.toks) (o:=.lst (vF xs lo hi)) (λb ob q=>aAc _ q) (aAg _) ?_,rfl,q _ (I.hok.fresh<|aAg _)⟩;exact⟨aAo (kR xs lo hi) hz,_,0,(r.drop<|HT.sIx xs.length 0 lo).take (HT.sIx xs.length xs.length hi-HT.sIx xs.length 0 lo),aAp _ rfl⟩
def fq:V->Bool
 |.non=>true
 |.bl _=>true
 |.int _=>true
 |.str _=>true
 |_=>false
def gH:rY X (.builtin "len") (λxs H Q=>∃p ys,xs=[.ref p]/\(L7 X.K H p ys\/T2 X.K H p ys)/\Q (.int ys.length) H):=by
 intro pins s σ H xs us Q I r h;obtain⟨p,ys,rfl,hq,q⟩:=h;obtain⟨u,rfl,rx⟩:=vals1 r;cases rx;have hn:=uE;rcases hq with hq|hq
 ·obtain⟨its,r',pl,hz⟩:=I.list hq;have hlen:=r'.length;exact Calls.call_len_list pl.isList (by simp only[aAm]<;>lia) ⟨.int ys.length,H,I.tok _,⟨s.toks+1,by rw[aAm,hlen]⟩,q⟩
 ·obtain⟨its,r',pl,hz⟩:=I.tuple hq;have hlen:=r'.length;exact len_tuple pl (by simp only[aAm]<;>lia) ⟨.int ys.length,H,I.tok _,⟨s.toks+1,by rw[aAm,hlen]⟩,q⟩
def gR:rY X (.type "list") (λxs H Q=>∃p ys,xs=[.ref p]/\(L7 X.K H p ys\/T2 X.K H p ys)/\∀l,H l=none->Q (.ref l) (upd H l (.lst ys))):=by
 intro pins s σ H xs us Q I r h;obtain⟨p,ys,rfl,hq,q⟩:=h;obtain⟨u,rfl,rx⟩:=vals1 r;cases rx;have fin:∀(its:List Value),m6 ys its->ys.length<=sizeLine->∀(h':Heap) (c':Nat),(∀b o',s.heap.get? b=some o'->h'.get? b=some o')->
   h'.get? s.heap.objs.size=some {cls:=.type "list",dict:=none,data:=.seq its.toArray c',slots:=#[]}->EP X pins σ Q (.ref s.heap.objs.size) {s with heap:=h'}:=λits r' hz h' c' kp e=>
  ⟨.ref s.heap.objs.size,_,I.laid (t':=s.toks) kp (aAg _) (show ObjOk X.prog X.w _ h' _ (.lst ys)from⟨hz,its,c',r',e⟩),rfl,q _ (I.hok.fresh<|aAg _)⟩
 rcases hq with hq|hq
 ·obtain⟨its,r',pl,hz⟩:=I.list hq;have hlen:=r'.length;obtain⟨o,ho,hc,n,hd⟩:=pl.isList;exact call_list_seq p (.inl rfl) ho hc hd (λh' c' kp e=>fin its r' hz h' c' kp e) (by simp only[aAm]<;>lia)
 ·obtain⟨its,r',pl,hz⟩:=I.tuple hq;have hlen:=r'.length;obtain⟨o,ho,hc,n,hd⟩:=pl;exact call_list_seq p (.inr rfl) ho hc hd (λh' c' kp e=>fin its r' hz h' c' kp e) (by simp only[aAm]<;>lia)
def fE:rY X (.type "tuple") (λxs H Q=>∃p ys,xs=[.ref p]/\((L7 X.K H p ys/\∀l,H l=none->Q (.ref l) (upd H l (.tup ys)))\/(T2 X.K H p ys/\Q (.ref p) H))):=by
 intro pins s σ H xs us Q I r h;obtain⟨p,ys,rfl,h⟩:=h;obtain⟨u,rfl,rx⟩:=vals1 r;cases rx;rcases h with⟨hq,q⟩|⟨hq,q⟩
 ·obtain⟨its,r',pl,hz⟩:=I.list hq;have hlen:=r'.length;refine call_tuple_list pl.isList (λh' kp=>?_) (by simp only[aAm]<;>lia);have I1:Inv X pins σ H {s with heap:=h'}:=I.kept (t':=s.toks) kp;have I2:Inv X pins σ (upd H h'.objs.size<|.tup ys) {s with heap:=h'.push {cls:=.type "tuple",data:=.seq its.toArray}}:=
   I1.laid (t':=s.toks) (λb o e=>aAc _ e) (aAg _) (show ObjOk X.prog X.w _ _ _ (.tup ys)from⟨hz,its,r',IsTup.new _ _⟩)
  exact⟨.ref h'.objs.size,_,I2,rfl,q _ (I1.hok.fresh<|aAg _)⟩
 ·obtain⟨its,r',pl,hz⟩:=I.tuple hq;exact call_tuple_same pl ⟨.ref p,H,I,rfl,q⟩
def xq (K : PySem.W.Frag) (T : String) (x : V) (H : Hp) : Prop := match x with
  | .str _ => T = "str"
  | .int _ => T = "int"
  | .ref p => (T = "list" ∧ ∃ xs, L7 K H p xs) ∨ (T = "tuple" ∧ ∃ o, K.lookup p = some o ∧ o.cls = .type "tuple" ∧ o.dict = none) ∨
      (T = "dict" ∧ ((∃ kvs, H p = some (.dK kvs)) ∨ ∃ kvs, H p = some (.dT kvs))) ∨ (T = "set" ∧ ∃ S n, H p = some (.set S n))
  | _ => False
def KZ (I:Inv X pins σ H s)(r:RelV x v)(ty:xq X.K T x H):
  s.TypeIs v T/\∀a,v=.ref a->∃ob,s.heap.get? a=some ob/\ob.dict=none:=by
 cases x with
 |str z=>obtain⟨t,rfl⟩:=r;cases(show T= "str"from ty);exact⟨typeIs_str s z t,λ_ e=>nomatch e⟩
 |int i=>obtain⟨t,rfl⟩:=r;cases(show T= "int"from ty);exact⟨typeIs_int s i t,λ_ e=>nomatch e⟩
 |ref p=>
  cases r;rcases ty with⟨rfl,xs,hq⟩|⟨rfl,o,hk,hc,hd⟩|⟨rfl,hk⟩|⟨rfl,S,n,hk⟩
  ·obtain⟨its,_,pl,_⟩:=I.list hq;refine⟨pl.isList.typeIs,λa e=>?_⟩;cases e;obtain⟨o,n,e,c,hd,_⟩:=pl;exact⟨o,e,hd⟩
  ·refine⟨⟨o,I.kIn p o hk,hc⟩,λa e=>?_⟩;cases e;exact⟨o,I.kIn _ o hk,hd⟩
  ·have z:∃o,s.heap.get? p=some o/\o.ExactDict:=by
    rcases hk with⟨kvs,hk⟩|⟨kvs,hk⟩
    ·obtain⟨_,_,_,_,o,_,_,e,ex,_⟩:=I.hok p _ hk;exact⟨o,e,ex⟩
    ·obtain⟨_,_,_,_,o,_,_,e,ex,_⟩:=I.hok p _ hk;exact⟨o,e,ex⟩
   obtain⟨o,e,ex⟩:=z;refine⟨⟨o,e,ex.1⟩,λa e2=>?_⟩;cases e2;exact⟨o,e,ex.2.1⟩
  ·obtain⟨o,_,_,_,e,ex,_⟩:=I.hok p _ hk;refine⟨⟨o,e,ex.1⟩,λa e2=>?_⟩;cases e2;exact⟨o,e,ex.2.1⟩
 |_=>exact aAk ty
def uw (K:PySem.W.Frag)(T:String)(r:V->List V->Hp->VK->Prop)(to:TE):TE:=λσ H Q=>to σ H λx H1=>xq K T x H1/\r x [] H1 Q
def tBM (K:PySem.W.Frag)(T:String)(r:V->List V->Hp->VK->Prop)(to:TE)(t:TA):TE:=λσ H Q=>to σ H λx H1=>xq K T x H1/\t σ H1 λxs H2=>r x xs H2 Q
variable{o e:Expr} {es:List Expr} {to:TE} {t:TA} {name:Str} {apos bh:Pos} {T id:String} {r:V->List V->Hp->VK->Prop}
def MS (pa:PlainAttrs T)(slot:Slot T name id)(hty:typeOf (.builtin id)=pure (.type "method_descriptor"))(hm:MtR X id r)(ho:PE X o to)
  (fb:attributeBase o name X.env (eval o X.env)=eval o X.env:=by rfl) (cp:(apos.endLine==bh.line)=true:=by rfl):PE X (.Call (.Attribute o name apos) [] [] bh) (uw X.K T r to):=by
 intro pins s σ H Q I h;refine wpAny_Call_method0_late fb cp (D8 (ho pins s σ H _ I h) λv s1 ⟨x,H1,I1,r1,ty,q1⟩=>?_);obtain⟨h1,h2⟩:=KZ I1 r1 ty;exact⟨T,id,pa,slot,hty,h1,h2,aFv rfl (PySem.evalArgs_none<|hm pins s1 σ H1 x [] v [] Q I1 r1 .nil q1)⟩
def VH (pa:PlainAttrs T)(slot:Slot T name id)(hty:typeOf (.builtin id)=pure (.type "method_descriptor"))(hm:MtR X id r)(ho:PE X o to)(ha:PA X (e::es) t)
  (fb:attributeBase o name X.env (eval o X.env)=eval o X.env:=by rfl)
  (vh:((backTo bh (starEach (e::es) X.env)).all (λx=>!x.1)&&(backToKw bh (keywordEach [] X.env)).all (λx=>x.1.isSome)
   &&decide ((e::es).length+([]:List Keyword).length+(if([]:List Keyword).isEmpty then 0 else 1)<30))=true:=by rfl)
  (cp:(apos.endLine==bh.line)=true:=by rfl) (hs:starEach (e::es) X.env=(false,eval e X.env)::starEach es X.env:=by rfl) (ke:(backTo bh (starEach es X.env)).any (·.1)=false:=by rfl):
  PE X (.Call (.Attribute o name apos) (e::es) [] bh) (tBM X.K T r to t):=by
 intro pins s σ H Q I h;refine wpAny_Call_method_late fb vh cp rfl (D8 (ho pins s σ H _ I h) λv s1 ⟨x,H1,I1,r1,ty,q1⟩=>?_);obtain⟨h1,h2⟩:=KZ I1 r1 ty;refine⟨T,id,pa,slot,hty,h1,h2,?_⟩;have hA:=ha bh pins s1 σ H1 _ I1 q1;rw[hs]at hA⊢;refine aFv (by show(false||(backTo bh<|starEach es X.env).any (·.1))=false;rw[ke]<;>rfl) (Calls.evalArgs_plain ?_);exact D8 hA λus s2 ⟨vs,H2,I2,r2,q2⟩=>hm pins s2 σ H2 x vs v us Q I2 r1 r2 q2
end
end L2
namespace L2
open PySem PySem.Spec PyProof.Rows
def wz (X:Cx)(id:String)(r:V->List V->Hp->VK->Prop):Prop:=
 ∀(pins:L8) (s:Shared) (σ:St) (H:Hp) (x:V) (xs:List V) (v:Value) (us:List Value) (Q:VK),Inv X pins σ H s->RelV x v->m6 xs us->r x xs H Q->
  wpAny (model X.prog X.w) X.A (call (.builtin id) (v::us)) (EP X pins σ Q) X.xe s
theorem m6.one:∀{x:V} {us:List Value},m6 [x] us->∃u,us=[u]/\RelV x u
 |_,_,.cons r .nil=>⟨_,rfl,r⟩
theorem m6.zero:∀{us:List Value},m6 [] us->us=[]
 |_,.nil=>rfl
def m6.dropLast (h:m6 xs us):m6 xs.dropLast us.dropLast:=by
 induction h with
 |nil=>exact .nil
 |cons r t ih=>
  cases t with
  |nil=>exact .nil
  |cons q t'=>exact .cons r ih
def AZ {α:Type}(l:List α):l.eraseIdx (l.length-1)=l.dropLast:=by
 induction l with
 |nil=>rfl
 |cons a r ih=>
  cases r with
  |nil=>rfl
  |cons b r=>
   have e:(a::b::r).length-1=((b::r).length-1)+1:=by
    have h1:(a::b::r).length=r.length+2:=rfl;have h2:(b::r).length=r.length+1:=rfl
    lia
   rw[e,aFk,ih]
   all_goals rfl
section
variable{X:Cx} {pins:L8} {σ:St} {H:Hp} {s:Shared} {l b:Addr} {xs ys zs:List V}
def Inv.af1 {its its':List Value}{n:Nat}{f:Array Value->Array Value}{t':Nat}(I:Inv X pins σ H s)(hH:H l=some (.lst xs))
  (e:s.heap.get? l=some {cls:=.type "list",data:=.seq its.toArray n}) (hf:f its.toArray=its'.toArray) (hv:m6 ys its') (hz:ys.length<=sizeLine):
  Inv X pins σ (upd H l (.lst ys)) {s with heap:=s.heap.update l (aBz f),toks:=t'}:=by
 have q:=PySem.IsL.update e f;rw[hf]at q;refine I.write (x:=l) (e:=l) (by rw[hH];exact trivial) (.inl rfl) (λb' u hb hu=>(aAr s.heap (aBz f)<|aBQ hb).trans hu) ⟨_,q⟩ ?_;exact⟨hz,its',_,hv,q⟩
def Inv.ag1 (I:Inv X pins σ H s)(hv:m6 ys its)(hz:ys.length<=sizeLine):
  Inv X pins σ (upd H s.heap.objs.size (.lst ys)) {s with heap:=s.heap.push {cls:=.type "list",data:=.seq its.toArray},toks:=t'}:=
 I.laid (λ_ _ q=>aAc _ q) (aAg _) ⟨hz,its,0,hv,aAp _ rfl⟩
def Inv.fresh (I:Inv X pins σ H s):H s.heap.objs.size=none:=I.hok.fresh (aAg _)
def Inv.af2 (I:Inv X pins σ H s)(hH:H l=some (.lst xs)):xs.length<=sizeLine/\∃(its:List Value) (n:Nat),m6 xs its/\xs.length=its.length/\s.heap.get? l=some {cls:=.type "list",data:=.seq its.toArray n}:=by obtain⟨z,its,n,r,e⟩:=I.hok l _ hH;exact⟨z,its,n,r,r.length,e⟩
def LG (h:n<=sizeLine):aCQ n=false:=by unfold aCQ;exact decide_eq_false (by lia)
end
section
variable{X:Cx}
def TD:V->List V->Hp->VK->Prop:=λx vs H Q=>∃l xs y,x=.ref l/\vs=[y]/\H l=some (.lst xs)/\xs.length<sizeLine/\Q .non (upd H l<|.lst (xs++[y]))
def sE:wz X "list.append" TD:=by
 intro pins s σ H x vs v us Q I rx rv h;obtain⟨l,xs,y,rfl,rfl,hH,hz,q⟩:=h;cases rx;obtain⟨u,rfl,ru⟩:=rv.one;obtain⟨z,its,n,r,hl,e⟩:=I.af2 hH;refine call_meets F.slot_list_append ⟨_,e,rfl⟩ F.entry_list_append (F.args_list_append_2 _ _) (PySem.list_append l its.toArray n u (by rw[aAm];lia)) ⟨e,?_⟩;refine⟨.non,_,I.af1 (its':=its++[u]) hH e (by simp) (r.append<|.cons ru .nil) ?_,rfl,q⟩;rw[aAz,List.length_singleton]
 lia
def tw:V->List V->Hp->VK->Prop:=λx vs H Q=>∃l xs y,x=.ref l/\vs=[]/\H l=some (.lst xs)/\xs[xs.length-1]?=some y/\Q y (upd H l<|.lst xs.dropLast)
def LK:wz X "list.pop" tw:=by
 intro pins s σ H x vs v us Q I rx rv h;obtain⟨l,xs,y,rfl,rfl,hH,hy,q⟩:=h;cases rx;have hus:=rv.zero;subst hus;obtain⟨z,its,n,r,hl,e⟩:=I.af2 hH;obtain⟨u,hu,ru⟩:=r.get hy;have hy':its.toArray[its.toArray.size-1]?=some u:=by show its.toArray[its.length-1]?=some u;rw[<-aAA,<-hl];exact hu
 refine call_meets F.slot_list_pop ⟨_,e,rfl⟩ F.entry_list_pop (F.args_list_pop_1 _) (MeetsSeq.list_pop_last l its.toArray n u hy' (by rw[aAm];lia)) ⟨e,?_⟩;refine⟨y,_,I.af1 (its':=its.dropLast) hH e ?_ r.dropLast ?_,ru,q⟩
 ·show its.toArray.eraseIdxIfInBounds (its.toArray.size-1)=its.dropLast.toArray;rw[aAm,List.eraseIdxIfInBounds_toArray,AZ]
 ·rw[aFM]
  lia
end
section
variable{prog:Program} {w:World} {A:Around} {E:A3} {s:Shared}
end
section
variable{X:Cx}
end
end L2
namespace Att
open PySem PySem.W PySem.Calls PyProof.Rows
def lJ:∀(ns:List Int) (vs:List Value),WellAll P h vs (ns.map WData.int)->IntsAre vs ns:=by
 intro ns;induction ns with
 |nil=>intro vs w;rw[aFC]at w;cases w;exact .nil
 |cons n ns ih=>
  intro vs w;rw[aAv]at w;cases w with
  |cons a b=>cases a;exact .cons _ _ (ih _ b)
def script_of {l:OpenLaw}{n:Nat}(hn:l.most=some n){P:Params}{h:Heap}{args:List WData}{vals:List Value}
  (yg:l.row.toRowW.claim.pre args=true) (qe:WellAll P h vals args):
  ∃a vs ns,vals=[aDv a]/\args=[WData.list (ns.map WData.int)]/\h.get? a=some {cls:=.type "list",data:=.seq vs.toArray}/\IntsAre vs ns/\ns.length<=n:=by
 have hsh:WShape.hasAll [] args [.list .int]=true:=(pre_splitW yg).1;have hc:l.pre.holds [] {args:=args}=true:=(pre_splitW yg).2;obtain⟨d,r,rfl,h1,h2⟩:=hasAllW_cons hsh;obtain rfl:=hasAllW_nil h2;obtain⟨xs,rfl,h3⟩:=hasW_list h1;obtain⟨ns,rfl⟩:=items_int h3;have hlen:ns.length<=n:=by
  unfold OpenLaw.pre at hc;have h4:(WTm.not<|.lt (.lit (.int (n:Int))) (.len (.arg 0))).holds [] {args:=[.list (ns.map .int)]}=true:=by have h4:=(holds_andW hc).1;rw[hn]at h4;exact h4
  have h5:=condW_of h4 (w_not<|w_lt w_lit<|w_len_list<|w_arg rfl);rw[aAl]at h5;refine aEe λq=>?_;have q':(n:Int)<((ns.length:Nat):Int):=by lia
  first
   |(rw[decide_eq_true q']at h5;exact absurd h5 (by decide))
   |(simp at h5;lia)
 cases qe with
 |cons w1 w2=>
  cases w2;cases w1 with
  |list ho kg=>exact⟨_,_,ns,rfl,rfl,ho,lJ ns _ kg,hlen⟩
def post_true (l:OpenLaw)(args:List WData):l.row.toRowW.claim.post args (.bool true) args=true:=
 postW_of (r:=l.row.toRowW) (X:=(true==true))
  (show WShape.has [] (.bool true) .bool=true by first|rfl|decide|simp[WShape.has,WShape.arms,WShape.armsAll])
  (show(WTm.eq .res (.lit (.bool true))).value [] {args:=args,res:=some (.bool true),after:=args}=some (.bool (true==true))from w_eq_bool (w_res rfl) w_lit) rfl
section
variable{prog:Program} {w:World} {A:Around} {E:A3} {s:Shared} {K:Frag}
def a0d (h:Heap)(L d:Addr):List (Addr×Obj):=(aBy h.objs.size).filterMap λa=>if a=L\/a=d then none else(h.get? a).map λo=>(a,o)
end
end Att
namespace L2
open PySem PySem.Spec PyProof.Rows
theorem aD:∀{vs:List Value} {ns:List Int},IntsAre vs ns->m6 (ns.map V.int) vs
 |_,_,.nil=>.nil
 |_,_,.cons n t h=>.cons ⟨t,rfl⟩ (aD h)
end L2
namespace L2
open PySem PySem.Spec PyProof.Rows
end L2
namespace L2
open PySem PySem.Spec PyProof.Rows
def D6 (s:Stmt):Arguments:=match s with
 |.FunctionDef _ a _ _ _ _ _ _ _ _=>a
 |_=>{posonlyargs:=[],args:=[],vararg:=none,kwonlyargs:=[],kw_defaults:=[],kwarg:=none,defaults:=[]}
def t9 (s:Stmt):List Stmt:=match s with
 |.FunctionDef _ _ b _ _ _ _ _ _ _=>b
 |_=>[]
def c8 (s:Stmt):Scope:=match s with
 |.FunctionDef _ _ _ _ _ _ sc _ _ _=>sc
 |_=>{kind:=.function,names:=[],isGenerator:=false,isCoroutine:=false}
abbrev tR:OU:=λ_ _ _ _ _ _=>False
abbrev E0:XK:=λ_ _ _=>False
def iz:BG tR X E0:=λ_ _ _ _ _ _ _ h=>h.elim
structure Fun (K:PySem.W.Frag)(x qual:Str)(st:Stmt)(f:Addr)(fd:FuncData):Prop where
 ex:∃(oc:Value) (od:Option Addr) (kV doc pm:Value) (an:Option Addr) (cdv ct:Value) (osl:Array (Option Value)),
  fd=PySem.W.fnOf x qual (D6 st) (t9 st) (c8 st) .none kV doc pm an cdv ct/\K.lookup f=some ⟨oc,od,.func fd,osl⟩/\PySem.W.codeIn K cdv qual=true
 kp:PySem.W.keepIn K (.ref f)=true
section
variable{P:Program} {w:World} {K:PySem.W.Frag} {mg:cP} {base:Heap}
def Fun.ok {x qual:Str}{st:Stmt}{f:Addr}{fd:FuncData}{N ps:List Str}{k:Nat}{sp:Sp}(F:Fun K x qual st f fd)(S:FnScope N ps (c8 st))(len:∀vs H Q E,sp vs H Q E->vs.length=ps.length)
  (vf:∀(cdv:Value) (A:Around) (outer:List Env) (s:Shared) (H:Hp) (vs:List V) (Q:VK) (E:XK),Room k (A.deeper (envOfC qual (c8 st) s.heap.objs.size f cdv))->sp vs H Q E->
   ∃t,uR (AU tR P w K mg base N qual (c8 st) f cdv A outer s H E).nox (t9 st) t/\t {nx:=λ_ H'=>Q .non H',rt:=Q} (start N vs) H):FnOk P w K mg base tR (k+1) f fd ps sp:=by
 obtain⟨oc,od,kV,doc,pm,an,cdv,ct,osl,rfl,lk,eu⟩:=F.ex;refine UM lk eu S len λA outer s H vs Q E hr hsp=>?_;obtain⟨t,h,q⟩:=vf cdv A outer s H vs Q E hr hsp;exact⟨t,h.nox,q⟩
def Fun.binds {x qual:Str}{st:Stmt}{f:Addr}{fd:FuncData}{ps:List Str}(F:Fun K x qual st f fd)
  (h:∀(kV doc pm:Value) (an:Option Addr) (cdv ct:Value) (us:List Value),us.length=ps.length->bindArgs (PySem.W.fnOf x qual (D6 st) (t9 st) (c8 st) .none kV doc pm an cdv ct) ⟨us,[]⟩=pure (ps.zip us)):Binds K fd ps []:=by
 obtain⟨oc,od,kV,doc,pm,an,cdv,ct,osl,rfl,lk,eu⟩:=F.ex;exact .all (h kV doc pm an cdv ct)
def JF {x qual:Str}{st:Stmt}{f:Addr}{oc:Value}{od an:Option Addr}{osl:Array (Option Value)}{kV doc pm cdv ct:Value}(l:K.lookup f=some ⟨oc,od,.func (PySem.W.fnOf x qual (D6 st) (t9 st) (c8 st) .none kV doc pm an cdv ct),osl⟩)
 (c:PySem.W.codeIn K cdv qual=true) (k:PySem.W.keepIn K (.ref f)=true):Fun K x qual st f (PySem.W.fnOf x qual (D6 st) (t9 st) (c8 st) .none kV doc pm an cdv ct):=⟨⟨oc,od,kV,doc,pm,an,cdv,ct,osl,rfl,l,c⟩,k⟩
end
section
variable{X:Cx}
end
def Same (H H':Hp):Prop:=∀b o,H b=some o->H' b=some o
def Same.refl (H:Hp):Same H H:=λ_ _ h=>h
def Same.trans (a:Same H H1)(b:Same H1 H2):Same H H2:=λc o h=>b c o (a c o h)
def Same.seq {K:PySem.W.Frag}{H H':Hp}{a:Addr}{xs:List V}(e:Same H H')(h:L7 K H a xs):L7 K H' a xs:=by
 rcases h with(h|⟨o,h⟩)|h
 ·exact .inl (.inl (e _ _ h))
 ·exact .inl (.inr ⟨o,e _ _ h⟩)
 ·exact .inr h
end L2
namespace DL
open PySem PySem.Spec L2
open PyProof.Rows hiding St
inductive D where
 |non|bl (b:Bool)|int (i:Int)|str (x:Str)|tup (xs:List D)|lst (xs:List D)|dct
mutual
def n8:D->Int
 |.int i=>hashInt i
 |.tup xs=>reduceHash (aAL (uC xs))
 |_=>0
def uC:List D->List Int
 |[]=>[]
 |x::xs=>n8 x::uC xs
end
def Q9:Nat->D->Bool
 |_,.int _=>true
 |n+1,.tup xs=>xs.all (Q9 n)
 |_,_=>false
inductive R (α:Type)where
 |ok (a:α)|ex (e:Str)|bad
def R.bind {α β:Type}:R α->(α->R β)->R β
 |.ok a,f=>f a
 |.ex e,_=>.ex e
 |.bad,_=>.bad
@[simp]def R.aa0 {α β:Type}(a:α)(f:α->R β):(R.ok a).bind f=f a:=rfl
section
variable(K:PySem.W.Frag) (H:Hp) (O:Addr->Prop)
mutual
inductive Rep:V->D->Prop
 |non:Rep .non .non
 |bl {b:Bool}:Rep (.bl b) (.bl b)
 |int {i:Int}:Rep (.int i) (.int i)
 |str {x:Str}:Rep (.str x) (.str x)
 |tup {a:Addr} {vs:List V} {ds:List D} (h:T2 K H a vs) (r:Reps vs ds):Rep (.ref a) (.tup ds)
 |lst {a:Addr} {vs:List V} {ds:List D} (h:L7 K H a vs) (n:¬O a) (r:Reps vs ds):Rep (.ref a) (.lst ds)
 |dct {a:Addr} {o:Obj} (h:H a=some (.ext λh=>h.get? a=some o)) (x:o.ExactDict) (n:¬O a):Rep (.ref a) .dct
inductive Reps:List V->List D->Prop
 |nil:Reps [] []
 |cons {v:V} {d:D} {vs:List V} {ds:List D} (h:Rep v d) (t:Reps vs ds):Reps (v::vs) (d::ds)
end
end
section
variable{K:PySem.W.Frag}
def _root_.L2.Same.tup {a:Addr}{xs:List V}(e:Same H H')(h:T2 K H a xs):T2 K H' a xs:=by
 rcases h with(h|⟨o,h⟩)|h
 ·exact .inl (.inl (e _ _ h))
 ·exact .inl (.inr ⟨o,e _ _ h⟩)
 ·exact .inr h
mutual
theorem Rep.mono (hT:∀a xs,T2 K H a xs->T2 K H' a xs)(hL:∀a xs,¬O a->L7 K H a xs->¬O' a/\L7 K H' a xs)(hD:∀a φ,¬O a->H a=some (.ext φ)->¬O' a/\H' a=some (.ext φ)):∀{v:V} {d:D},Rep K H O v d->Rep K H' O' v d
 |_,_,.non=>.non
 |_,_,.bl=>.bl
 |_,_,.int=>.int
 |_,_,.str=>.str
 |_,_,.tup h r=>.tup (hT _ _ h) (Reps.mono hT hL hD r)
 |_,_,.lst h n r=>.lst (hL _ _ n h).2 (hL _ _ n h).1 (Reps.mono hT hL hD r)
 |_,_,.dct h x n=>.dct (hD _ _ n h).2 x (hD _ _ n h).1
theorem Reps.mono (hT:∀a xs,T2 K H a xs->T2 K H' a xs)(hL:∀a xs,¬O a->L7 K H a xs->¬O' a/\L7 K H' a xs)(hD:∀a φ,¬O a->H a=some (.ext φ)->¬O' a/\H' a=some (.ext φ)):∀{vs:List V} {ds:List D},Reps K H O vs ds->Reps K H' O' vs ds
 |_,_,.nil=>.nil
 |_,_,.cons h t=>.cons (Rep.mono hT hL hD h) (Reps.mono hT hL hD t)
end
def Rep.same (e:Same H H')(r:Rep K H O v d):Rep K H' O v d:=r.mono (λ_ _ h=>e.tup h) (λ_ _ n h=>⟨n,e.seq h⟩) λ_ _ n h=>⟨n,e _ _ h⟩
def Reps.same (e:Same H H')(r:Reps K H O v d):Reps K H' O v d:=r.mono (λ_ _ h=>e.tup h) (λ_ _ n h=>⟨n,e.seq h⟩) λ_ _ n h=>⟨n,e _ _ h⟩
def Rep.sub (e:∀a,O' a->O a)(r:Rep K H O v d):Rep K H O' v d:=r.mono (λ_ _ h=>h) (λ_ _ n h=>⟨λz=>n (e _ z),h⟩) λ_ _ n h=>⟨λz=>n (e _ z),h⟩
def Reps.sub (e:∀a,O' a->O a)(r:Reps K H O v d):Reps K H O' v d:=r.mono (λ_ _ h=>h) (λ_ _ n h=>⟨λz=>n (e _ z),h⟩) λ_ _ n h=>⟨λz=>n (e _ z),h⟩
theorem Reps.length:∀{vs:List V} {ds:List D},Reps K H O vs ds->vs.length=ds.length
 |_,_,.nil=>rfl
 |_,_,.cons _ t=>by simp[Reps.length t]
theorem Reps.get:∀{vs:List V} {ds:List D} {i:Nat} {d:D},Reps K H O vs ds->ds[i]?=some d->∃v,vs[i]?=some v/\Rep K H O v d
 |_,_,_,_,.nil,e=>by simp at e
 |_,_,0,_,.cons r _,e=>by simp at e;subst e;exact⟨_,rfl,r⟩
 |_,_,i+1,d,.cons _ t,e=>by obtain⟨u,h1,h2⟩:=Reps.get (i:=i) (d:=d) t (by simpa using e);exact⟨u,by simpa using h1,h2⟩
theorem Reps.append:∀{vs ws:List V} {ds es:List D},Reps K H O vs ds->Reps K H O ws es->Reps K H O (vs++ws) (ds++es)
 |_,_,_,_,.nil,s=>s
 |_,_,_,_,.cons r t,s=>.cons r (Reps.append t s)
theorem Reps.take:∀{vs:List V} {ds:List D} (n:Nat),Reps K H O vs ds->Reps K H O (vs.take n) (ds.take n)
 |_,_,0,_=>.nil
 |_,_,_+1,.nil=>.nil
 |_,_,n+1,.cons r t=>.cons r (Reps.take n t)
theorem Reps.drop:∀{vs:List V} {ds:List D} (n:Nat),Reps K H O vs ds->Reps K H O (vs.drop n) (ds.drop n)
 |_,_,0,r=>r
 |_,_,_+1,.nil=>.nil
 |_,_,n+1,.cons _ t=>Reps.drop n t
theorem Reps.set (r:Rep K H O v d):∀{vs:List V} {ds:List D} (i:Nat),Reps K H O vs ds->Reps K H O (vs.set i v) (ds.set i d)
 |_,_,_,.nil=>.nil
 |_,_,0,.cons _ t=>.cons r t
 |_,_,i+1,.cons q t=>.cons q (Reps.set r i t)
def Reps.dropLast (r:Reps K H O vs ds):Reps K H O vs.dropLast ds.dropLast:=by rw[aDX,aDX,r.length];exact r.take _
def Reps.snoc (r:Reps K H O vs ds)(h:Rep K H O v d):Reps K H O (vs++[v]) (ds++[d]):=r.append (.cons h .nil)
theorem Reps.ints:∀(ns:List Int),Reps K H O (ns.map V.int) (ns.map D.int)
 |[]=>.nil
 |_::ns=>.cons .int (Reps.ints ns)
theorem Reps.reverse:∀{vs:List V} {ds:List D},Reps K H O vs ds->Reps K H O vs.reverse ds.reverse
 |_,_,.nil=>.nil
 |_,_,.cons r t=>by rw[aAP,aAP];exact(Reps.reverse t).snoc r
end
def Kp (H:Hp)(O:Addr->Prop)(H':Hp)(O':Addr->Prop):Prop:=∀b o,H b=some o->¬O b->H' b=some o/\¬O' b
section
def Kp.refl (H:Hp)(O:Addr->Prop):Kp H O H O:=λ_ _ h n=>⟨h,n⟩
def Kp.of (s:Same H H'):Kp H O H' O:=λb o h n=>⟨s b o h,n⟩
def Kp.trans (a:Kp H O H' O')(b:Kp H' O' H'' O''):Kp H O H'' O'':=λc o h n=>let⟨h1,n1⟩:=a c o h n;b c o h1 n1
end
class Tabs where
 tbs:List (Addr×List (Pos×Str))
inductive Sl where
 |no|v (d:D)|o (xs:List D)|x (C:Value)|c (m:List D->R D) (φ:Hp->(Addr->Prop)->Addr->Prop)|d (kvs:List (D×D))
abbrev Ev:=List Sl
def Mt:HO->Prop
 |.lst _=>True
 |.dK _=>True
 |.dT _=>True
 |.ext _=>True
 |_=>False
def nZ (K:PySem.W.Frag)(H:Hp)(O:Addr->Prop)(es:List DictEntry)(kvs:List (D×D)):Prop:=
 Paired (λ(e:DictEntry) (p:D×D)=>(∃a,e.key=.ref a/\Rep K H O (.ref a) p.1)/\(∃v,RelV v e.val/\Rep K H O v p.2)/\e.hash=n8 p.1/\Q9 7 p.1=true) es kvs
def IT (a:Addr)(o:Obj)(es:List DictEntry):Prop:=(a==sysModules)=false/\o.ExactDict/\∃ea ep,o.data=.dict ea ep/\ea.toList=es
def GU:Sl->Prop
 |.o _=>True
 |.d _=>True
 |_=>False
section
variable(K:PySem.W.Frag) (H9 H:Hp) (O:Addr->Prop)
def aN (x:Option (Option V)):Sl->Prop
 |.no=>True
 |.v d=>∃v,x=some (some v)/\Rep K H O v d
 |.o xs=>∃a vs,x=some (some (V.ref a))/\O a/\H9 a=none/\H a=some (.lst vs)/\Reps K H O vs xs
 |.x C=>∃a o,x=some (some (V.ref a))/\H a=some (.frz o (.own a))/\o.cls=C
 |.c m φ=>∃a,x=some (some (V.ref a))/\∀H2 O2,Kp H O H2 O2->φ H2 O2 a
 |.d kvs=>∃a o es,x=some (some (V.ref a))/\O a/\H9 a=none/\H a=some (.ext λh=>h.get? a=some o)/\IT a o es/\nZ K H O es kvs/\(kvs.map (·.1)).Nodup
end
variable [Tabs]
def Tb (H:Hp):Prop:=∀p∈Tabs.tbs,H p.1=some (.tbl p.2)
structure EnvOk (K:PySem.W.Frag)(H9:Hp)(O0:Addr->Prop)(H:Hp)(O:Addr->Prop)(σ:St)(ρ:Ev):Prop where
 len:σ.length=ρ.length
 same:Same H9 H
 sub:∀a,O0 a->O a
 trk:∀a,O a->∃o,H a=some o/\Mt o
 trk0:∀a,O0 a->∃o,H9 a=some o
 tab:Tb H
 slot:∀(i:Nat) (sl:Sl),ρ[i]?=some sl->aN K H9 H O σ[i]? sl
 inj:∀(i j:Nat) (x y:Sl) (a:Addr),ρ[i]?=some x->ρ[j]?=some y->GU x->GU y->σ[i]?=some (some (V.ref a))->σ[j]?=some (some (V.ref a))->i=j
section
variable{K:PySem.W.Frag} {O0 O O':Addr->Prop}
def Tb.same (h:Tb H)(s:Same H H'):Tb H':=λp hp=>s _ _ (h p hp)
def EnvOk.val (E:EnvOk K H9 O0 H O σ ρ)(i:Nat)(d:D)(h:ρ[i]?=some (Sl.v d)):∃v,σ[i]?=some (some v)/\Rep K H O v d:=E.slot i _ h
def EnvOk.own (E:EnvOk K H9 O0 H O σ ρ)(i:Nat)(xs:List D)(h:ρ[i]?=some (Sl.o xs)):∃a vs,σ[i]?=some (some (V.ref a))/\O a/\H9 a=none/\H a=some (.lst vs)/\Reps K H O vs xs:=E.slot i _ h
def nZ.mono (f:∀{v:V} {d:D},Rep K H O v d->Rep K H' O' v d):∀{kvs:List (D×D)},nZ K H O es kvs->nZ K H' O' es kvs:=λ{_} r=>Paired.af5 r λ_ _ ⟨⟨v,h1,h2⟩,⟨w,h3,h4⟩,h5⟩=>⟨⟨v,h1,f h2⟩,⟨w,h3,f h4⟩,h5⟩
def aN.move (h:aN K H9 H O x sl)(hT:∀a xs,T2 K H a xs->T2 K H' a xs)(hL:∀a xs,¬O a->L7 K H a xs->¬O' a/\L7 K H' a xs)(hF:∀a o u,H a=some (.frz o u)->H' a=some (.frz o u))(hk:Kp H O H' O')(ho:GU sl->∀a o,x=some (some (V.ref a))->O a->H a=some o->O' a/\H' a=some o):aN K H9 H' O' x sl:=by
 have hD:∀a φ,¬O a->H a=some (.ext φ)->¬O' a/\H' a=some (.ext φ):=λa φ n h=>⟨(hk a _ h n).2,(hk a _ h n).1⟩;cases sl with
 |no=>trivial
 |v d=>obtain⟨v,h1,h2⟩:=h;exact⟨v,h1,h2.mono hT hL hD⟩
 |o xs=>obtain⟨a,vs,h1,h2,h3,h4,h5⟩:=h;obtain⟨h6,h7⟩:=ho trivial a _ h1 h2 h4;exact⟨a,vs,h1,h6,h3,h7,h5.mono hT hL hD⟩
 |x C=>obtain⟨a,o,h1,h2,h3⟩:=h;exact⟨a,o,h1,hF _ _ _ h2,h3⟩
 |c m φ=>obtain⟨a,h1,h2⟩:=h;exact⟨a,h1,λH2 O2 k=>h2 H2 O2 (hk.trans k)⟩
 |d kvs=>obtain⟨a,o,es,h1,h2,h3,h4,h5,h6⟩:=h;obtain⟨h7,h8⟩:=ho trivial a _ h1 h2 h4;exact⟨a,o,es,h1,h7,h3,h8,h5,h6.1.mono λr=>r.mono hT hL hD,h6.2⟩
def aN.grow (h:aN K H9 H O x sl)(e:Same H H'):aN K H9 H' O x sl:=
 h.move (λ_ _ q=>e.tup q) (λ_ _ n q=>⟨n,e.seq q⟩) (λ_ _ _ q=>e _ _ q) (Kp.of e) λ_ _ _ _ q1 q2=>⟨q1,e _ _ q2⟩
def EnvOk.grow (E:EnvOk K H9 O0 H O σ ρ)(e:Same H H'):EnvOk K H9 O0 H' O σ ρ where
 len:=E.len
 same:=E.same.trans e
 sub:=E.sub
 trk:=λa h=>let⟨o,q,m⟩:=E.trk a h;⟨o,e a o q,m⟩
 trk0:=E.trk0
 tab:=E.tab.same e
 slot:=λi sl h=>(E.slot i sl h).grow e
 inj:=E.inj
def EnvOk.fresh (E:EnvOk K H9 O0 H O σ ρ)(h:H p=none):¬O p:=λz=>by obtain⟨o,q,_⟩:=E.trk p z;rw[h]at q;cases q
def v5 {α:Type}{l:List α}{i j:Nat}{x:α}(h:i≠j):(l.set i x)[j]?=l[j]?:=aCo h
def A0 {α:Type}{l:List α}{i:Nat}{x y:α}(h:(l.set i x)[i]?=some y):y=x/\i<l.length:=by
 have hl:i<l.length:=by have:=(aAC.mp h).1;simpa using this
 rw[aBH hl]at h;exact⟨(Option.some.inj h).symm,hl⟩
def EnvOk.put (E:EnvOk K H9 O0 H O σ ρ){v:Option V}{sl:Sl}(i:Nat)(no:¬GU sl)(r:aN K H9 H O (some v) sl):EnvOk K H9 O0 H O (σ.set i v) (ρ.set i sl)where
 len:=by simpa using E.len
 same:=E.same
 sub:=E.sub
 trk:=E.trk
 trk0:=E.trk0
 tab:=E.tab
 slot:=λj s h=>by
  by_cases hj:i=j
  ·subst hj;obtain⟨e,hl⟩:=A0 h;subst e;rw[aBH (by rw[E.len];exact hl)];exact r
  ·rw[v5 hj]at h⊢;exact E.slot j s h
 inj:=λj k x y a h1 h2 o1 o2 h3 h4=>by
  have ne:∀(l:Nat) (z:Sl),(ρ.set i sl)[l]?=some z->GU z->i≠l:=λl z q o e=>by subst e;obtain⟨e,_⟩:=A0 q;subst e;exact no o
  have n1:=ne j x h1 o1;have n2:=ne k y h2 o2;rw[v5 n1]at h1 h3;rw[v5 n2]at h2 h4;exact E.inj j k x y a h1 h2 o1 o2 h3 h4
def EnvOk.set (E:EnvOk K H9 O0 H O σ ρ)(i:Nat)(r:Rep K H O v d):EnvOk K H9 O0 H O (σ.set i (some v)) (ρ.set i (.v d)):=E.put i (λz=>z) ⟨v,rfl,r⟩
def aN.at_ (h:aN K H9 H O x sl)(o:GU sl):∃a u,x=some (some (V.ref a))/\O a/\H9 a=none/\H a=some u/\Mt u:=by
 cases sl with
 |o xs=>obtain⟨a,vs,h1,h2,h3,h4,_⟩:=h;exact⟨a,_,h1,h2,h3,h4,trivial⟩
 |d kvs=>obtain⟨a,u,es,h1,h2,h3,h4,_⟩:=h;exact⟨a,_,h1,h2,h3,h4,trivial⟩
 |_=>exact o.elim
def EnvOk.af3 (E:EnvOk K H9 O0 H O σ ρ){a:Addr}{sl:Sl}(i:Nat)(hn:∀(j:Nat) (y:Sl),i≠j->ρ[j]?=some y->GU y->σ[j]?≠some (some (V.ref a)))(r:aN K H9 H O (some (some (V.ref a))) sl):
  EnvOk K H9 O0 H O (σ.set i (some (V.ref a))) (ρ.set i sl)where
 len:=by simpa using E.len
 same:=E.same
 sub:=E.sub
 trk:=E.trk
 trk0:=E.trk0
 tab:=E.tab
 slot:=λj s h=>by
  by_cases hj:i=j
  ·subst hj;obtain⟨e,hl⟩:=A0 h;subst e;rw[aBH (by rw[E.len];exact hl)];exact r
  ·rw[v5 hj]at h⊢;exact E.slot j s h
 inj:=λj k x y b h1 h2 o1 o2 h3 h4=>by
  have at_:∀(l:Nat),i=l->(σ.set i<|some<|V.ref a)[l]?=some (some<|V.ref b)->b=a:=λl e q=>by subst e;obtain⟨e,_⟩:=A0 q;injection e with e;injection e
  by_cases hj:i=j
  ·by_cases hk:i=k
   ·exact hj.symm.trans hk
   ·exfalso;have eb:=at_ j hj h3;subst eb;rw[v5 hk]at h2 h4;exact hn k y hk h2 o2 h4
  ·by_cases hk:i=k
   ·exfalso;have eb:=at_ k hk h4;subst eb;rw[v5 hj]at h1 h3;exact hn j x hj h1 o1 h3
   ·rw[v5 hj]at h1 h3;rw[v5 hk]at h2 h4;exact E.inj j k x y b h1 h2 o1 o2 h3 h4
def j7 (h:H p=none)(o:HO):Same H (upd H p o):=λb u q=>by rw[k8 (t4 q h)];exact q
def EnvOk.ab9 (E:EnvOk K H9 O0 H O σ ρ)(h:H a=none)(hk:K.lookup a=none)(m:Mt u):EnvOk K H9 O0 (upd H a u) (λb=>O b\/b=a) σ ρ:=by
 have s:=j7 h u;have ne:∀b xs,L7 K H b xs->b≠a:=λb xs q z=>by
  subst z;rcases q with(q|⟨o,q⟩)|⟨o,_,_,q,_⟩
  ·rw[h]at q;cases q
  ·rw[h]at q;cases q
  ·rw[hk]at q;cases q
 refine⟨E.len,E.same.trans s,λb z=>.inl (E.sub b z),λb z=>?_,E.trk0,E.tab.same s,λi sl e=>?_,E.inj⟩
 ·rcases z with z|z
  ·obtain⟨o,q,m⟩:=E.trk b z;exact⟨o,s b o q,m⟩
  ·subst z;exact⟨_,j4,m⟩
 ·exact(E.slot i sl e).move (λ_ _ q=>s.tup q) (λb xs n q=>⟨λz=>z.elim n (ne b xs q),s.seq q⟩) (λ_ _ _ q=>s _ _ q) (λb o hb n=>⟨s b o hb,λz=>z.elim n λe=>by subst e;rw[h]at hb;cases hb⟩) λ_ b o _ q1 q2=>⟨.inl q1,s _ _ q2⟩
def YE (h:H a=none)(hk:K.lookup a=none)(q:L7 K H b xs):b≠a:=λz=>by
 subst z;rcases q with(q|⟨o,q⟩)|⟨o,_,_,q,_⟩
 ·rw[h]at q;cases q
 ·rw[h]at q;cases q
 ·rw[hk]at q;cases q
def Reps.ab9 (h:H a=none)(hk:K.lookup a=none)(r:Reps K H O v d):Reps K (upd H a u) (λb=>O b\/b=a) v d:=
 r.mono (λ_ _ q=>(j7 h u).tup q) (λb xs n q=>⟨λz=>z.elim n (YE h hk q),(j7 h u).seq q⟩) λb φ n q=>⟨λz=>z.elim n (t4 q h),j7 h u _ _ q⟩
def EnvOk.ad6 (E:EnvOk K H9 O0 H O σ ρ)(i:Nat)(h:H a=none)(hk:K.lookup a=none)(m:Mt u)(r:H9 a=none->aN K H9 (upd H a u) (λb=>O b\/b=a) (some (some (V.ref a))) sl):
  EnvOk K H9 O0 (upd H a u) (λb=>O b\/b=a) (σ.set i (some (.ref a))) (ρ.set i sl):=by
 have h0:H9 a=none:=by
  cases e:H9 a with
  |none=>rfl
  |some o=>have:=E.same a o e;rw[h]at this;cases this
 refine(E.ab9 h hk m).af3 i (λj y _ e o q=>?_) (r h0);obtain⟨b,w,p1,_,_,p4,_⟩:=(E.slot j y e).at_ o;rw[q]at p1;injection p1 with p1;injection p1 with p1;injection p1 with p1;subst p1;rw[h]at p4;cases p4
def sR (h:H a=some u)(m:Mt u)(q:T2 K H b xs):T2 K (upd H a u') b xs:=by
 have ne:∀w,H b=some w->¬Mt w->b≠a:=λw e n z=>by subst z;rw[h]at e;cases e;exact n m
 rcases q with(q|⟨o,q⟩)|q
 ·exact .inl (.inl (by rw[k8 (ne _ q λz=>z)];exact q))
 ·exact .inl (.inr ⟨o,by rw[k8 (ne _ q λz=>z)];exact q⟩)
 ·exact .inr q
def uT (hO:O a)(n:¬O b)(q:L7 K H b xs):L7 K (upd H a u') b xs:=by
 have ne:b≠a:=λz=>by subst z;exact n hO
 rcases q with(q|⟨o,q⟩)|q
 ·exact .inl (.inl (by rw[k8 ne];exact q))
 ·exact .inl (.inr ⟨o,by rw[k8 ne];exact q⟩)
 ·exact .inr q
def Rep.upd (h:H a=some u)(m:Mt u)(hO:O a)(r:Rep K H O v d):Rep K (upd H a u') O v d:=r.mono (λ_ _ q=>sR h m q) (λ_ _ n q=>⟨n,uT hO n q⟩) λb _ n q=>⟨n,by rw[k8 (λz=>n (by rw[z];exact hO))];exact q⟩
def Reps.upd (h:H a=some u)(m:Mt u)(hO:O a)(r:Reps K H O v d):Reps K (upd H a u') O v d:=r.mono (λ_ _ q=>sR h m q) (λ_ _ n q=>⟨n,uT hO n q⟩) λb _ n q=>⟨n,by rw[k8 (λz=>n (by rw[z];exact hO))];exact q⟩
def EnvOk.ad7 {i:Nat}{sl sl':Sl}{a:Addr}{u u':HO}(E:EnvOk K H9 O0 H O σ ρ)(e:ρ[i]?=some sl)(ow:GU sl)(h1:σ[i]?=some (some (V.ref a)))(hu:H a=some u)(m':Mt u')(ow':GU sl')
  (r:O a->H9 a=none->Mt u->aN K H9 (upd H a u') O (some (some (V.ref a))) sl'):EnvOk K H9 O0 (upd H a u') O σ (ρ.set i sl')/\Kp H O (upd H a u') O:=by
 obtain⟨b,w,p1,p2,p3,p4,m⟩:=(E.slot i sl e).at_ ow;rw[h1]at p1;injection p1 with p1;injection p1 with p1;injection p1 with p1;subst p1;rw[hu]at p4;cases p4;have kp:Kp H O (upd H a u') O:=λb o hb n=>⟨by rw[k8 (λz=>by subst z;exact n p2)];exact hb,n⟩;have nf:∀b w,H b=some w->¬Mt w->upd H a u' b=some w:=λb w q n=>by rw[k8 (λz=>by subst z;rw[hu]at q;cases q;exact n m)];exact q
 refine⟨⟨by simpa using E.len,λb o q=>?_,E.sub,λb z=>?_,E.trk0,λp hp=>nf _ _ (E.tab p hp) λz=>z,λj s h=>?_,λj k x y b q1 q2 o1 o2 q3 q4=>?_⟩,kp⟩
 ·rw[k8 (λz=>by subst z;rw[p3]at q;cases q)];exact E.same b o q
 ·by_cases hb:b=a
  ·subst hb;exact⟨_,j4,m'⟩
  ·obtain⟨o,q,m⟩:=E.trk b z;exact⟨o,by rw[k8 hb];exact q,m⟩
 ·by_cases hj:i=j
  ·subst hj;obtain⟨e',_⟩:=A0 h;subst e';rw[h1];exact r p2 p3 m
  ·rw[v5 hj]at h;refine(E.slot j s h).move (λ_ _ q=>sR hu m q) (λ_ _ n q=>⟨n,uT p2 n q⟩) (λb o w q=>nf _ _ q λz=>z) kp λo b w q1 q2 q3=>⟨q2,?_⟩;rw[k8 (λz=>by subst z;exact hj (E.inj i j sl s b e h ow o h1 q1))];exact q3
 ·have fin:∀l z,(ρ.set i sl')[l]?=some z->GU z->∃z',ρ[l]?=some z'/\GU z':=λl z q o=>by
   by_cases hl:i=l
   ·subst hl;exact⟨sl,e,ow⟩
   ·rw[v5 hl]at q;exact⟨z,q,o⟩
  obtain⟨x',u1,o1'⟩:=fin j x q1 o1;obtain⟨y',u2,o2'⟩:=fin k y q2 o2;exact E.inj j k x' y' b u1 u2 o1' o2' q3 q4
def EnvOk.ae5 {i:Nat}{sl sl':Sl}{a:Addr}(E:EnvOk K H9 O0 H O σ ρ)(e:ρ[i]?=some sl)(ow:GU sl)(h1:σ[i]?=some (some (V.ref a)))(no:¬GU sl')(r:aN K H9 H (λb=>O b/\b≠a) (some (some (V.ref a))) sl'):
  EnvOk K H9 O0 H (λb=>O b/\b≠a) σ (ρ.set i sl'):=by
 obtain⟨b,w,p1,p2,p3,p4,m⟩:=(E.slot i sl e).at_ ow;rw[h1]at p1;injection p1 with p1;injection p1 with p1;injection p1 with p1;subst p1;have sub:∀b,(O b/\b≠a)->O b:=λb z=>z.1;refine⟨by simpa using E.len,E.same,λb z=>⟨E.sub b z,λq=>?_⟩,λb z=>E.trk b z.1,E.trk0,E.tab,λj s h=>?_,λj k x y b q1 q2 o1 o2 q3 q4=>?_⟩
 ·subst q;obtain⟨o,q⟩:=E.trk0 b z;rw[p3]at q;cases q
 ·by_cases hj:i=j
  ·subst hj;obtain⟨e',_⟩:=A0 h;subst e';rw[h1];exact r
  ·rw[v5 hj]at h;refine(E.slot j s h).move (λ_ _ q=>q) (λ_ _ n q=>⟨λz=>n z.1,q⟩) (λ_ _ _ q=>q) (λb o hb n=>⟨hb,λz=>n z.1⟩) λo b w q1 q2 q3=>⟨⟨q2,λz=>?_⟩,q3⟩;subst z;exact hj (E.inj i j sl s b e h ow o h1 q1)
 ·have n1:i≠j:=λz=>by subst z;obtain⟨e',_⟩:=A0 q1;subst e';exact no o1
  have n2:i≠k:=λz=>by subst z;obtain⟨e',_⟩:=A0 q2;subst e';exact no o2
  rw[v5 n1]at q1;rw[v5 n2]at q2;exact E.inj j k x y b q1 q2 o1 o2 q3 q4
end
def XW (X:Cx)(e:Str)(H:Hp):Prop:=False
def RC (X:Cx)(H:Hp)(O:Addr->Prop)(r:R D)(Q:VK):Prop:=match r with
 |.ok d=>∀v H',Same H H'->Rep X.K H' O v d->Q v H'
 |.ex e=>∀H',Same H H'->XW X e H'
 |.bad=>False
def A5 (K:PySem.W.Frag)(H:Hp)(O:Addr->Prop)(v:V)(d:D):Prop:=Rep K H O v d\/∃a vs ds,v=.ref a/\d=.lst ds/\L7 K H a vs/\Reps K H O vs ds
def ZO (X:Cx)(H:Hp)(O:Addr->Prop)(r:R D)(Q:VK):Prop:=match r with
 |.ok d=>∀v H',Same H H'->A5 X.K H' O v d->Q v H'
 |.ex e=>∀H',Same H H'->XW X e H'
 |.bad=>False
def DO (X:Cx)(H:Hp)(r:R Bool)(Q:Bool->Hp->Prop):Prop:=match r with
 |.ok b=>∀H',Same H H'->Q b H'
 |.ex e=>∀H',Same H H'->XW X e H'
 |.bad=>False
def IE (X:Cx)(H:Hp)(O:Addr->Prop)(r:R (List D))(Q:List V->Hp->Prop):Prop:=match r with
 |.ok ds=>∀vs H',Same H H'->Reps X.K H' O vs ds->Q vs H'
 |.ex e=>∀H',Same H H'->XW X e H'
 |.bad=>False
def KE (X:Cx)(H:Hp)(O:Addr->Prop)(r:R (List D))(Q:List V->Hp->Prop):Prop:=match r with
 |.ok ds=>∀vs H',Same H H'->Paired (A5 X.K H' O) vs ds->Q vs H'
 |.ex e=>∀H',Same H H'->XW X e H'
 |.bad=>False
def tD (X:Cx)(f:Ev->R D):TE:=λσ H Q=>∃H9 O0 O ρ,EnvOk X.K H9 O0 H O σ ρ/\RC X H O (f ρ) Q
def vz (X:Cx)(f:Ev->R D):TE:=λσ H Q=>∃H9 O0 O ρ,EnvOk X.K H9 O0 H O σ ρ/\ZO X H O (f ρ) Q
def tDT (X:Cx)(f:Ev->R Bool):TT:=λσ H Q=>∃H9 O0 O ρ,EnvOk X.K H9 O0 H O σ ρ/\DO X H (f ρ) Q
def tDs (X:Cx)(f:Ev->R (List D)):TA:=λσ H Q=>∃H9 O0 O ρ,EnvOk X.K H9 O0 H O σ ρ/\IE X H O (f ρ) Q
def zk (X:Cx)(f:Ev->R (List D)):TA:=λσ H Q=>∃H9 O0 O ρ,EnvOk X.K H9 O0 H O σ ρ/\KE X H O (f ρ) Q
def PD (X:Cx)(e:Expr)(f:Ev->R D):Prop:=PE X e (tD X f)
def PB (X:Cx)(e:Expr)(f:Ev->R D):Prop:=PE X e (vz X f)
def IQ (X:Cx)(e:Expr)(f:Ev->R Bool):Prop:=PT X e (tDT X f)
def IN (X:Cx)(es:List Expr)(f:Ev->R (List D)):Prop:=PA X es (tDs X f)
def YR (X:Cx)(es:List Expr)(f:Ev->R (List D)):Prop:=PA X es (zk X f)
def QE {r:Hp->(Addr->Prop)->Ev->VK->Prop}(h:PE X e t)(i:∀σ H Q H9 O0 O ρ,EnvOk X.K H9 O0 H O σ ρ->r H O ρ Q->t σ H Q):PE X e λσ H Q=>∃H9 O0 O ρ,EnvOk X.K H9 O0 H O σ ρ/\r H O ρ Q:=λpins s σ H Q I q=>h pins s σ H Q I (let⟨H9,O0,O,ρ,E,q⟩:=q;i σ H Q H9 O0 O ρ E q)
def ptI {r:Hp->(Addr->Prop)->Ev->(Bool->Hp->Prop)->Prop}(h:PT X e t)(i:∀σ H Q H9 O0 O ρ,EnvOk X.K H9 O0 H O σ ρ->r H O ρ Q->t σ H Q):PT X e λσ H Q=>∃H9 O0 O ρ,EnvOk X.K H9 O0 H O σ ρ/\r H O ρ Q:=λpins s σ H Q I q=>h pins s σ H Q I (let⟨H9,O0,O,ρ,E,q⟩:=q;i σ H Q H9 O0 O ρ E q)
def nk {r:Hp->(Addr->Prop)->Ev->(List V->Hp->Prop)->Prop}(h:PA X es t)(i:∀σ H Q H9 O0 O ρ,EnvOk X.K H9 O0 H O σ ρ->r H O ρ Q->t σ H Q):PA X es λσ H Q=>∃H9 O0 O ρ,EnvOk X.K H9 O0 H O σ ρ/\r H O ρ Q:=λpos pins s σ H Q I q=>h pos pins s σ H Q I (let⟨H9,O0,O,ρ,E,q⟩:=q;i σ H Q H9 O0 O ρ E q)
def uJ {β:Type}{r:Hp->(Addr->Prop)->Ev->β->Prop}{G:List (Addr×Obj)->Shared->St->Hp->β->Prop}(h:∀pins s σ H Q,Inv X pins σ H s->∀H9 O0 O ρ,EnvOk X.K H9 O0 H O σ ρ->r H O ρ Q->G pins s σ H Q)(pins s σ H Q)(I:Inv X pins σ H s)(q:∃H9 O0 O ρ,EnvOk X.K H9 O0 H O σ ρ/\r H O ρ Q):G pins s σ H Q:=let⟨H9,O0,O,ρ,E,q⟩:=q;h pins s σ H Q I H9 O0 O ρ E q
def PD.pb (h:PD X e f):PB X e f:=QE h λσ H Q H9 O0 O ρ E q=>⟨H9,O0,O,ρ,E,by
 unfold RC ZO at*
 cases e:f ρ with
 |ok d=>rw[e]at q;exactλv H' s r=>q v H' s (.inl r)
 |ex x=>rw[e]at q;exact q
 |bad=>rw[e]at q;exact q⟩
def RC.seq {O:Addr->Prop}(h:RC X H O (r.bind g) Q):
  RC X H O r λv H1=>∃d,r=.ok d/\Same H H1/\Rep X.K H1 O v d/\RC X H1 O (g d) Q:=by
 cases r with
 |ok d=>
  intro v H1 s1 r1;refine⟨d,rfl,s1,r1,?_⟩;have h':RC X H O (g d) Q:=h;cases e:g d with
  |ok d'=>rw[e]at h';exactλw H2 s2 r2=>h' w H2 (s1.trans s2) r2
  |ex x=>rw[e]at h';exactλH2 s2=>h' H2 (s1.trans s2)
  |bad=>rw[e]at h';exact h'
 |ex x=>exact h
 |bad=>exact h
def ZO.seq {O:Addr->Prop}(h:RC X H O (r.bind g) Q):
  ZO X H O r λv H1=>∃d,r=.ok d/\Same H H1/\A5 X.K H1 O v d/\RC X H1 O (g d) Q:=by
 cases r with
 |ok d=>
  intro v H1 s1 r1;refine⟨d,rfl,s1,r1,?_⟩;have h':RC X H O (g d) Q:=h;cases e:g d with
  |ok d'=>rw[e]at h';exactλw H2 s2 r2=>h' w H2 (s1.trans s2) r2
  |ex x=>rw[e]at h';exactλH2 s2=>h' H2 (s1.trans s2)
  |bad=>rw[e]at h';exact h'
 |ex x=>exact h
 |bad=>exact h
def RC.grow {O:Addr->Prop}(h:RC X H O r Q)(s1:Same H H1):RC X H1 O r Q:=by
 cases r with
 |ok d=>exactλw H2 s2 r2=>h w H2 (s1.trans s2) r2
 |ex x=>exactλH2 s2=>h H2 (s1.trans s2)
 |bad=>exact h
section
variable{X:Cx}
def A5.same (e:Same H H')(r:A5 X.K H O v d):A5 X.K H' O v d:=by
 rcases r with r|⟨a,vs,ds,h1,h2,h3,h4⟩
 ·exact .inl (r.same e)
 ·exact .inr ⟨a,vs,ds,h1,h2,e.seq h3,h4.same e⟩
def A5.aa5 {K:PySem.W.Frag}{ds:List D}(r:A5 K H O v (.lst ds)):∃a vs,v=.ref a/\L7 K H a vs/\Reps K H O vs ds:=by
 rcases r with r|⟨a,vs,es,h1,h2,h3,h4⟩
 ·cases r with|lst h n r=>exact⟨_,_,rfl,h,r⟩
 ·injection h2 with h2;subst h2;exact⟨a,vs,h1,h3,h4⟩
def A5.ag0 {K:PySem.W.Frag}(r:A5 K H O v .dct):∃a o,v=.ref a/\H a=some (.ext λh=>h.get? a=some o)/\o.ExactDict:=by
 rcases r with r|⟨a,vs,es,h1,h2,h3,h4⟩
 ·cases r with|dct h x n=>exact⟨_,_,rfl,h,x⟩
 ·cases h2
def A5.tupI {K:PySem.W.Frag}{ds:List D}(r:A5 K H O v (.tup ds)):∃a vs,v=.ref a/\T2 K H a vs/\Reps K H O vs ds:=by
 rcases r with r|⟨a,vs,es,h1,h2,h3,h4⟩
 ·cases r with|tup h r=>exact⟨_,_,rfl,h,r⟩
 ·cases h2
def A5.aa6 {K:PySem.W.Frag}{i:Int}(r:A5 K H O v (.int i)):v=.int i:=by
 rcases r with r|⟨a,vs,es,h1,h2,h3,h4⟩
 ·cases r;rfl
 ·cases h2
def A5.blI {K:PySem.W.Frag}{i:Bool}(r:A5 K H O v (.bl i)):v=.bl i:=by
 rcases r with r|⟨a,vs,es,h1,h2,h3,h4⟩
 ·cases r;rfl
 ·cases h2
def A5.ac2 {K:PySem.W.Frag}(r:A5 K H O v .non):v=.non:=by
 rcases r with r|⟨a,vs,es,h1,h2,h3,h4⟩
 ·cases r;rfl
 ·cases h2
def A5.ac9 {K:PySem.W.Frag}{i:Str}(r:A5 K H O v (.str i)):v=.str i:=by
 rcases r with r|⟨a,vs,es,h1,h2,h3,h4⟩
 ·cases r;rfl
 ·cases h2
end
def W9 (i:Nat)(ρ:Ev):R D:=match ρ[i]? with
 |some (.v d)=>.ok d
 |_=>.bad
def pI (i:Nat)(ρ:Ev):R D:=match ρ[i]? with
 |some (.v d)=>.ok d
 |some (.o xs)=>.ok (.lst xs)
 |_=>.bad
section
def d6 (i:Nat)(hN:X.N[i]?=some x:=by rfl)(hv:BI X.env.scope x:=by first|exact aCN rfl|exact aBS (aCN rfl)|exact aBS (aBS rfl))(hd:(x==("__debug__":Str))=false:=by decide)(eu:(x==("__classdict__":Str))=false:=by decide):PD X (.Name x pos) (W9 i):=QE (Q7 hN hv hd eu) λσ H Q H9 O0 O ρ E q=>by
 unfold W9 at q;cases e:ρ[i]? with
 |none=>rw[e]at q;exact q.elim
 |some sl=>
  rw[e]at q;cases sl with
  |no=>exact q.elim
  |x C=>exact q.elim
  |c m φ=>exact q.elim
  |d kvs=>exact q.elim
  |o xs=>exact q.elim
  |v d=>obtain⟨v,h1,h2⟩:=E.val i d e;exact⟨v,h1,q v H (Same.refl H) h2⟩
def b9 (i:Nat)(hN:X.N[i]?=some x:=by rfl)(hv:BI X.env.scope x:=by first|exact aCN rfl|exact aBS (aCN rfl)|exact aBS (aBS rfl))(hd:(x==("__debug__":Str))=false:=by decide)(eu:(x==("__classdict__":Str))=false:=by decide):PB X (.Name x pos) (pI i):=QE (Q7 hN hv hd eu) λσ H Q H9 O0 O ρ E q=>by
 unfold pI at q;cases e:ρ[i]? with
 |none=>rw[e]at q;exact q.elim
 |some sl=>
  rw[e]at q;cases sl with
  |no=>exact q.elim
  |x C=>exact q.elim
  |c m φ=>exact q.elim
  |d kvs=>exact q.elim
  |o xs=>obtain⟨a,vs,h1,h2,h3,h4,h5⟩:=E.own i xs e;exact⟨_,h1,q _ H (Same.refl H) (.inr ⟨a,vs,xs,rfl,rfl,L7.of h4,h5⟩)⟩
  |v d=>obtain⟨v,h1,h2⟩:=E.val i d e;exact⟨v,h1,q v H (Same.refl H) (.inl h2)⟩
def US (d:D)(_:Ev):R D:=.ok d
def uV (h:PE X e (tC v))(r:∀H O,Rep X.K H O v d):PD X e (US d):=QE h λσ H Q H9 O0 O ρ E q=>q v H (Same.refl H) (r H O)
def d4 {j pos}:PD X (.Constant (.int i) j pos) (US (.int i)):=uV VY λ_ _=>.int
def wK {j pos}:PD X (.Constant (.bool i) j pos) (US (.bl i)):=uV fj λ_ _=>.bl
def BS {j pos}:PD X (.Constant .none j pos) (US .non):=uV WJ λ_ _=>.non
def lX (X:Cx)(f:Value->Value->Sem Value)(g:D->D->R D):Prop:=
 ∀(H:Hp) (O:Addr->Prop) (x y:V) (dx dy:D) (Q:VK),(∀p,H p=none->¬O p)->A5 X.K H O x dx->A5 X.K H O y dy->RC X H O (g dx dy) Q->∃r,lS X f r/\r x y H Q
def uq (X:Cx)(O:Addr->Prop)(g:D->D->R D)(Q:VK):V->V->Hp->Prop:=λx y H=>∃dx dy,(∀p,H p=none->¬O p)/\A5 X.K H O x dx/\A5 X.K H O y dy/\RC X H O (g dx dy) Q
def lY {O0 O:Addr->Prop}(E:EnvOk X.K H9 O0 H O σ ρ)(q:RC X H O ((f1 ρ).bind λx=>(f2 ρ).bind λy=>g x y) Q):
  vz X f1 σ H λx H1=>vz X f2 σ H1 λy H2=>uq X O g Q x y H2:=by
 refine⟨H9,O0,O,ρ,E,?_⟩;have h1:=ZO.seq q;revert h1;cases e1:f1 ρ with
 |ok d1=>
  intro h1 x H1 s1 r1;obtain⟨d,e,_,r,h2⟩:=h1 x H1 s1 r1;cases e;have E1:=E.grow s1;refine⟨H9,O0,O,ρ,E1,?_⟩;have h3:=ZO.seq h2;revert h3;cases e2:f2 ρ with
  |ok d2=>intro h3 y H2 s2 r2;obtain⟨d',e,_,r',h4⟩:=h3 y H2 s2 r2;cases e;exact⟨d1,d2,λp hp=>(E1.grow s2).fresh hp,r.same s2,r',h4⟩
  |ex x=>intro h3;exact h3
  |bad=>intro h3;exact h3
 |ex x=>intro h1;exact h1
 |bad=>intro h1;exact h1
def c5 (ho:lX X (binaryOp op) g)(ha:PB X a f1)(hb:PB X b f2):PD X (.BinOp a op b pos) (λρ=>(f1 ρ).bind λx=>(f2 ρ).bind λy=>g x y):=by refine uJ λpins s σ H Q I H9 O0 O ρ E q=>?_;refine wpAny_BinOp (NX ha hb I (lY E q) λv u s2 x y H2 I2 rx ry h=>?_);obtain⟨dx,dy,fr,r1,r2,q⟩:=h;obtain⟨r,hr,hq⟩:=ho H2 O x y dx dy Q fr r1 r2 q;exact hr pins s2 σ H2 x y v u Q I2 rx ry hq
def WO (ho:lX X (compareOp op) g)(ha:PB X a f1)(hb:PB X b f2)(hm:behindInMarks op b=false:=by first|exact NV _|with_unfolding_all rfl):
  PD X (.Compare a [op] [b] pos) (λρ=>(f1 ρ).bind λx=>(f2 ρ).bind λy=>g x y):=by
 refine uJ λpins s σ H Q I H9 O0 O ρ E q=>?_;refine wpAny_Compare1 (NX ha hb I (lY E q) λv u s2 x y H2 I2 rx ry h=>?_) hm;obtain⟨dx,dy,fr,r1,r2,q⟩:=h;obtain⟨r,hr,hq⟩:=ho H2 O x y dx dy Q fr r1 r2 q;exact hr pins s2 σ H2 x y v u Q I2 rx ry hq
def EA:D->R Bool
 |.bl b=>.ok b
 |_=>.bad
def ET {O:Addr->Prop}{Q:Bool->Hp->Prop}(h:DO X H (r.bind EA) Q):RC X H O r λv H1=>∃c,v=.bl c/\Q c H1:=by
 cases r with
 |ok d=>
  cases d with
  |bl b=>intro v H1 s1 r1;cases r1;exact⟨b,rfl,h H1 s1⟩
  |_=>exact(show False from h).elim
 |ex x=>exact h
 |bad=>exact h
def o7 (ho:lX X (compareOp op) g)(ha:PB X a f1)(hb:PB X b f2)(hm:behindInMarks op b=false:=by first|exact NV _|with_unfolding_all rfl):
  IQ X (.Compare a [op] [b] pos) (λρ=>((f1 ρ).bind λx=>(f2 ρ).bind λy=>g x y).bind EA):=by
 refine uJ λpins s σ H Q I H9 O0 O ρ E q=>?_;have q':=ET (O:=O) q;refine wpAny_isTrue_Compare1 (NX ha hb I (lY E q') λv u s2 x y H2 I2 rx ry h=>?_) hm;obtain⟨dx,dy,fr,r1,r2,q⟩:=h;obtain⟨r,hr,hq⟩:=ho H2 O x y dx dy _ fr r1 r2 q;refine D8 (hr pins s2 σ H2 x y v u _ I2 rx ry hq) λc s3 ⟨z,H3,I3,r3,k,e,q3⟩=>?_;subst e;cases r3;exact aBF ⟨H3,I3,q3⟩
def TL (h:PD X e f)(he:∀whole,isTrue e X.env whole=(do let v<-whole;standAt e.pos;holding [v] (truthy v)):=by intro _;rfl):IQ X e (λρ=>(f ρ).bind EA):=by refine ptI (YM h he) λσ H Q H9 O0 O ρ E q=>⟨H9,O0,O,ρ,E,ET q⟩
def DO.seq {Q:Bool->Hp->Prop}(h:DO X H (r.bind g) Q):DO X H r λb H1=>r=.ok b/\Same H H1/\DO X H1 (g b) Q:=by
 cases r with
 |ok d=>
  intro H1 s1;refine⟨rfl,s1,?_⟩;have h':DO X H (g d) Q:=h;cases e:g d with
  |ok d'=>rw[e]at h';exactλH2 s2=>h' H2 (s1.trans s2)
  |ex x=>rw[e]at h';exactλH2 s2=>h' H2 (s1.trans s2)
  |bad=>rw[e]at h';exact h'
 |ex x=>exact h
 |bad=>exact h
def DO.mono {Q Q':Bool->Hp->Prop}(h:DO X H r Q)(i:∀b H1,Q b H1->Q' b H1):DO X H r Q':=by
 cases r with
 |ok d=>exactλH1 s1=>i _ _ (h H1 s1)
 |ex x=>exact h
 |bad=>exact h
def RC.mono {O:Addr->Prop}(h:RC X H O r Q)(i:∀b H1,Q b H1->Q' b H1):RC X H O r Q':=by
 cases r with
 |ok d=>exactλv H1 s1 r1=>i _ _ (h v H1 s1 r1)
 |ex x=>exact h
 |bad=>exact h
def JX (X:Cx)(e:Expr)(f:Ev->R Bool):Prop:=PW X e (tDT X f)
def WB (f g:Ev->R Bool):Ev->R Bool:=λρ=>(f ρ).bind λb=>if b=true then g ρ else .ok false
def orB (f g:Ev->R Bool):Ev->R Bool:=λρ=>(f ρ).bind λb=>if b=true then .ok true else g ρ
variable{rest:List Expr}
def vI (ha:IQ X a f):JX X (.BoolOp .And [a] pos) f:=UA ha
def RW (ha:IQ X a f):JX X (.BoolOp .Or [a] pos) f:=XM ha
def KM (h:PW X e t)(i:∀σ H Q,t' σ H Q->t σ H Q):PW X e t':=λwh pins s σ H Q I q=>h wh pins s σ H Q I (i σ H Q q)
def CA (ha:IQ X a f)(hb:JX X (.BoolOp .And (b::rest) pos) g):JX X (.BoolOp .And (a::b::rest) pos) (WB f g):=
 KM (VZ ha hb) λσ H Q ⟨H9,O0,O,ρ,E,q⟩=>⟨H9,O0,O,ρ,E,DO.mono (DO.seq q) λb H1 ⟨_,s1,h1⟩=>by
  cases b with
  |true=>rw[if_pos rfl];exact⟨H9,O0,O,ρ,E.grow s1,h1⟩
  |false=>rw[if_neg aAT];exact h1 H1 (Same.refl _)⟩
def WM (ha:IQ X a f)(hb:JX X (.BoolOp .Or (b::rest) pos) g):JX X (.BoolOp .Or (a::b::rest) pos) (orB f g):=
 KM (ZV ha hb) λσ H Q ⟨H9,O0,O,ρ,E,q⟩=>⟨H9,O0,O,ρ,E,DO.mono (DO.seq q) λb H1 ⟨_,s1,h1⟩=>by
  cases b with
  |false=>rw[if_neg aAT];exact⟨H9,O0,O,ρ,E.grow s1,h1⟩
  |true=>rw[if_pos rfl];exact h1 H1 (Same.refl _)⟩
def JX.pt (h:JX X e f):IQ X e f:=PW.pt h
def RF:D->R D
 |.int i=>.ok (.int (-i))
 |_=>.bad
def bP {f:Ev->R D}(ha:PD X a f):PD X (.UnaryOp .USub a pos) (λρ=>(f ρ).bind RF):=
 QE (fx YC ha) λσ H Q H9 O0 O ρ E q=>⟨H9,O0,O,ρ,E,by
  refine RC.mono (RC.seq q) λv H1 ⟨d,_,s1,r1,h1⟩=>?_;cases d with
  |int i=>cases r1;exact⟨i,rfl,h1 _ H1 (Same.refl _) .int⟩
  |_=>exact(show False from h1).elim⟩
def IE.seq {H:Hp}{O:Addr->Prop}{r:R (List D)}{g:List D->R D}{Q:VK}(h:RC X H O (r.bind g) Q):
  IE X H O r λv H1=>∃d,r=.ok d/\Same H H1/\Reps X.K H1 O v d/\RC X H1 O (g d) Q:=by
 cases r with
 |ok d=>exactλv H1 s1 r1=>⟨d,rfl,s1,r1,(show RC X H O (g d) Q from h).grow s1⟩
 |ex x=>exact h
 |bad=>exact h
def IE.mono {O:Addr->Prop}{Q Q':List V->Hp->Prop}(h:IE X H O r Q)(i:∀b H1,Q b H1->Q' b H1):IE X H O r Q':=by
 cases r with
 |ok d=>exactλv H1 s1 r1=>i _ _ (h v H1 s1 r1)
 |ex x=>exact h
 |bad=>exact h
def KE.seq {H:Hp}{O:Addr->Prop}{r:R (List D)}{g:List D->R D}{Q:VK}(h:RC X H O (r.bind g) Q):
  KE X H O r λv H1=>∃d,r=.ok d/\Same H H1/\Paired (A5 X.K H1 O) v d/\RC X H1 O (g d) Q:=by
 cases r with
 |ok d=>exactλv H1 s1 r1=>⟨d,rfl,s1,r1,(show RC X H O (g d) Q from h).grow s1⟩
 |ex x=>exact h
 |bad=>exact h
def o8 (f:Ev->R D)(g:Ev->R (List D)):Ev->R (List D):=λρ=>(f ρ).bind λd=>(g ρ).bind λds=>.ok (d::ds)
def P3:Ev->R (List D):=λ_=>.ok []
def q8:IN X [] P3:=nk X1 λσ H Q H9 O0 O ρ E q=>q [] H (Same.refl _) .nil
def f9 {f:Ev->R D}{g:Ev->R (List D)}(ha:PD X e f)(hr:IN X es g)(hs:starEach (e::es) X.env=(false,eval e X.env)::starEach es X.env:=by rfl):IN X (e::es) (o8 f g):=
 nk (J1 ha hr hs) λσ H Q H9 O0 O ρ E q=>⟨H9,O0,O,ρ,E,by
  unfold o8 at q;cases e1:f ρ with
  |ok d=>
   rw[e1]at q;intro v H1 s1 r1;refine⟨H9,O0,O,ρ,E.grow s1,?_⟩;cases e2:g ρ with
   |ok ds=>rw[e2]at q;exactλvs H2 s2 r2=>q (v::vs) H2 (s1.trans s2) (.cons (r1.same s2) r2)
   |ex x=>rw[e2]at q;exactλH2 s2=>q H2 (s1.trans s2)
   |bad=>rw[e2]at q;exact q
  |ex x=>rw[e1]at q;exact q
  |bad=>rw[e1]at q;exact q⟩
def x6:YR X [] P3:=nk X1 λσ H Q H9 O0 O ρ E q=>q [] H (Same.refl _) .nil
def o5 {f:Ev->R D}{g:Ev->R (List D)}(ha:PB X e f)(hr:YR X es g)(hs:starEach (e::es) X.env=(false,eval e X.env)::starEach es X.env:=by rfl):YR X (e::es) (o8 f g):=
 nk (J1 ha hr hs) λσ H Q H9 O0 O ρ E q=>⟨H9,O0,O,ρ,E,by
  unfold o8 at q;cases e1:f ρ with
  |ok d=>
   rw[e1]at q;intro v H1 s1 r1;refine⟨H9,O0,O,ρ,E.grow s1,?_⟩;cases e2:g ρ with
   |ok ds=>rw[e2]at q;exactλvs H2 s2 r2=>q (v::vs) H2 (s1.trans s2) (.cons (r1.same s2) r2)
   |ex x=>rw[e2]at q;exactλH2 s2=>q H2 (s1.trans s2)
   |bad=>rw[e2]at q;exact q
  |ex x=>rw[e1]at q;exact q
  |bad=>rw[e1]at q;exact q⟩
def Y5 (ds:List D):R D:=if ds.length<=sizeLine then .ok (.tup ds)else .bad
def sH (ds:List D):R D:=if ds.length<=sizeLine then .ok (.lst ds)else .bad
def zE {f:Ev->R (List D)}{x1}(h:IN X es f):PD X (.Tuple es x1 pos) (λρ=>(f ρ).bind Y5):=
 QE (WW h) λσ H Q H9 O0 O ρ E q=>⟨H9,O0,O,ρ,E,IE.mono (IE.seq q) λvs H1 ⟨ds,_,s1,r1,h1⟩=>by
  unfold Y5 at h1;split at h1
  ·rename_i hz;exact⟨by rw[r1.length];exact hz,λp hp=>h1 (.ref p) _ (j7 hp _) (.tup (T2.of j4) (r1.same<|j7 hp _))⟩
  ·exact h1.elim⟩
def jQ {f:Ev->R (List D)}(h:IN X es f):PD X (.List es pos) (λρ=>(f ρ).bind sH):=
 QE (KB h) λσ H Q H9 O0 O ρ E q=>⟨H9,O0,O,ρ,E,IE.mono (IE.seq q) λvs H1 ⟨ds,_,s1,r1,h1⟩=>by
  unfold sH at h1;split at h1
  ·rename_i hz;exact⟨by rw[r1.length];exact hz,λp hp=>h1 (.ref p) _ (j7 hp _) (.lst (L7.of j4) ((E.grow s1).fresh hp) (r1.same<|j7 hp _))⟩
  ·exact h1.elim⟩
def Z5 (X:Cx)(f:Value)(g:List D->R D):Prop:=
 ∀(H:Hp) (O:Addr->Prop) (vs:List V) (ds:List D) (Q:VK),(∀p,H p=none->¬O p)->Paired (A5 X.K H O) vs ds->RC X H O (g ds) Q->∃r,rY X f r/\r vs H Q
def U0 {x:Str}{id:String}{p:Pos}{f:Ev->R (List D)}{g:List D->R D}(hc:Z5 X (.builtin id) g)(ha:YR X (e::es) f)(hg:Gl X x:=by rfl)(hm:X.mg x=none:=by assumption)(hv:bootBuiltins x=some (.builtin id):=by decide+kernel)(hn:x≠ "__name__":=by decide)
  (il:(x==("__debug__":Str))=false:=by decide) (he:starEach (e::es) X.env=(false,eval e X.env)::starEach es X.env:=by rfl) (bf:(backTo pos (starEach es X.env)).any (·.1)=false:=by rfl):
  PD X (.Call (.Name x p) (e::es) [] pos) (λρ=>(f ρ).bind g):=by
 refine uJ λpins s σ H Q I H9 O0 O ρ E q=>?_;refine aAM (K9 I hg hm hv ?_ hn il);refine aBq (D8 (ha pos pins s σ H _ I ⟨H9,O0,O,ρ,E,KE.seq q⟩) λus s1 ⟨vs,H1,I1,r1,d,_,sm,r,h⟩=>?_) he bf;obtain⟨r',hr,hq⟩:=hc H1 O vs d Q (λp hp=>(E.grow sm).fresh hp) r h;exact hr pins s1 σ H1 vs us Q I1 r1 hq
def J9 {x:Str}{T:String}{p:Pos}{f:Ev->R (List D)}{g:List D->R D}(hc:Z5 X (.type T) g)(ha:YR X (e::es) f)(hg:Gl X x:=by rfl)(hm:X.mg x=none:=by assumption)(hv:bootBuiltins x=some (.type T):=by decide+kernel)(hn:x≠ "__name__":=by decide)
  (il:(x==("__debug__":Str))=false:=by decide) (he:starEach (e::es) X.env=(false,eval e X.env)::starEach es X.env:=by rfl) (bf:(backTo pos (starEach es X.env)).any (·.1)=false:=by rfl):
  PD X (.Call (.Name x p) (e::es) [] pos) (λρ=>(f ρ).bind g):=by
 refine uJ λpins s σ H Q I H9 O0 O ρ E q=>?_;refine aAM (K9 I hg hm hv ?_ hn il);refine aBb (D8 (ha pos pins s σ H _ I ⟨H9,O0,O,ρ,E,KE.seq q⟩) λus s1 ⟨vs,H1,I1,r1,d,_,sm,r,h⟩=>?_) he bf;obtain⟨r',hr,hq⟩:=hc H1 O vs d Q (λp hp=>(E.grow sm).fresh hp) r h;exact hr pins s1 σ H1 vs us Q I1 r1 hq
end
mutual
def u6:D->D->Bool
 |.non,.non=>true
 |.bl a,.bl b=>a==b
 |.bl a,.int b=>(if a then 1 else 0)==b
 |.int a,.bl b=>a==(if b then 1 else 0)
 |.int a,.int b=>a==b
 |.str a,.str b=>a==b
 |.tup xs,.tup ys=>V9 xs ys
 |.lst xs,.lst ys=>V9 xs ys
 |.dct,.dct=>true
 |_,_=>false
def V9:List D->List D->Bool
 |[],[]=>true
 |x::xs,y::ys=>u6 x y&&V9 xs ys
 |_,_=>false
end
mutual
def B7:D->Nat
 |.tup xs=>B8 xs+1
 |.lst xs=>B8 xs+1
 |.dct=>cLine
 |_=>0
def B8:List D->Nat
 |[]=>0
 |x::xs=>max (B7 x) (B8 xs)
end
mutual
theorem P8:∀d:D,u6 d d=true
 |.non=>by simp[u6]
 |.bl b=>by simp[u6]
 |.int i=>by simp[u6]
 |.str x=>by simp[u6]
 |.tup xs=>by rw[u6];exact jJ xs
 |.lst xs=>by rw[u6];exact jJ xs
 |.dct=>by simp[u6]
theorem jJ:∀ds:List D,V9 ds ds=true
 |[]=>by simp[V9]
 |x::xs=>by rw[V9,P8 x,jJ xs];rfl
end
def lF (xs ys:List D)(j:Nat):Bool:=match xs[j]?,ys[j]? with
 |some a,some b=>u6 a b
 |_,_=>false
theorem fU:∀(xs ys:List D),V9 xs ys=((aBy (min xs.length ys.length)).all (lF xs ys)&&(xs.length==ys.length))
 |[],[]=>by simp[V9]
 |[],_::_=>by simp[V9]
 |_::_,[]=>by simp[V9]
 |x::xs,y::ys=>by
  rw[V9,fU xs ys,aAu,aAu,Nat.succ_min_succ,aFw,aGc,List.all_map];have e1:lF (x::xs) (y::ys) 0=u6 x y:=rfl;have e2:(lF (x::xs) (y::ys)∘Nat.succ)=lF xs ys:=by
   funext j
   simp[lF]
  have e3:(xs.length+1==ys.length+1)=(xs.length==ys.length):=by rw[aDo];simp
  rw[e1,e2,e3,Bool.and_assoc]
theorem tW:∀{xs:List D} {d:D} {j:Nat},xs[j]?=some d->B7 d<=B8 xs
 |[],_,_,h=>by simp at h
 |x::xs,d,0,h=>by simp at h;subst h;rw[B8];exact Nat.le_max_left _ _
 |x::xs,d,j+1,h=>by rw[B8];exact aAo (tW (j:=j) (by simpa using h)) (Nat.le_max_right _ _)
section
def AS {K:PySem.W.Frag}{H:Hp}{O:Addr->Prop}{a:Addr}{d:D}(h:Rep K H O (.ref a) d):(∃vs ds,d=.tup ds/\T2 K H a vs/\Reps K H O vs ds)\/(∃vs ds,d=.lst ds/\L7 K H a vs/\Reps K H O vs ds)\/(d=.dct/\∃o:Obj,H a=some (.ext λh=>h.get? a=some o)/\o.ExactDict):=by
 cases h with
 |tup h r=>exact .inl ⟨_,_,rfl,h,r⟩
 |lst h n r=>exact .inr (.inl ⟨_,_,rfl,h,r⟩)
 |dct h x n=>exact .inr (.inr ⟨rfl,_,h,x⟩)
def UU (I:Inv X pins σ H s)(h:T2 X.K H a vs)(h':L7 X.K H a ws):False:=by obtain⟨its,_,p,_⟩:=I.tuple h;obtain⟨its',_,p',_⟩:=I.list h';exact absurd rfl (SeqAt.ne_of_list_tuple (s:=s) p'.isList p)
def UG {o:Obj}(I:Inv X pins σ H s)(h':T2 X.K H a vs)(h:H a=some (.ext λh=>h.get? a=some o))(x:o.ExactDict):False:=by obtain⟨its,_,⟨o',g,c,_⟩,_⟩:=I.tuple h';have e:s.heap.get? _=some _:=(I.hok _ _ h).1;rw[g]at e;cases e;exact absurd (c.symm.trans x.1) (by decide)
def UI {o:Obj}(I:Inv X pins σ H s)(h':L7 X.K H a vs)(h:H a=some (.ext λh=>h.get? a=some o))(x:o.ExactDict):False:=by obtain⟨its,_,p,_⟩:=I.list h';obtain⟨o',g,c,_⟩:=p.isList;have e:s.heap.get? _=some _:=(I.hok _ _ h).1;rw[g]at e;cases e;exact absurd (c.symm.trans x.1) (by decide)
mutual
theorem Rep.inj (I:Inv X pins σ H s):∀{v:V} {d:D},Rep X.K H O v d->∀{d':D},Rep X.K H O' v d'->d=d'
 |_,_,.non=>λh=>by cases h;rfl
 |_,_,.bl=>λh=>by cases h;rfl
 |_,_,.int=>λh=>by cases h;rfl
 |_,_,.str=>λh=>by cases h;rfl
 |_,_,.tup h r=>λh'=>by
  rcases AS h' with⟨_,_,rfl,h2,r2⟩|⟨_,_,rfl,h2,_⟩|⟨rfl,_,h2,x⟩
  ·have e:=I.ab4 h h2;subst e;rw[Reps.inj I r r2]
  ·exact(UU I h h2).elim
  ·exact(UG I h h2 x).elim
 |_,_,.lst h _ r=>λh'=>by
  rcases AS h' with⟨_,_,rfl,h2,_⟩|⟨_,_,rfl,h2,r2⟩|⟨rfl,_,h2,x⟩
  ·exact(UU I h2 h).elim
  ·have e:=I.ab0 h h2;subst e;rw[Reps.inj I r r2]
  ·exact(UI I h h2 x).elim
 |_,_,.dct h x _=>λh'=>by
  rcases AS h' with⟨_,_,rfl,h2,_⟩|⟨_,_,rfl,h2,_⟩|⟨rfl,_⟩
  ·exact(UG I h2 h x).elim
  ·exact(UI I h2 h x).elim
  ·rfl
theorem Reps.inj (I:Inv X pins σ H s):∀{v:List V} {d:List D},Reps X.K H O v d->∀{d':List D},Reps X.K H O' v d'->d=d'
 |_,_,.nil=>λh=>by cases h;rfl
 |_,_,.cons h t=>λh2=>by
  cases h2 with
  |cons h' t'=>rw[Rep.inj I h h',Reps.inj I t t']
end
def mC (A:Around)(s:Shared)(us ws:List Value)(xs ys:List D):Prop:=∀(j:Nat) (u w:Value),us[j]?=some u->ws[j]?=some w->SeqAt.EqAt A.in1 s u w (lF xs ys j)
def vY (hl:s.heap.IsList l us.toArray)(hb:s.heap.IsList b ws.toArray)(e1:us.length=xs.length)(e2:ws.length=ys.length)(hu:A.units<cLine)(hp:mC A s us ws xs ys):SeqAt.RcAt A s (.ref l) (.ref b) (V9 xs ys)/\SeqAt.RcNeAt A s (.ref l) (.ref b) (!V9 xs ys):=by
 rw[fU];by_cases hsz:xs.length=ys.length
 ·have hz:us.toArray.size=ws.toArray.size:=by simp[e1,e2,hsz]
  have hm:min xs.length ys.length=us.toArray.size:=by simp[e1,hsz]
  have hq:(xs.length==ys.length)=true:=by simp[hsz]
  have he:∀j (h1:j<us.toArray.size) (h2:j<ws.toArray.size),SeqAt.EqAt A.in1 s us.toArray[j] ws.toArray[j] (lF xs ys j):=λj h1 h2=>hp j _ _ (by simp[aAh (show j<us.length by simpa using h1)]) (by simp[aAh (show j<ws.length by simpa using h2)]);rw[hq,Bool.and_true,hm];exact⟨SeqAt.RcAt.lists hl hb hz hu he,SeqAt.RcNeAt.lists hl hb hz hu he⟩
 ·have hz:(us.toArray.size !=ws.toArray.size)=true:=by simp[e1,e2,hsz]
  have hq:(xs.length==ys.length)=false:=by simp[hsz]
  rw[hq,aFS];exact⟨SeqAt.RcAt.lists_lengths hl hb hz hu,SeqAt.RcNeAt.lists_lengths hl hb hz hu⟩
def kE (hl:IsTup s.heap l us.toArray)(hb:IsTup s.heap b ws.toArray)(e1:us.length=xs.length)(e2:ws.length=ys.length)(hu:A.units<cLine)(hp:mC A s us ws xs ys):SeqAt.RcAt A s (.ref l) (.ref b) (V9 xs ys)/\SeqAt.RcNeAt A s (.ref l) (.ref b) (!V9 xs ys):=by
 rw[fU];have hm:min xs.length ys.length=min us.toArray.size ws.toArray.size:=by simp[e1,e2]
 have hq:(xs.length==ys.length)=(us.toArray.size==ws.toArray.size):=by simp[e1,e2]
 have he:∀j (h1:j<us.toArray.size) (h2:j<ws.toArray.size),SeqAt.EqAt A.in1 s us.toArray[j] ws.toArray[j] (lF xs ys j):=λj h1 h2=>hp j _ _ (by simp[aAh (show j<us.length by simpa using h1)]) (by simp[aAh (show j<ws.length by simpa using h2)]);rw[hq,hm];exact⟨SeqAt.RcAt.tuples hl hb hu he,SeqAt.RcNeAt.tuples hl hb hu he⟩
def t7 (A:Around):A.in1.units=A.units+1:=rfl
mutual
theorem ZD (I:Inv X pins σ H s):∀{x y:V} {dx dy:D} {v u:Value} {A:Around},Rep X.K H O x dx->Rep X.K H O' y dy->RelV x v->RelV y u->A.units+B7 dx<cLine->A.units+B7 dy<cLine->SeqAt.EqAt A s v u (u6 dx dy)
 |_,_,_,_,v,u,A,.non,ry,rv,ru,hu,hv=>by
  have av:A.units<cLine:=by lia
  cases rv;cases ry with
  |dct=>exact absurd hv (by rw[B7];lia)
  |non=>cases ru;exact aDL _
  |bl=>cases ru;simp only[u6];exact SeqAt.EqAt.none_bool _
  |int=>obtain⟨t,rfl⟩:=ru;simp only[u6];exact SeqAt.EqAt.none_int _ _
  |str=>obtain⟨t,rfl⟩:=ru;simp only[u6];exact SeqAt.EqAt.none_str _ _
  |tup h r=>cases ru;obtain⟨_,_,p,_⟩:=I.tuple h;simp only[u6];exact SeqAt.EqAt.none_tuple p av
  |lst h _ r=>cases ru;obtain⟨_,_,p,_⟩:=I.list h;simp only[u6];exact SeqAt.EqAt.none_list p.isList av
 |_,_,_,_,v,u,A,.bl,ry,rv,ru,hu,hv=>by
  have av:A.units<cLine:=by lia
  cases rv;cases ry with
  |dct=>exact absurd hv (by rw[B7];lia)
  |non=>cases ru;simp only[u6];exact SeqAt.EqAt.bool_none _
  |bl=>cases ru;simp only[u6];exact SeqAt.EqAt.bool_bool _ _
  |int=>obtain⟨t,rfl⟩:=ru;simp only[u6];exact SeqAt.EqAt.bool_int _ _ _
  |str=>obtain⟨t,rfl⟩:=ru;simp only[u6];exact SeqAt.EqAt.bool_str _ _ _
  |tup h r=>cases ru;obtain⟨_,_,p,_⟩:=I.tuple h;simp only[u6];exact SeqAt.EqAt.bool_tuple _ p av
  |lst h _ r=>cases ru;obtain⟨_,_,p,_⟩:=I.list h;simp only[u6];exact SeqAt.EqAt.bool_list _ p.isList av
 |_,_,_,_,v,u,A,.int,ry,rv,ru,hu,hv=>by
  have av:A.units<cLine:=by lia
  obtain⟨t1,rfl⟩:=rv;cases ry with
  |dct=>exact absurd hv (by rw[B7];lia)
  |non=>cases ru;simp only[u6];exact SeqAt.EqAt.int_none _ _
  |bl=>cases ru;simp only[u6];exact SeqAt.EqAt.int_bool _ _ _
  |int=>obtain⟨t,rfl⟩:=ru;simp only[u6];exact aEJ _ _ _ _
  |str=>obtain⟨t,rfl⟩:=ru;simp only[u6];exact aGa _ _ _ _
  |tup h r=>cases ru;obtain⟨_,_,p,_⟩:=I.tuple h;simp only[u6];exact aFN _ _ p av
  |lst h _ r=>cases ru;obtain⟨_,_,p,_⟩:=I.list h;simp only[u6];exact SeqAt.EqAt.int_list _ _ p.isList av
 |_,_,_,_,v,u,A,.str,ry,rv,ru,hu,hv=>by
  have av:A.units<cLine:=by lia
  obtain⟨t1,rfl⟩:=rv;cases ry with
  |dct=>exact absurd hv (by rw[B7];lia)
  |non=>cases ru;simp only[u6];exact SeqAt.EqAt.str_none _ _
  |bl=>cases ru;simp only[u6];exact SeqAt.EqAt.str_bool _ _ _
  |int=>obtain⟨t,rfl⟩:=ru;simp only[u6];exact aGb _ _ _ _
  |str=>obtain⟨t,rfl⟩:=ru;simp only[u6];exact SeqAt.EqAt.str_str _ _ _ _
  |tup h r=>cases ru;obtain⟨_,_,p,_⟩:=I.tuple h;simp only[u6];exact SeqAt.EqAt.str_tuple _ _ p av
  |lst h _ r=>cases ru;obtain⟨_,_,p,_⟩:=I.list h;simp only[u6];exact SeqAt.EqAt.str_list _ _ p.isList av
 |_,_,_,_,v,u,A,.tup (a:=a) (vs:=vs) (ds:=ds) h r,ry,rv,ru,hu,hv=>by
  have av:A.units<cLine:=by lia
  cases rv;obtain⟨its,rr,p,_⟩:=I.tuple h;cases ry with
  |dct=>exact absurd hv (by rw[B7];lia)
  |non=>cases ru;simp only[u6];exact SeqAt.EqAt.tuple_none p av
  |bl=>cases ru;simp only[u6];exact SeqAt.EqAt.tuple_bool _ p av
  |int=>obtain⟨t,rfl⟩:=ru;simp only[u6];exact aFO _ _ p av
  |str=>obtain⟨t,rfl⟩:=ru;simp only[u6];exact SeqAt.EqAt.tuple_str _ _ p av
  |@tup a' dh au h' r'=>
   cases ru;obtain⟨its',jh,p',_⟩:=I.tuple h';by_cases e:a=a'
   ·subst e;have e2:=I.ab4 h h';subst e2;have e3:=Reps.inj I r r';subst e3;rw[P8];exact aDL _
   ·simp only[u6];refine aEL e (kE p p' (by rw[<-rr.length,r.length]) (by rw[<-jh.length,r'.length]) av<|iH I r r' rr jh ?_ ?_).1
    ·rw[B7]at hu;rw[t7];lia
    ·rw[B7]at hv;rw[t7];lia
  |lst h' _ r'=>cases ru;obtain⟨_,_,p',_⟩:=I.list h';simp only[u6];exact SeqAt.EqAt.tuple_list p p'.isList av
 |_,_,_,_,v,u,A,.lst (a:=a) (vs:=vs) (ds:=ds) h nO r,ry,rv,ru,hu,hv=>by
  have av:A.units<cLine:=by lia
  cases rv;obtain⟨its,rr,p,_⟩:=I.list h;cases ry with
  |dct=>exact absurd hv (by rw[B7];lia)
  |non=>cases ru;simp only[u6];exact SeqAt.EqAt.list_none p.isList av
  |bl=>cases ru;simp only[u6];exact SeqAt.EqAt.list_bool _ p.isList av
  |int=>obtain⟨t,rfl⟩:=ru;simp only[u6];exact SeqAt.EqAt.list_int _ _ p.isList av
  |str=>obtain⟨t,rfl⟩:=ru;simp only[u6];exact SeqAt.EqAt.list_str _ _ p.isList av
  |tup h' r'=>cases ru;obtain⟨_,_,p',_⟩:=I.tuple h';simp only[u6];exact SeqAt.EqAt.list_tuple p.isList p' av
  |@lst a' dh au h' nO' r'=>
   cases ru;obtain⟨its',jh,p',_⟩:=I.list h';by_cases e:a=a'
   ·subst e;have e2:=I.ab0 h h';subst e2;have e3:=Reps.inj I r r';subst e3;rw[P8];exact aDL _
   ·simp only[u6];refine aEL e (vY p.isList p'.isList (by rw[<-rr.length,r.length]) (by rw[<-jh.length,r'.length]) av<|iH I r r' rr jh ?_ ?_).1
    ·rw[B7]at hu;rw[t7];lia
    ·rw[B7]at hv;rw[t7];lia
 |_,_,_,_,v,u,A,.dct ..,ry,rv,ru,hu,hv=>absurd hu (by rw[B7];lia)
theorem iH (I:Inv X pins σ H s):∀{vs ws:List V} {xs ys:List D} {us ts:List Value} {A:Around},Reps X.K H O vs xs->Reps X.K H O' ws ys->m6 vs us->m6 ws ts->A.in1.units+B8 xs<cLine->A.in1.units+B8 ys<cLine->mC A s us ts xs ys
 |_,_,_,_,us,ts,A,.nil,ry,rv,ru,hu,hv=>λj u w h1 h2=>by cases rv;simp at h1
 |_,_,_,_,us,ts,A,.cons h t,.nil,rv,ru,hu,hv=>λj u w h1 h2=>by cases ru;simp at h2
 |_,_,_,_,us,ts,A,.cons (d:=d) (ds:=ds) h t,.cons (d:=d') (ds:=au) h' t',rv,ru,hu,hv=>λj u w h1 h2=>by
  cases rv with
  |cons r1 r2=>
   cases ru with
   |cons r1' r2'=>
    rw[B8]at hu hv;cases j with
    |zero=>simp only[aCU,aGi]at h1 h2;subst h1 h2;exact ZD I h h' r1 r1' (by lia) (by lia)
    |succ j=>simp only[aCV]at h1 h2;have q:=iH I (A:=A) t t' r2 r2' (by lia) (by lia) j u w h1 h2;exact q
end
def gz (I:Inv X pins σ H s)(r1:A5 X.K H O x dx)(r2:A5 X.K H O' y dy)(rv:RelV x v)(ru:RelV y u)(hu:A.units+B7 dx<cLine)(hv:A.units+B7 dy<cLine):
  SeqAt.RcAt A s v u (u6 dx dy)/\SeqAt.RcNeAt A s v u (!u6 dx dy):=by
 have av:A.units<cLine:=by lia
 cases dx with
 |dct=>exact absurd hu (by rw[B7];lia)
 |non=>
  cases r1.ac2;cases rv;cases dy with
  |dct=>exact absurd hv (by rw[B7];lia)
  |non=>cases r2.ac2;cases ru;simp only[u6];exact⟨SeqAt.RcAt.none_none,SeqAt.RcNeAt.none_none⟩
  |bl=>cases r2.blI;cases ru;simp only[u6];exact⟨SeqAt.RcAt.none_bool _,SeqAt.RcNeAt.none_bool _⟩
  |int=>cases r2.aa6;obtain⟨t,rfl⟩:=ru;simp only[u6];exact⟨SeqAt.RcAt.none_int _ _,SeqAt.RcNeAt.none_int _ _⟩
  |str=>cases r2.ac9;obtain⟨t,rfl⟩:=ru;simp only[u6];exact⟨SeqAt.RcAt.none_str _ _,SeqAt.RcNeAt.none_str _ _⟩
  |tup ys=>obtain⟨a,vs,rfl,h,r⟩:=r2.tupI;cases ru;obtain⟨_,_,p,_⟩:=I.tuple h;simp only[u6];exact⟨SeqAt.RcAt.none_tuple p av,SeqAt.RcNeAt.none_tuple p av⟩
  |lst ys=>obtain⟨a,vs,rfl,h,r⟩:=r2.aa5;cases ru;obtain⟨_,_,p,_⟩:=I.list h;simp only[u6];exact⟨SeqAt.RcAt.none_list p.isList av,SeqAt.RcNeAt.none_list p.isList av⟩
 |bl=>
  cases r1.blI;cases rv;cases dy with
  |dct=>exact absurd hv (by rw[B7];lia)
  |non=>cases r2.ac2;cases ru;simp only[u6];exact⟨SeqAt.RcAt.bool_none _,SeqAt.RcNeAt.bool_none _⟩
  |bl=>cases r2.blI;cases ru;simp only[u6];exact⟨SeqAt.RcAt.bool_bool _ _,SeqAt.RcNeAt.bool_bool _ _⟩
  |int=>cases r2.aa6;obtain⟨t,rfl⟩:=ru;simp only[u6];exact⟨SeqAt.RcAt.bool_int _ _ _,SeqAt.RcNeAt.bool_int _ _ _⟩
  |str=>cases r2.ac9;obtain⟨t,rfl⟩:=ru;simp only[u6];exact⟨SeqAt.RcAt.bool_str _ _ _,SeqAt.RcNeAt.bool_str _ _ _⟩
  |tup ys=>obtain⟨a,vs,rfl,h,r⟩:=r2.tupI;cases ru;obtain⟨_,_,p,_⟩:=I.tuple h;simp only[u6];exact⟨SeqAt.RcAt.bool_tuple _ p av,SeqAt.RcNeAt.bool_tuple _ p av⟩
  |lst ys=>obtain⟨a,vs,rfl,h,r⟩:=r2.aa5;cases ru;obtain⟨_,_,p,_⟩:=I.list h;simp only[u6];exact⟨SeqAt.RcAt.bool_list _ p.isList av,SeqAt.RcNeAt.bool_list _ p.isList av⟩
 |int=>
  cases r1.aa6;obtain⟨t1,rfl⟩:=rv;cases dy with
  |dct=>exact absurd hv (by rw[B7];lia)
  |non=>cases r2.ac2;cases ru;simp only[u6];exact⟨SeqAt.RcAt.int_none _ _,SeqAt.RcNeAt.int_none _ _⟩
  |bl=>cases r2.blI;cases ru;simp only[u6];exact⟨SeqAt.RcAt.int_bool _ _ _,SeqAt.RcNeAt.int_bool _ _ _⟩
  |int=>cases r2.aa6;obtain⟨t,rfl⟩:=ru;simp only[u6];exact⟨SeqAt.RcAt.int_int _ _ _ _,SeqAt.RcNeAt.int_int _ _ _ _⟩
  |str=>cases r2.ac9;obtain⟨t,rfl⟩:=ru;simp only[u6];exact⟨SeqAt.RcAt.int_str _ _ _ _,SeqAt.RcNeAt.int_str _ _ _ _⟩
  |tup ys=>obtain⟨a,vs,rfl,h,r⟩:=r2.tupI;cases ru;obtain⟨_,_,p,_⟩:=I.tuple h;simp only[u6];exact⟨SeqAt.RcAt.int_tuple _ _ p av,SeqAt.RcNeAt.int_tuple _ _ p av⟩
  |lst ys=>obtain⟨a,vs,rfl,h,r⟩:=r2.aa5;cases ru;obtain⟨_,_,p,_⟩:=I.list h;simp only[u6];exact⟨SeqAt.RcAt.int_list _ _ p.isList av,SeqAt.RcNeAt.int_list _ _ p.isList av⟩
 |str=>
  cases r1.ac9;obtain⟨t1,rfl⟩:=rv;cases dy with
  |dct=>exact absurd hv (by rw[B7];lia)
  |non=>cases r2.ac2;cases ru;simp only[u6];exact⟨SeqAt.RcAt.str_none _ _,SeqAt.RcNeAt.str_none _ _⟩
  |bl=>cases r2.blI;cases ru;simp only[u6];exact⟨SeqAt.RcAt.str_bool _ _ _,SeqAt.RcNeAt.str_bool _ _ _⟩
  |int=>cases r2.aa6;obtain⟨t,rfl⟩:=ru;simp only[u6];exact⟨SeqAt.RcAt.str_int _ _ _ _,SeqAt.RcNeAt.str_int _ _ _ _⟩
  |str=>cases r2.ac9;obtain⟨t,rfl⟩:=ru;simp only[u6];exact⟨SeqAt.RcAt.str_str _ _ _ _,SeqAt.RcNeAt.str_str _ _ _ _⟩
  |tup ys=>obtain⟨a,vs,rfl,h,r⟩:=r2.tupI;cases ru;obtain⟨_,_,p,_⟩:=I.tuple h;simp only[u6];exact⟨SeqAt.RcAt.str_tuple _ _ p av,SeqAt.RcNeAt.str_tuple _ _ p av⟩
  |lst ys=>obtain⟨a,vs,rfl,h,r⟩:=r2.aa5;cases ru;obtain⟨_,_,p,_⟩:=I.list h;simp only[u6];exact⟨SeqAt.RcAt.str_list _ _ p.isList av,SeqAt.RcNeAt.str_list _ _ p.isList av⟩
 |tup xs=>
  obtain⟨a,vs,rfl,h,r⟩:=r1.tupI;cases rv;obtain⟨its,rr,p,_⟩:=I.tuple h;cases dy with
  |dct=>exact absurd hv (by rw[B7];lia)
  |non=>cases r2.ac2;cases ru;simp only[u6];exact⟨SeqAt.RcAt.tuple_none p av,SeqAt.RcNeAt.tuple_none p av⟩
  |bl=>cases r2.blI;cases ru;simp only[u6];exact⟨SeqAt.RcAt.tuple_bool _ p av,SeqAt.RcNeAt.tuple_bool _ p av⟩
  |int=>cases r2.aa6;obtain⟨t,rfl⟩:=ru;simp only[u6];exact⟨SeqAt.RcAt.tuple_int _ _ p av,SeqAt.RcNeAt.tuple_int _ _ p av⟩
  |str=>cases r2.ac9;obtain⟨t,rfl⟩:=ru;simp only[u6];exact⟨SeqAt.RcAt.tuple_str _ _ p av,SeqAt.RcNeAt.tuple_str _ _ p av⟩
  |tup ys=>
   obtain⟨a',dh,rfl,h',r'⟩:=r2.tupI;cases ru;obtain⟨its',jh,p',_⟩:=I.tuple h';simp only[u6];refine kE p p' (by rw[<-rr.length,r.length]) (by rw[<-jh.length,r'.length]) av (iH I r r' rr jh ?_ ?_)
   ·rw[B7]at hu;rw[t7];lia
   ·rw[B7]at hv;rw[t7];lia
  |lst ys=>obtain⟨a',dh,rfl,h',r'⟩:=r2.aa5;cases ru;obtain⟨_,_,p',_⟩:=I.list h';simp only[u6];exact⟨SeqAt.RcAt.tuple_list p p'.isList av,SeqAt.RcNeAt.tuple_list p p'.isList av⟩
 |lst xs=>
  obtain⟨a,vs,rfl,h,r⟩:=r1.aa5;cases rv;obtain⟨its,rr,p,_⟩:=I.list h;cases dy with
  |dct=>exact absurd hv (by rw[B7];lia)
  |non=>cases r2.ac2;cases ru;simp only[u6];exact⟨SeqAt.RcAt.list_none p.isList av,SeqAt.RcNeAt.list_none p.isList av⟩
  |bl=>cases r2.blI;cases ru;simp only[u6];exact⟨SeqAt.RcAt.list_bool _ p.isList av,SeqAt.RcNeAt.list_bool _ p.isList av⟩
  |int=>cases r2.aa6;obtain⟨t,rfl⟩:=ru;simp only[u6];exact⟨SeqAt.RcAt.list_int _ _ p.isList av,SeqAt.RcNeAt.list_int _ _ p.isList av⟩
  |str=>cases r2.ac9;obtain⟨t,rfl⟩:=ru;simp only[u6];exact⟨SeqAt.RcAt.list_str _ _ p.isList av,SeqAt.RcNeAt.list_str _ _ p.isList av⟩
  |tup ys=>obtain⟨a',dh,rfl,h',r'⟩:=r2.tupI;cases ru;obtain⟨_,_,p',_⟩:=I.tuple h';simp only[u6];exact⟨SeqAt.RcAt.list_tuple p.isList p' av,SeqAt.RcNeAt.list_tuple p.isList p' av⟩
  |lst ys=>
   obtain⟨a',dh,rfl,h',r'⟩:=r2.aa5;cases ru;obtain⟨its',jh,p',_⟩:=I.list h';simp only[u6];refine vY p.isList p'.isList (by rw[<-rr.length,r.length]) (by rw[<-jh.length,r'.length]) av (iH I r r' rr jh ?_ ?_)
   ·rw[B7]at hu;rw[t7];lia
   ·rw[B7]at hv;rw[t7];lia
end
def UT (x y:D):R D:=if B7 x<=40/\B7 y<=40 then .ok (.bl (u6 x y))else .bad
def FJ (x y:D):R D:=if B7 x<=40/\B7 y<=40 then .ok (.bl (!u6 x y))else .bad
section
def iO (hu:X.A.units+64<cLine):lX X (compareOp .Eq) UT:=by
 intro H O x y dx dy Q fr r1 r2 q;unfold UT at q;split at q
 ·rename_i hd;refine⟨λx' y' H' Q'=>x'=x/\y'=y/\H'=H/\Q' (.bl (u6 dx dy)) H,?_,rfl,rfl,rfl,q _ H (Same.refl _) .bl⟩;intro pins s σ H' x' y' v u Q' I rx ry ⟨e1,e2,e3,q'⟩;subst e1 e2 e3;exact(gz I (A:=X.A) r1 r2 rx ry (by lia) (by lia)).1 _ _ _ _ ⟨.bl _,_,I,rfl,q'⟩
 ·exact q.elim
def gS (hu:X.A.units+64<cLine):lX X (compareOp .NotEq) FJ:=by
 intro H O x y dx dy Q fr r1 r2 q;unfold FJ at q;split at q
 ·rename_i hd;refine⟨λx' y' H' Q'=>x'=x/\y'=y/\H'=H/\Q' (.bl (!u6 dx dy)) H,?_,rfl,rfl,rfl,q _ H (Same.refl _) .bl⟩;intro pins s σ H' x' y' v u Q' I rx ry ⟨e1,e2,e3,q'⟩;subst e1 e2 e3;exact(gz I (A:=X.A) r1 r2 rx ry (by lia) (by lia)).2 _ _ _ _ ⟨.bl _,_,I,rfl,q'⟩
 ·exact q.elim
end
def lV:D->D->R D
 |.int a,.int b=>.ok (.int (a+b))
 |.lst a,.lst b=>if a.length+b.length<=sizeLine then .ok (.lst (a++b))else .bad
 |.tup [],.tup b=>.ok (.tup b)
 |.tup (x::a),.tup []=>if(x::a).length<=sizeLine then .ok (.tup (x::a))else .bad
 |.tup (x::a),.tup (y::b)=>if(x::a).length+(y::b).length<=sizeLine then .ok (.tup ((x::a)++(y::b)))else .bad
 |_,_=>.bad
def LI:D->D->R D
 |.int a,.int b=>.ok (.int (a-b))
 |_,_=>.bad
def l8 (a b:Int):Prop:=aAV a<=60000000/\aAV b<=60000000
instance(a b:Int):Decidable (l8 a b):=inferInstanceAs (Decidable<|_/\_)
def Q0:D->D->R D
 |.int a,.int b=>if l8 a b then .ok (.int (a*b))else .bad
 |_,_=>.bad
def uZ (b:Int):Prop:=b≠0/\aAV b<=9000
instance(b:Int):Decidable (uZ b):=inferInstanceAs (Decidable<|_/\_)
def O8:D->D->R D
 |.int a,.int b=>if uZ b then .ok (.int (a.fdiv b))else .bad
 |_,_=>.bad
def S9:D->D->R D
 |.int a,.int b=>if b≠0 then .ok (.int (a.fmod b))else .bad
 |_,_=>.bad
def yN:D->D->R D
 |.int a,.int b=>if 0<=b/\b<=1000000/\a.natAbs<2^64 then .ok (.int (a^b.toNat))else .bad
 |_,_=>.bad
def pj:D->D->R D
 |.int a,.int b=>.ok (.bl (decide (a<b)))
 |_,_=>.bad
def ay:D->D->R D
 |.int a,.int b=>.ok (.bl (decide (a<=b)))
 |_,_=>.bad
def ZN:D->D->R D
 |.int a,.int b=>.ok (.bl (decide (b<a)))
 |_,_=>.bad
def FN (h0:b≠0)(h:aAV b<=n):b.natAbs.log2<n:=by
 unfold aAV at h;split at h
 ·rename_i z;exact absurd (by simpa using z) h0
 ·omega
def NM (h:l8 a b):IntMulOk a b:=mulOk_of_bits (m:=60000000) (n:=60000000) h.1 h.2 (by decide)
section
def lX.aa7 {f:Value->Value->Sem Value}{g:D->D->R D}{C:Int->Int->Prop}{w:Int->Int->V}{dw:Int->Int->D}(hr:lS X f (rI C w))(hg:∀dx dy d,g dx dy=.ok d->∃i j,dx=.int i/\dy=.int j/\C i j/\d=dw i j)
  (hb:∀dx dy e,g dx dy≠.ex e) (hw:∀K H O i j,Rep K H O (w i j) (dw i j)):lX X f g:=by
 intro H O x y dx dy Q fr r1 r2 q;cases e:g dx dy with
 |ok d=>rw[e]at q;obtain⟨i,j,rfl,rfl,hc,rfl⟩:=hg dx dy d e;cases r1.aa6;cases r2.aa6;exact⟨_,hr,i,j,rfl,rfl,hc,q _ H (Same.refl _) (hw _ _ _ _ _)⟩
 |ex x=>exact absurd e (hb _ _ _)
 |bad=>rw[e]at q;exact q.elim
def lS.c0 (h:lS X f (UY w)):lS X f (rI (λ_ _=>True) w):=λpins s σ H x y v u Q I rx ry ⟨i,j,e1,e2,_,q⟩=>h pins s σ H x y v u Q I rx ry ⟨i,j,e1,e2,q⟩
def u0:lX X (binaryOp .Sub) LI:=lX.aa7 (dw:=λi j=>.int (i-j)) (lS.c0 ZH) (λdx dy d h=>by cases dx<;>cases dy<;>simp only[LI,R.ok.injEq,reduceCtorEq]at h;exact⟨_,_,rfl,rfl,trivial,h.symm⟩) (λdx dy e h=>by cases dx<;>cases dy<;>simp only[LI,reduceCtorEq]at h) λ_ _ _ _ _=>.int
def JY:lX X (compareOp .Lt) pj:=lX.aa7 (dw:=λi j=>.bl (decide (i<j))) (lS.c0 fy) (λdx dy d h=>by cases dx<;>cases dy<;>simp only[pj,R.ok.injEq,reduceCtorEq]at h;exact⟨_,_,rfl,rfl,trivial,h.symm⟩) (λdx dy e h=>by cases dx<;>cases dy<;>simp only[pj,reduceCtorEq]at h) λ_ _ _ _ _=>.bl
def ik:lX X (compareOp .LtE) ay:=lX.aa7 (dw:=λi j=>.bl (decide (i<=j))) (lS.c0 ZX) (λdx dy d h=>by cases dx<;>cases dy<;>simp only[ay,R.ok.injEq,reduceCtorEq]at h;exact⟨_,_,rfl,rfl,trivial,h.symm⟩) (λdx dy e h=>by cases dx<;>cases dy<;>simp only[ay,reduceCtorEq]at h) λ_ _ _ _ _=>.bl
def DW:lX X (compareOp .Gt) ZN:=lX.aa7 (dw:=λi j=>.bl (decide (j<i))) (lS.c0 gq) (λdx dy d h=>by cases dx<;>cases dy<;>simp only[ZN,R.ok.injEq,reduceCtorEq]at h;exact⟨_,_,rfl,rfl,trivial,h.symm⟩) (λdx dy e h=>by cases dx<;>cases dy<;>simp only[ZN,reduceCtorEq]at h) λ_ _ _ _ _=>.bl
def NN:lS X (binaryOp .FloorDiv) (rI (λ_ j=>uZ j) λi j=>.int (i.fdiv j)):=pk λ_ _ _ _ _ _ _ hc q=>floordiv_int hc.1 q (.inl (PyProof.noPylong_of_log2<|FN hc.1 hc.2))
def v7:lX X (binaryOp .FloorDiv) O8:=lX.aa7 (dw:=λi j=>.int (i.fdiv j)) NN (λdx dy d h=>by
 cases dx<;>cases dy<;>simp only[O8,reduceCtorEq]at h;split at h
 ·rename_i hc;cases h;exact⟨_,_,rfl,rfl,hc,rfl⟩
 ·cases h) (λdx dy e h=>by
  cases dx<;>cases dy<;>simp only[O8,reduceCtorEq]at h;split at h<;>cases h) λ_ _ _ _ _=>.int
def v8:lX X (binaryOp .Mod) S9:=lX.aa7 (dw:=λi j=>.int (i.fmod j)) TM (λdx dy d h=>by
 cases dx<;>cases dy<;>simp only[S9,reduceCtorEq]at h;split at h
 ·rename_i hc;cases h;exact⟨_,_,rfl,rfl,hc,rfl⟩
 ·cases h) (λdx dy e h=>by
  cases dx<;>cases dy<;>simp only[S9,reduceCtorEq]at h;split at h<;>cases h) λ_ _ _ _ _=>.int
def aW:lX X (binaryOp .Pow) yN:=lX.aa7 (dw:=λi j=>.int (i^j.toNat)) WY (λdx dy d h=>by
 cases dx<;>cases dy<;>simp only[yN,reduceCtorEq]at h;split at h
 ·rename_i hc;cases h;exact⟨_,_,rfl,rfl,hc,rfl⟩
 ·cases h) (λdx dy e h=>by
  cases dx<;>cases dy<;>simp only[yN,reduceCtorEq]at h;split at h<;>cases h) λ_ _ _ _ _=>.int
def UB:lS X (binaryOp .Mult) (rI l8 λi j=>.int (i*j)):=pk λ_ _ _ _ _ _ _ hc q=>mul_int q (NM hc)
def k7:lX X (binaryOp .Mult) Q0:=lX.aa7 (dw:=λi j=>.int (i*j)) UB (λdx dy d h=>by
 cases dx<;>cases dy<;>simp only[Q0,reduceCtorEq]at h;split at h
 ·rename_i hc;cases h;exact⟨_,_,rfl,rfl,hc,rfl⟩
 ·cases h) (λdx dy e h=>by
  cases dx<;>cases dy<;>simp only[Q0,reduceCtorEq]at h;split at h<;>cases h) λ_ _ _ _ _=>.int
def PR:lS X (binaryOp .Add) (λx y H Q=>∃l b xs zs,x=.ref l/\y=.ref b/\L7 X.K H l xs/\L7 X.K H b zs/\xs.length+zs.length<=sizeLine/\∀p,H p=none->Q (.ref p) (upd H p (.lst (xs++zs)))):=by
 intro pins s σ H x y v u Q I rx ry h;obtain⟨l,b,xs,zs,rfl,rfl,hH,hB,hz,q⟩:=h;cases rx;cases ry;obtain⟨its,r,p,_⟩:=I.list hH;obtain⟨lg,r2,p2,_⟩:=I.list hB;obtain⟨⟨cls,dd,data,sl⟩,ho,hc,n,hd⟩:=p.isList;obtain⟨⟨yf,qm,data2,qc⟩,jg,jc,n2,hd2⟩:=p2.isList;simp only at hc hd jc hd2;subst hc hd jc hd2;have hsz:its.toArray.size+lg.toArray.size<=sizeLine:=by rw[aAm,aAm,<-r.length,<-r2.length];exact hz
 have ea:its.toArray++lg.toArray=(its++lg).toArray:=by simp
 refine aFA ⟨_,ho,rfl⟩ ⟨_,jg,rfl⟩ noFill_list_add seq_list_add PySem.F.slot_list_add PySem.F.entry_list_add (PySem.F.args_list_add_2 _ _) (list_addW l b its.toArray lg.toArray n n2 dd qm sl qc hsz) ⟨ho,jg,?_⟩;rw[ea];exact⟨.ref _,_,I.ag1 (t':=s.toks) (r.append r2) (by rw[aAz];omega),rfl,q _ I.fresh⟩
def LQ:lS X (binaryOp .Add) (λx y H Q=>∃a b ys,x=.ref a/\y=.ref b/\T2 X.K H a []/\T2 X.K H b ys/\Q (.ref b) H):=by intro pins s σ H x y v u Q I rx ry h;obtain⟨t,b,ys,rfl,rfl,ha,hb,q⟩:=h;cases rx;cases ry;obtain⟨its,r1,p1,_⟩:=I.tuple ha;obtain⟨ws,r2,p2,_⟩:=I.tuple hb;cases r1;obtain⟨⟨cls,dd,data,sl⟩,ho,hc,n,hd⟩:=p1;obtain⟨⟨yf,qm,data2,qc⟩,jg,jc,n2,hd2⟩:=p2;simp only at hc hd jc hd2;subst hc hd jc hd2;exact aFA ⟨_,ho,rfl⟩ ⟨_,jg,rfl⟩ aFn seq_tuple_add PySem.F.slot_tuple_add PySem.F.entry_tuple_add (PySem.F.args_tuple_add_2 _ _) (tuple_addW0 t b _ _ n n2 dd qm sl qc (by simp)) ⟨ho,jg,.ref b,H,I,rfl,q⟩
def o9:lX X (binaryOp .Add) lV:=by
 intro H O x y dx dy Q fr r1 r2 q;cases dx with
 |int i=>
  cases dy with
  |int j=>cases r1.aa6;cases r2.aa6;exact⟨_,XV,i,j,rfl,rfl,q _ H (Same.refl _) .int⟩
  |_=>exact aAk q
 |lst a=>
  cases dy with
  |lst b=>
   simp only[lV]at q;split at q
   ·rename_i hz;obtain⟨l,vs,rfl,h1,h2⟩:=r1.aa5;obtain⟨l',dh,rfl,qf,qo⟩:=r2.aa5;exact⟨_,PR,l,l',vs,dh,rfl,rfl,h1,qf,by rw[h2.length,qo.length];exact hz,λp hp=>q _ _ (j7 hp _) (.lst (L7.of j4) (fr p hp) ((h2.append qo).same (j7 hp _)))⟩
   ·exact q.elim
  |_=>exact aAk q
 |tup a=>
  cases dy with
  |tup b=>
   cases a with
   |nil=>obtain⟨l,vs,rfl,h1,h2⟩:=r1.tupI;obtain⟨l',dh,rfl,qf,qo⟩:=r2.tupI;cases h2;exact⟨_,LQ,l,l',dh,rfl,rfl,h1,qf,q _ H (Same.refl _) (.tup qf qo)⟩
   |cons x a=>
    cases b with
    |nil=>
     obtain⟨l,vs,rfl,h1,h2⟩:=r1.tupI;obtain⟨l',dh,rfl,qf,qo⟩:=r2.tupI;cases qo;have n1:vs≠[]:=λz=>by subst z;have:=h2.length;simp at this
     simp only[lV]at q;split at q
     ·rename_i hz;exact⟨_,DX,l,l',vs,[],rfl,rfl,h1,qf,n1,by rw[h2.length];exact hz,λ_=>q _ H (Same.refl _) (.tup h1 h2),λz=>absurd rfl z⟩
     ·exact q.elim
    |cons y b=>
     simp only[lV]at q;split at q
     ·rename_i hz;obtain⟨l,vs,rfl,h1,h2⟩:=r1.tupI;obtain⟨l',dh,rfl,qf,qo⟩:=r2.tupI;have n1:vs≠[]:=λz=>by subst z;have:=h2.length;simp at this
      have n2:dh≠[]:=λz=>by subst z;have:=qo.length;simp at this
      exact⟨_,DX,l,l',vs,dh,rfl,rfl,h1,qf,n1,by rw[h2.length,qo.length];exact hz,λz=>absurd z n2,λ_ p hp=>q _ _ (j7 hp _) (.tup (T2.of j4) ((h2.append qo).same (j7 hp _)))⟩
     ·exact q.elim
  |_=>cases a<;>exact aAk q
 |_=>exact aAk q
def M1 (x y:D):R D:=match x,y with
 |.lst xs,.int i=>match lP xs i with|some d=>.ok d|none=>.bad
 |.tup xs,.int i=>match lP xs i with|some d=>.ok d|none=>.bad
 |_,_=>.bad
def xS {K:PySem.W.Frag}{H:Hp}{O:Addr->Prop}{vs:List V}{ds:List D}{i:Int}{d:D}(r:Reps K H O vs ds)(h:lP ds i=some d):∃v,lP vs i=some v/\Rep K H O v d:=by
 unfold lP at h⊢;rw[r.length];cases e:yW ds.length i with
 |none=>rw[e]at h;cases h
 |some j=>rw[e]at h;exact r.get h
def f8 (ha:PB X a f)(hb:PD X b g)(hs:QZ b:=by exactλ_ _=>rfl):PD X (.Subscript a b pos) (λρ=>(f ρ).bind λx=>(g ρ).bind λy=>M1 x y):=by
 refine uJ λpins s σ H Q I H9 O0 O ρ E q=>?_;refine Subscript_ (NX ha hb.pb I (lY E q) λv u s2 x y H2 I2 rx ry h=>?_);obtain⟨dx,dy,fr,r1,r2,q⟩:=h;cases dy with
 |int i=>
  cases r2.aa6;cases dx with
  |lst xs=>
   simp only[M1]at q;cases e:lP xs i with
   |none=>rw[e]at q;exact q.elim
   |some d=>rw[e]at q;obtain⟨p,vs,rfl,h1,h2⟩:=r1.aa5;obtain⟨w,h3,h4⟩:=xS h2 e;exact RX a b pins s2 σ H2 _ _ v u Q I2 rx ry ⟨p,vs,i,w,rfl,rfl,h1,h3,q w H2 (Same.refl _) h4⟩ (hs _ _)
  |tup xs=>
   simp only[M1]at q;cases e:lP xs i with
   |none=>rw[e]at q;exact q.elim
   |some d=>rw[e]at q;obtain⟨p,vs,rfl,h1,h2⟩:=r1.tupI;obtain⟨w,h3,h4⟩:=xS h2 e;exact WF a b pins s2 σ H2 _ _ v u Q I2 rx ry ⟨p,vs,i,w,rfl,rfl,h1,h3,q w H2 (Same.refl _) h4⟩ (hs _ _)
  |_=>exact aAk q
 |_=>cases dx<;>exact aAk q
def cutD (xs:List D)(lo hi:Option Int):List D:=(xs.drop<|HT.sIx xs.length 0 lo).take (HT.sIx xs.length xs.length hi-HT.sIx xs.length 0 lo)
def rH {K:PySem.W.Frag}{H:Hp}{O:Addr->Prop}{vs:List V}{ds:List D}{lo hi:Option Int}(r:Reps K H O vs ds):Reps K H O (vF vs lo hi) (cutD ds lo hi):=by unfold vF cutD;rw[r.length];exact(r.drop _).take _
def qj (X:Cx)(e:Option Expr)(f:Ev->R (Option Int)):Prop:=PO X e λσ H Q=>∃H9 O0 O ρ,EnvOk X.K H9 O0 H O σ ρ/\match f ρ with
 |.ok o=>∀H',Same H H'->Q o H'
 |.ex e=>∀H',Same H H'->XW X e H'
 |.bad=>False
def uz:D->R (Option Int)
 |.int i=>.ok (some i)
 |_=>.bad
def cF:qj X none (λ_=>.ok none):=λpins s σ H Q I ⟨H9,O0,O,ρ,E,q⟩=>RJ pins s σ H Q I (q H<|Same.refl _)
def U4 (h:PD X e f):qj X (some e) (λρ=>(f ρ).bind uz):=λpins s σ H Q I ⟨H9,O0,O,ρ,E,q⟩=>SC h pins s σ H Q I ⟨H9,O0,O,ρ,E,by
 dsimp only at q;cases e:f ρ with
 |ok d=>
  rw[e]at q;cases d with
  |int i=>exactλv H1 s1 r1=>by cases r1;exact⟨i,rfl,q H1 s1⟩
  |_=>exact aAk q
 |ex x=>rw[e]at q;exact q
 |bad=>rw[e]at q;exact q⟩
def NH (x:D)(lo hi:Option Int):R D:=match x with
 |.lst xs=>.ok (.lst (cutD xs lo hi))
 |.tup xs=>if HT.sIx xs.length 0 lo=0/\HT.sIx xs.length xs.length hi=xs.length then .bad else .ok (.tup (cutD xs lo hi))
 |_=>.bad
def rE {lo hi:Option Expr}{p2:Pos}{fl fh:Ev->R (Option Int)}(he:PB X a f)(hl:qj X lo fl)(hu:qj X hi fh):
  PD X (.Subscript a (.Slice lo hi none p2) pos) (λρ=>(f ρ).bind λx=>(fl ρ).bind λl=>(fh ρ).bind λh=>NH x l h):=by
 refine uJ λpins s σ H Q I H9 O0 O ρ E q=>?_;have fin:∀x d l h H',A5 X.K H' O x d->(∀p,H' p=none->¬O p)->RC X H' O (NH d l h) Q->iw X.K x l h H' Q\/cx X.K x l h H' Q:=λx d l h H' r fr q=>by
  cases d with
  |lst xs=>obtain⟨p,vs,rfl,h1,h2⟩:=r.aa5;exact .inl ⟨p,vs,rfl,h1,λp hp=>q _ _ (j7 hp _) (.lst (L7.of j4) (fr p hp) ((rH h2).same (j7 hp _)))⟩
  |tup xs=>
   obtain⟨p,vs,rfl,h1,h2⟩:=r.tupI;simp only[NH]at q;split at q
   ·exact q.elim
   ·rename_i hn;exact .inr ⟨p,vs,rfl,h1,by rw[h2.length];exact hn,λp hp=>q _ _ (j7 hp _) (.tup (T2.of j4) ((rH h2).same (j7 hp _)))⟩
  |_=>exact aAk q
 refine IY (QP.or XD) he hl hu pins s σ H Q I ⟨H9,O0,O,ρ,E,?_⟩;dsimp only at q;cases e1:f ρ with
 |ok d=>
  rw[e1]at q;intro x H1 s1 r1;refine⟨H9,O0,O,ρ,E.grow s1,?_⟩;rw[R.aa0]at q;cases e2:fl ρ with
  |ok l=>
   rw[e2]at q;intro H2 s2;refine⟨H9,O0,O,ρ,(E.grow s1).grow s2,?_⟩;cases e3:fh ρ with
   |ok h=>rw[e3]at q;intro H3 s3;have q':RC X H O (NH d l h) Q:=q;exact fin x d l h H3 ((r1.same s2).same s3) (λp hp=>(((E.grow s1).grow s2).grow s3).fresh hp) (q'.grow<|s1.trans<|s2.trans s3)
   |ex x=>rw[e3]at q;exactλH3 s3=>q H3 (s1.trans<|s2.trans s3)
   |bad=>rw[e3]at q;exact q
  |ex x=>rw[e2]at q;exactλH3 s3=>q H3 (s1.trans s3)
  |bad=>rw[e2]at q;exact q
 |ex x=>rw[e1]at q;exact q
 |bad=>rw[e1]at q;exact q
def CK {K:PySem.W.Frag}{H:Hp}{O:Addr->Prop}{vs:List V}{d:D}(r:Paired (A5 K H O) vs [d]):∃v,vs=[v]/\A5 K H O v d:=by
 cases r with
 |cons r1 r2=>cases r2;exact⟨_,rfl,r1⟩
def zy {K:PySem.W.Frag}{H:Hp}{O:Addr->Prop}{vs:List V}{d d':D}(r:Paired (A5 K H O) vs [d,d']):∃v v',vs=[v,v']/\A5 K H O v d/\A5 K H O v' d':=by
 cases r with
 |cons r1 r2=>obtain⟨v',e,r'⟩:=CK r2;subst e;exact⟨_,_,rfl,r1,r'⟩
def QD:List D->R D
 |[.lst xs]=>.ok (.int xs.length)
 |[.tup xs]=>.ok (.int xs.length)
 |_=>.bad
def fM:Z5 X (.builtin "len") QD:=by
 intro H O vs ds Q fr r q;match ds,q with
 |[.lst xs],q=>obtain⟨v,rfl,z⟩:=CK r;obtain⟨p,ys,rfl,h1,h2⟩:=z.aa5;exact⟨_,gH,p,ys,rfl,.inl h1,q _ H (Same.refl _) (by rw[h2.length];exact .int)⟩
 |[.tup xs],q=>obtain⟨v,rfl,z⟩:=CK r;obtain⟨p,ys,rfl,h1,h2⟩:=z.tupI;exact⟨_,gH,p,ys,rfl,.inr h1,q _ H (Same.refl _) (by rw[h2.length];exact .int)⟩
def gj:List D->R D
 |[.int i]=>.ok (.int (if i<0 then-i else i))
 |_=>.bad
def YO:Z5 X (.builtin "abs") gj:=by
 intro H O vs ds Q fr r q;match ds,q with
 |[.int i],q=>obtain⟨v,rfl,z⟩:=CK r;cases z.aa6;exact⟨_,NS,i,rfl,q _ H (Same.refl _) .int⟩
def VE:List D->R D
 |[.int i,.int j]=>.ok (.int (if j>i then j else i))
 |_=>.bad
def DE (hc:X.calm=true):Z5 X (.builtin "max") VE:=by
 intro H O vs ds Q fr r q;match ds,q with
 |[.int i,.int j],q=>obtain⟨v,v',rfl,z,z'⟩:=zy r;cases z.aa6;cases z'.aa6;exact⟨_,HW hc,i,j,rfl,q _ H (Same.refl _) .int⟩
def IX:List D->R D
 |[.lst xs]=>.ok (.tup xs)
 |[.tup xs]=>.ok (.tup xs)
 |_=>.bad
def vO:Z5 X (.type "tuple") IX:=by
 intro H O vs ds Q fr r q;match ds,q with
 |[.lst xs],q=>obtain⟨v,rfl,z⟩:=CK r;obtain⟨p,ys,rfl,h1,h2⟩:=z.aa5;exact⟨_,fE,p,ys,rfl,.inl ⟨h1,λl hl=>q _ _ (j7 hl _) (.tup (T2.of j4) (h2.same<|j7 hl _))⟩⟩
 |[.tup xs],q=>obtain⟨v,rfl,z⟩:=CK r;obtain⟨p,ys,rfl,h1,h2⟩:=z.tupI;exact⟨_,fE,p,ys,rfl,.inr ⟨h1,q _ _ (Same.refl _) (.tup h1 h2)⟩⟩
def mQ:List D->R D
 |[.lst xs]=>.ok (.lst xs)
 |[.tup xs]=>.ok (.lst xs)
 |_=>.bad
def dH:Z5 X (.type "list") mQ:=by
 intro H O vs ds Q fr r q;match ds,q with
 |[.lst xs],q=>obtain⟨v,rfl,z⟩:=CK r;obtain⟨p,ys,rfl,h1,h2⟩:=z.aa5;exact⟨_,gR,p,ys,rfl,.inl h1,λl hl=>q _ _ (j7 hl _) (.lst (L7.of j4) (fr l hl) (h2.same<|j7 hl _))⟩
 |[.tup xs],q=>obtain⟨v,rfl,z⟩:=CK r;obtain⟨p,ys,rfl,h1,h2⟩:=z.tupI;exact⟨_,gR,p,ys,rfl,.inr h1,λl hl=>q _ _ (j7 hl _) (.lst (L7.of j4) (fr l hl) (h2.same<|j7 hl _))⟩
end
section
variable{K:PySem.W.Frag}
def Kp.lst (k:Kp H O H' O'){a:Addr}{xs:List V}(n:¬O a)(h:L7 K H a xs)(hK:∀o,K.lookup a=some o->¬O' a):¬O' a/\L7 K H' a xs:=by
 rcases h with(h|⟨o,h⟩)|h
 ·exact⟨(k _ _ h n).2,.inl (.inl (k _ _ h n).1)⟩
 ·exact⟨(k _ _ h n).2,.inl (.inr ⟨o,(k _ _ h n).1⟩)⟩
 ·obtain⟨o,its,m,h1,h2⟩:=h;exact⟨hK o h1,.inr ⟨o,its,m,h1,h2⟩⟩
def Kp.tup (k:Kp H O H' O')(hO:∀a,O a->∃o,H a=some o/\Mt o){a:Addr}{xs:List V}(h:T2 K H a xs):T2 K H' a xs:=by
 rcases h with(h|⟨o,h⟩)|h
 ·exact .inl (.inl (k _ _ h λz=>by obtain⟨o,q,m⟩:=hO a z;rw[h]at q;cases q;exact m).1)
 ·exact .inl (.inr ⟨o,(k _ _ h λz=>by obtain⟨o,q,m⟩:=hO a z;rw[h]at q;cases q;exact m).1⟩)
 ·exact .inr h
end
def bY (K:PySem.W.Frag)(O:Addr->Prop):Prop:=∀a o,K.lookup a=some o->¬O a
def Kp.rep {K:PySem.W.Frag}{H H':Hp}{O O':Addr->Prop}(k:Kp H O H' O')(hO:∀a,O a->∃o,H a=some o/\Mt o)(hK:bY K O'){v:V}{d:D}(r:Rep K H O v d):Rep K H' O' v d:=
 r.mono (λ_ _ h=>k.tup hO h) (λa _ n h=>k.lst n h λo q=>hK a o q) λa _ n h=>⟨(k a _ h n).2,(k a _ h n).1⟩
def Kp.ab8 {K:PySem.W.Frag}{H H':Hp}{O O':Addr->Prop}(k:Kp H O H' O')(hO:∀a,O a->∃o,H a=some o/\Mt o)(hK:bY K O'){v:List V}{d:List D}(r:Reps K H O v d):Reps K H' O' v d:=
 r.mono (λ_ _ h=>k.tup hO h) (λa _ n h=>k.lst n h λo q=>hK a o q) λa _ n h=>⟨(k a _ h n).2,(k a _ h n).1⟩
inductive Out where
 |nx (ρ:Ev)|rt (d:D)|bk (ρ:Ev)|ct (ρ:Ev)
def RS (X:Cx)(H9:Hp)(O0:Addr->Prop)(H:Hp)(O:Addr->Prop)(r:R Out)(D:Ends):Prop:=match r with
 |.ok (.nx ρ)=>∀ai H' O',EnvOk X.K H9 O0 H' O' ai ρ->bY X.K O'->Kp H O H' O'->D.nx ai H'
 |.ok (.bk ρ)=>∀ai H' O',EnvOk X.K H9 O0 H' O' ai ρ->bY X.K O'->Kp H O H' O'->D.bk ai H'
 |.ok (.ct ρ)=>∀ai H' O',EnvOk X.K H9 O0 H' O' ai ρ->bY X.K O'->Kp H O H' O'->D.ct ai H'
 |.ok (.rt d)=>∀v H',Same H9 H'->Rep X.K H' O0 v d->D.rt v H'
 |.ex e=>∀H',Same H9 H'->XW X e H'
 |.bad=>False
def tS (X:Cx)(H9:Hp)(O0:Addr->Prop)(F:Ev->R Out):TS:=λD σ H=>∃O ρ,EnvOk X.K H9 O0 H O σ ρ/\bY X.K O/\RS X H9 O0 H O (F ρ) D
def oG (X:Cx)(st:Stmt)(F:Ev->R Out):Prop:=∀H9 O0,PS X st (tS X H9 O0 F)
def aZ (X:Cx)(st:List Stmt)(F:Ev->R Out):Prop:=∀H9 O0,uR X st (tS X H9 O0 F)
def WL {X:Cx}{st:Stmt}{t t':TS}(h:PS X st t)(i:∀D σ H,t' D σ H->t D σ H):PS X st t':=λpins s σ H D I q=>h pins s σ H D I (i D σ H q)
def RU {X:Cx}{st:List Stmt}{t t':TS}(h:uR X st t)(i:∀D σ H,t' D σ H->t D σ H):uR X st t':=λpins s σ H D I q=>h pins s σ H D I (i D σ H q)
def BN {X:Cx}{st:Stmt}{t:TS}{F:Ev->R Out}{H9:Hp}{O0:Addr->Prop}(h:PS X st t)(i:∀D σ H O ρ,EnvOk X.K H9 O0 H O σ ρ->bY X.K O->RS X H9 O0 H O (F ρ) D->t D σ H):PS X st (tS X H9 O0 F):=WL h λD σ H ⟨O,ρ,E,f,q⟩=>i D σ H O ρ E f q
def lz {X:Cx}{st:List Stmt}{t:TS}{F:Ev->R Out}{H9:Hp}{O0:Addr->Prop}(h:uR X st t)(i:∀D σ H O ρ,EnvOk X.K H9 O0 H O σ ρ->bY X.K O->RS X H9 O0 H O (F ρ) D->t D σ H):uR X st (tS X H9 O0 F):=RU h λD σ H ⟨O,ρ,E,f,q⟩=>i D σ H O ρ E f q
def RS.grow {X:Cx}{H9:Hp}{O0:Addr->Prop}{H H1:Hp}{O O1:Addr->Prop}{r:R Out}{D:Ends}(h:RS X H9 O0 H O r D)(k:Kp H O H1 O1):RS X H9 O0 H1 O1 r D:=by
 cases r with
 |ok o=>
  cases o with
  |nx ρ=>exactλai H' O' E f q=>h ai H' O' E f (k.trans q)
  |bk ρ=>exactλai H' O' E f q=>h ai H' O' E f (k.trans q)
  |ct ρ=>exactλai H' O' E f q=>h ai H' O' E f (k.trans q)
  |rt d=>exact h
 |ex e=>exact h
 |bad=>exact h
def C1 (r:R Out)(F:Ev->R Out):R Out:=match r with
 |.ok (.nx ρ)=>F ρ
 |r=>r
section
variable{st:Stmt} {rest:List Stmt}
def RS.seq {H9:Hp}{O0:Addr->Prop}{H:Hp}{O:Addr->Prop}{r:R Out}{D:Ends}(h:RS X H9 O0 H O (C1 r G) D):RS X H9 O0 H O r {D with nx:=tS X H9 O0 G D}:=by
 cases r with
 |ok o=>
  cases o with
  |nx ρ=>exactλai H' O' E f k=>⟨O',ρ,E,f,(show RS X H9 O0 H O (G ρ) D from h).grow k⟩
  |bk ρ=>exact h
  |ct ρ=>exact h
  |rt d=>exact h
 |ex e=>exact h
 |bad=>exact h
def p8:aZ X [] (λρ=>.ok (.nx ρ)):=λH9 O0=>lz SA λD σ H O ρ E f q=>q σ H O E f (Kp.refl _ _)
def c6 (h1:oG X st F)(h2:aZ X rest G):aZ X (st::rest) (λρ=>C1 (F ρ) G):=λH9 O0=>lz (IW (h1 H9 O0)<|h2 H9 O0) λD σ H O ρ E f q=>⟨O,ρ,E,f,RS.seq q⟩
def d8 (h1:oG X st F):aZ X [st] F:=λH9 O0=>DG (h1 H9 O0)
def j2 {e:Expr}{f:Ev->R D}(he:PD X e f):oG X (.Return (some e) pos) (λρ=>(f ρ).bind λd=>.ok (.rt d)):=λH9 O0=>BN (OH he) λD σ H O ρ E fk q=>⟨H9,O0,O,ρ,E,by
 cases e1:f ρ with
 |ok d=>rw[e1]at q;exactλv H' s r=>q v H' (E.same.trans s) (r.sub E.sub)
 |ex x=>rw[e1]at q;exactλH' s=>q H' (E.same.trans s)
 |bad=>rw[e1]at q;exact q⟩
def j3 (i:Nat){x:Str}{e:Expr}{f:Ev->R D}{pos':Pos}(he:PD X e f)(hN:X.N.Nodup)(hi:X.N[i]?=some x:=by rfl)(hx:Loc X.env.scope x:=by first|exact aCN rfl|exact aBS rfl)
  (hs:swapsWith e (some (.Name x pos')) pos.line X.env=pure false:=by rfl) (hf:X.fn x=true\/X.env.scope.names.lookup x=some .local:=by first|exact .inl rfl|exact .inr rfl|assumption):
  oG X (.Assign [.Name x pos'] e pos) (λρ=>(f ρ).bind λd=>.ok (.nx (ρ.set i (.v d)))):=λH9 O0=>BN (LU hN hi hx he hs hf) λD σ H O ρ E fk q=>⟨H9,O0,O,ρ,E,by
 cases e1:f ρ with
 |ok d=>rw[e1]at q;exactλv H' s r=>q _ H' O ((E.grow s).set i r) fk (Kp.of s)
 |ex x=>rw[e1]at q;exactλH' s=>q H' (E.same.trans s)
 |bad=>rw[e1]at q;exact q⟩
def A2 {c:Expr}{a b:List Stmt}{fc:Ev->R Bool}(hc:IQ X c fc)(ha:aZ X a F)(hb:aZ X b G):oG X (.If c a b pos) (λρ=>(fc ρ).bind λt=>if t=true then F ρ else G ρ):=λH9 O0=>BN (ZR hc (ha H9 O0)<|hb H9 O0) λD σ H O ρ E fk q=>⟨H9,O0,O,ρ,E,by
 cases e1:fc ρ with
 |ok t=>
  rw[e1]at q;intro H' s;cases t with
  |true=>rw[if_pos rfl];exact⟨O,ρ,E.grow s,fk,RS.grow q (Kp.of s)⟩
  |false=>rw[if_neg aAT];exact⟨O,ρ,E.grow s,fk,RS.grow q (Kp.of s)⟩
 |ex x=>rw[e1]at q;exactλH' s=>q H' (E.same.trans s)
 |bad=>rw[e1]at q;exact q⟩
def VB (K:PySem.W.Frag)(J:It)(H:Hp)(O:Addr->Prop)(ds:List D):Prop:=∀H2 O2,Kp H O H2 O2->bY K O2->(∀a,O a->∃o,H a=some o/\Mt o)->(∀a,O2 a->∃o,H2 a=some o/\Mt o)->∀i:Nat,
 (∀d,ds[i]?=some d->J.go i H2/\∀x H',J.yld i H2 x H'->Same H2 H'/\Rep K H' O2 x d)/\(ds[i]?=none->J.stop i H2)
def tI (X:Cx)(f:Ev->R (List D)):TI:=λσ H R=>∃H9 O0 O ρ,EnvOk X.K H9 O0 H O σ ρ/\bY X.K O/\match f ρ with
 |.ok ds=>∀J H',Same H H'->VB X.K J H' O ds->R J H'
 |.ex e=>∀H',Same H H'->XW X e H'
 |.bad=>False
def VJ (X:Cx)(tg z9:Expr)(f:Ev->R (List D)):Prop:=PI X tg z9 (tI X f)
def KQ (h:PI X tg z9 t)(i:∀σ H R,t' σ H R->t σ H R):PI X tg z9 t':=λpins s σ H R I q=>h pins s σ H R I (i σ H R q)
def S1:D->R (List D)
 |.lst xs=>.ok xs
 |_=>.bad
def tY:D->R (List D)
 |.tup xs=>.ok xs
 |_=>.bad
def p7 (h:PD X z9 f):VJ X tg z9 (λρ=>(f ρ).bind S1):=KQ (SM h) λσ H R ⟨H9,O0,O,ρ,E,fk,q⟩=>⟨H9,O0,O,ρ,E,by
 dsimp only at q;cases e:f ρ with
 |ok d=>
  rw[e]at q;cases d with
  |lst xs=>
   intro v H' s r;cases r with
   |lst h n r=>
    rename_i a vs;refine⟨a,rfl,⟨vs,h⟩,q (yw X.K a) H' s ?_⟩;intro H2 O2 k hK hO hO2 i;obtain⟨n2,h2⟩:=k.lst n h λo q=>hK a o q;have r2:=k.ab8 hO hK r;refine⟨λd e=>?_,λe=>⟨vs,h2,by rw[r.length];exact aBI.mp e⟩⟩;obtain⟨v,h3,h4⟩:=r2.get e;exact⟨⟨vs,v,h2,h3⟩,λx H3 ⟨e1,e2⟩=>by subst e1;have:=e2 vs h2;rw[h3]at this;cases this;exact⟨Same.refl _,h4⟩⟩
  |_=>exact aAk q
 |ex x=>rw[e]at q;exact q
 |bad=>rw[e]at q;exact q⟩
def EC (h:PD X z9 f):VJ X tg z9 (λρ=>(f ρ).bind tY):=KQ (YU h) λσ H R ⟨H9,O0,O,ρ,E,fk,q⟩=>⟨H9,O0,O,ρ,E,by
 dsimp only at q;cases e:f ρ with
 |ok d=>
  rw[e]at q;cases d with
  |tup xs=>
   intro v H' s r;cases r with
   |tup h r=>
    rename_i a vs;refine⟨a,rfl,⟨vs,h⟩,q (yy X.K a) H' s ?_⟩;intro H2 O2 k hK hO hO2 i;have h2:=k.tup hO h;have r2:=k.ab8 hO hK r;refine⟨λd e=>?_,λe=>⟨vs,h2,by rw[r.length];exact aBI.mp e⟩⟩;obtain⟨v,h3,h4⟩:=r2.get e;exact⟨⟨vs,v,h2,h3⟩,λx H3 ⟨e1,e2⟩=>by subst e1;have:=e2 vs h2;rw[h3]at this;cases this;exact⟨Same.refl _,h4⟩⟩
  |_=>exact aAk q
 |ex x=>rw[e]at q;exact q
 |bad=>rw[e]at q;exact q⟩
def ZC (lo c:Int)(n:Nat):It:=⟨λi _=>i<n,λi H x H'=>H'=H/\x=.int (lo+i*c),λi _=>n<=i⟩
def xL {P:Program}{w:World}{K:PySem.W.Frag}{tg:Expr}(it:Addr)(lo c:Int)(n:Nat):Turn P w K tg (ZC lo c n) [it] it (λi h=>IsRangeIter h it (lo+(i:Nat)*c) ((n:Int)-(i:Nat)) c)where
 mem:=by simp
 obj:=λi h st b hb=>by
  have e:b=it:=by simpa using hb
  subst e;exact⟨_,st,λv z=>by have z':Data.fields _=Data.cell v:=z;cases z'⟩
 keep:=λi h h' st k=>k it (by simp) _ st
 item:=by intro X hP hw hK hc i pins s σ H E I hf st hg;subst hP hw hK;obtain⟨f0,f1,f2,f3,f4,f5⟩:=hf it (by simp);have W:=Walks.range (prog:=X.prog) (w:=X.w) (I.ok.hd hc) it lo c n;refine W.item i s _ _ hg st λv h' tk hv st' kk=>?_;obtain⟨t,rfl⟩:=hv;have I1:Inv X pins σ H {s with heap:=h',toks:=tk}:=I.turned (λb o hb e=>kk b o (by simpa using hb) e) f0 f1 f3 f4 f5;exact⟨_,rfl,ME (s:={s with heap:=h',toks:=tk}) (n:= "range_iterator") st' rfl rfl (by decide) ⟨.int (lo+i*c),H,I1,⟨t,rfl⟩,⟨rfl,rfl⟩,st',λb hb=>(hf b hb).1⟩⟩
 done:=by intro X hP hw hK hc i pins s σ H E I hf st hg;subst hP hw hK;obtain⟨f0,f1,f2,f3,f4,f5⟩:=hf it (by simp);exact wpAny_pyNext_range_end (I.ok.hd hc) st (by have:n<=i:=hg;lia) λh' eb=>⟨rfl,I.turned (t':=s.toks) (λb o hb e=>eb b o hb e) f0 f1 f3 f4 f5⟩
 self:=λ_ _ _ _ _ st h=>wpAny_pyIter_rangeiter st h
def uM (lo c:Int)(n:Nat):List D:=(aBy n).map λ(k:Nat)=>D.int (lo+(k:Int)*c)
def iZ (K:PySem.W.Frag)(H:Hp)(O:Addr->Prop)(lo c:Int)(n:Nat):VB K (ZC lo c n) H O (uM lo c n):=by
 intro H2 O2 k hK hO hO2 i;unfold uM;rw[aAG];by_cases hi:i<n
 ·rw[List.getElem?_range hi];refine⟨λd e=>?_,λe=>(by cases e)⟩;cases e;exact⟨hi,λx H' ⟨e1,e2⟩=>by subst e1 e2;exact⟨Same.refl _,.int⟩⟩
 ·rw[aBI.mpr (by simpa using hi)];exact⟨λd e=>(by cases e),λ_=>aEe hi⟩
def gA (a b c:Int):Nat:=if a<b then((b-a-1)/c+1).toNat else 0
def GG (hc:0<c):aCq a b c=(gA a b c:Int):=by
 unfold aCq gA;rw[if_pos (by lia)];split
 ·have:0<=(b-a-1)/c:=Int.ediv_nonneg (by lia) (by lia)
  lia
 ·rfl
def GY (hc:0<c)(jc:c<2^30)(ha:-(2^60)<=a)(ha':a<2^60)(hb:-(2^60)<=b)(ja:b<2^60):aFV a b c=true:=by
 unfold aFV;have e:aCq a b c=if a<b then(b-a-1)/c+1 else 0:=by unfold aCq;rw[if_pos (by lia)]
 rw[e];have h1:a<b->(b-a-1)/c<=b-a-1:=λh=>Int.ediv_le_self _ (by lia);have h2:a<b->0<=(b-a-1)/c:=λh=>Int.ediv_nonneg (by lia) (by lia);have h3:a<b->(b-a-1)/c*c<=b-a-1:=λh=>Int.ediv_mul_le _ (by lia);simp only[Builtin.Range.rangeFitsLong,aAI,Bool.or_eq_true,decide_eq_true_eq,beq_iff_eq,show c>0 by lia,if_true];split
 ·rename_i h;have h1:=h1 h;have h2:=h2 h;have h3:=h3 h;generalize(b-a-1)/c=q at*
  lia
 ·lia
def pD (a b c:Int):Prop:=0<c/\c<2^30/\-(2^60)<=a/\a<2^60/\-(2^60)<=b/\b<2^60
instance(a b c:Int):Decidable (pD a b c):=inferInstanceAs (Decidable<|_/\_)
def gC:List D->R (List D)
 |[.int b]=>if pD 0 b 1 then .ok (uM 0 1 (gA 0 b 1))else .bad
 |[.int a,.int b]=>if pD a b 1 then .ok (uM a 1 (gA a b 1))else .bad
 |[.int a,.int b,.int c]=>if pD a b c then .ok (uM a c (gA a b c))else .bad
 |_=>.bad
def jB {R:It->Hp->Prop}{E:A3}(I:Inv X pins σ H s)(h:pD a b c)(q:R (ZC a c (gA a b c)) H):wpAny (model X.prog X.w) X.A (pyIter (.ref s.heap.objs.size)) (qy X pins σ tg R) E {s with heap:=s.heap.push {cls:=.type "range",data:=.fields #[.int a t,.int b u,.int c v]},toks:=tk}:=by
 obtain⟨h1,h2,h3,h4,h5,h6⟩:=h;refine wpAny_pyIter_range (IsRange.new ..) (GY h1 h2 h3 h4 h5 h6) ?_;have I1:Inv X pins σ H {s with heap:=s.heap.push {cls:=.type "range",data:=.fields #[.int a t,.int b u,.int c v]},toks:=tk}:=I.kept λb o e=>aAc _ e;refine⟨(s.heap.push {cls:=.type "range",data:=.fields #[.int a t,.int b u,.int c v]}).objs.size,[(s.heap.push {cls:=.type "range",data:=.fields #[.int a t,.int b u,.int c v]}).objs.size],_,_,H,rfl,
  I1.kept (t':=tk) λb o e=>aAc _ e,xL _ a c (gA a b c),?_,λbb hb=>?_,q⟩
 ·have e1:a+((0:Nat):Int)*c=a:=by simp
  have e2:((gA a b c:Nat):Int)-((0:Nat):Int)=aCq a b c:=by rw[GG h1];simp
  show IsRangeIter _ _ (a+((0:Nat):Int)*c) (((gA a b c:Nat):Int)-((0:Nat):Int)) c;rw[e1,e2];exact aAp _ rfl
 ·have e:bb=(s.heap.push {cls:=.type "range",data:=.fields #[.int a t,.int b u,.int c v]}).objs.size:=by simpa using hb
  subst e;exact I1.ae4 (aAg _) (I1.hok.fresh<|aAg _)
def KH {R:It->Hp->Prop}{O:Addr->Prop}(I:Inv X pins σ H s)(r:Paired (A5 X.K H O) vs ds)(ru:m6 vs us)(h:gC ds=.ok au)(q:∀J,VB X.K J H O au->R J H):wpAny (model X.prog X.w) X.A (call (.type "range") us) (λv s1=>wpAny (model X.prog X.w) X.A (pyIter v) (qy X pins σ tg R) X.xe s1) X.xe s:=by
 match ds,h with
 |[.int b],h=>
  obtain⟨v,rfl,z⟩:=CK r;cases z.aa6;obtain⟨u,rfl,t,rfl⟩:=vals1 ru;simp only[gC]at h;split at h
  ·rename_i hk;cases h;exact call_range_1 (jB I hk<|q _<|iZ _ _ _ _ _ _)
  ·cases h
 |[.int a,.int b],h=>
  obtain⟨v,v',rfl,z,z'⟩:=zy r;cases z.aa6;cases z'.aa6;obtain⟨u,u',rfl,⟨t,rfl⟩,⟨t',rfl⟩⟩:=vals2 ru;simp only[gC]at h;split at h
  ·rename_i hk;cases h;exact call_range_2 (jB I hk<|q _<|iZ _ _ _ _ _ _)
  ·cases h
 |[.int a,.int b,.int c],h=>
  cases r with
  |cons z1 r=>
   obtain⟨v,v',rfl,z,z'⟩:=zy r;cases z1.aa6;cases z.aa6;cases z'.aa6;cases ru with
   |cons w1 ru=>
    obtain⟨u,u',rfl,⟨t,rfl⟩,⟨t',rfl⟩⟩:=vals2 ru;obtain⟨t1,rfl⟩:=w1;simp only[gC]at h;split at h
    ·rename_i hk;cases h;have kr:=hk;obtain⟨h1,h2,_⟩:=kr;exact call_range_3 (by lia) (jB (tk:=s.toks) I hk<|q _<|iZ _ _ _ _ _ _) (.inl (PyProof.noPylong_small (by lia)))
    ·cases h
def kH {tg e:Expr}{es:List Expr}{p:Pos}{f:Ev->R (List D)}(ha:YR X (e::es) f)(hg:Gl X "range":=by rfl)(hm:X.mg "range"=none:=by assumption)
  (he:starEach (e::es) X.env=(false,eval e X.env)::starEach es X.env:=by rfl) (bf:(backTo pos (starEach es X.env)).any (·.1)=false:=by rfl):
  VJ X tg (.Call (.Name "range" p) (e::es) [] pos) (λρ=>(f ρ).bind gC):=by
 intro pins s σ H Q I ⟨H9,O0,O,ρ,E,fk,q⟩;dsimp only at q;refine Call_ (K9 I hg hm boot_range<|aBb (D8 (ha pos pins s σ H (λvs H1=>∃ds au,Same H H1/\Paired (A5 X.K H1 O) vs ds/\gC ds=.ok au/\∀J,VB X.K J H1 O au->Q J H1) I ⟨H9,O0,O,ρ,E,?_⟩) λus s1 ⟨vs,H1,I1,r1,ds,au,sm,r,h1,h2⟩=>?_) he bf)
 ·cases e1:f ρ with
  |ok ds=>
   rw[e1]at q;intro vs H1 s1 r1;rw[R.aa0]at q;cases e2:gC ds with
   |ok au=>rw[e2]at q;exact⟨ds,au,s1,r1,e2,λJ hJ=>q J H1 s1 hJ⟩
   |ex x=>
    rw[e2]at q;match ds,e2 with
    |[.int b],e2=>simp only[gC]at e2;split at e2<;>cases e2
    |[.int a,.int b],e2=>simp only[gC]at e2;split at e2<;>cases e2
    |[.int a,.int b,.int c],e2=>simp only[gC]at e2;split at e2<;>cases e2
   |bad=>rw[e2]at q;exact q.elim
  |ex x=>rw[e1]at q;exact q
  |bad=>rw[e1]at q;exact q
 ·exact KH I1 r r1 h1 h2
def tG (X:Cx)(G:D->Ev->R Ev):TG:=λv σ H Q=>∃H9 O0 O ρ d ar,EnvOk X.K H9 O0 H O σ ρ/\Rep X.K H O v d/\G d ρ=.ok ar/\∀ai H',Same H H'->EnvOk X.K H9 O0 H' O ai ar->Q ai H'
def KS (X:Cx)(tg:Expr)(G:D->Ev->R Ev):Prop:=PG X tg (tG X G)
def XJ (h:PG X tg t)(i:∀v σ H Q,t' v σ H Q->t v σ H Q):PG X tg t':=λpins s σ H v u Q I r q=>h pins s σ H v u Q I r (i v σ H Q q)
def l5 (i:Nat)(hN:X.N.Nodup)(hi:X.N[i]?=some x:=by rfl)(hx:Loc X.env.scope x:=by first|exact aCN rfl|exact aBS rfl)(hf:X.fn x=true\/X.env.scope.names.lookup x=some .local:=by first|exact .inl rfl|exact .inr rfl|assumption):
  KS X (.Name x pos) (λd ρ=>.ok (ρ.set i (.v d))):=XJ (TY hN hi hx hf) λv σ H Q ⟨H9,O0,O,ρ,d,ar,E,r,e,q⟩=>by
 cases e;exact q _ H (Same.refl _) (E.set i r)
def tGs (X:Cx)(G:List D->Ev->R Ev):YG:=λvs σ H Q=>∃H9 O0 O ρ ds ar,EnvOk X.K H9 O0 H O σ ρ/\Reps X.K H O vs ds/\G ds ρ=.ok ar/\∀ai H',Same H H'->EnvOk X.K H9 O0 H' O ai ar->Q ai H'
def PK (X:Cx)(tgs:List Expr)(G:List D->Ev->R Ev):Prop:=ZI X tgs (tGs X G)
def EW {tg:List Expr}{t t':YG}(h:ZI X tg t)(i:∀v σ H Q,t' v σ H Q->t v σ H Q):ZI X tg t':=λpins s σ H v u Q I r q=>h pins s σ H v u Q I r (i v σ H Q q)
def fD:List D->Ev->R Ev
 |[],ρ=>.ok ρ
 |_,_=>.bad
def G2 (G:D->Ev->R Ev)(Gs:List D->Ev->R Ev):List D->Ev->R Ev
 |d::ds,ρ=>(G d ρ).bind λar=>Gs ds ar
 |_,_=>.bad
def U8:PK X [] fD:=EW QC λvs σ H Q ⟨H9,O0,O,ρ,ds,ar,E,r,e,q⟩=>by
 cases r with
 |nil=>cases e;exact⟨rfl,q σ H (Same.refl _) E⟩
 |cons _ _=>cases e
def p5 {e:Expr}{es:List Expr}{G:D->Ev->R Ev}{Gs:List D->Ev->R Ev}(h1:KS X e G)(h2:PK X es Gs)
  (hs:(assignEach (e::es) X.env).map (·.2)=assign e X.env::(assignEach es X.env).map (·.2):=by rfl):PK X (e::es) (G2 G Gs):=EW (KN h1 h2 hs) λvs σ H Q ⟨H9,O0,O,ρ,ds,ar,E,r,e,q⟩=>by
 cases r with
 |nil=>cases e
 |@cons v d vs ds r rr=>
  simp only[G2]at e;cases e1:G d ρ with
  |ok ρ1=>rw[e1]at e;exact⟨v,vs,rfl,H9,O0,O,ρ,d,ρ1,E,r,e1,λσ1 H1 s1 E1=>⟨H9,O0,O,ρ1,ds,ar,E1,rr.same s1,e,λve H2 s2 E2=>q ve H2 (s1.trans s2) E2⟩⟩
  |ex x=>rw[e1]at e;cases e
  |bad=>rw[e1]at e;cases e
def bV (n:Nat)(Gs:List D->Ev->R Ev):D->Ev->R Ev
 |.tup ds,ρ=>if ds.length=n then Gs ds ρ else .bad
 |.lst ds,ρ=>if ds.length=n then Gs ds ρ else .bad
 |_,_=>.bad
end
section
theorem rT (ah:t≠it):∀(n i:Nat) (s:Shared) (Q:List Value->Shared->Prop),s.heap.IsListIter it t i->s.heap.IsList t items->i+n<=items.size->
  (∀h',h'.IsListIter it t (i+n)->Heap.SameBut it s.heap h'->Q ((items.toList.drop i).take n) {s with heap:=h'})->wpAny (model prog w) A (draw (.ref it) n) Q E s
 |0,i,s,Q,hit,_,_,hQ=>by show wpAny _ _ (pure []) Q E s;exact aAb (by simpa using hQ s.heap hit (aFc ..))
 |n+1,i,s,Q,hit,ht,hle,hQ=>by
  have ao:i<items.size:=by omega
  show wpAny _ _ (pyNext (.ref it)>>=_) Q E s;refine aAa (wpAny_pyNext_list_item hit ht (x:=items[i]) (by simp[ao]) λh₁ hit0 ip=>?_);refine aAa (aAK (rT ah n (i+1) _ _ hit0 (ht.extBut ip.extBut ah) (by omega) λgm hit1 ma=>aAb ?_));have hd:items.toList.drop i=items[i]::items.toList.drop (i+1):=by simp[aDx,ao]
  have:=hQ gm (by rw[show i+(n+1)=i+1+n by omega];exact hit1) (ip.trans ma);rw[hd,List.take_succ_cons]at this;exact this
def kN {Q:List Value->Shared->Prop}(hh:A.handled=none)(ht:s.heap.IsList t items)(hQ:∀h',Heap.ExtBut s.heap.objs.size s.heap h'->Q items.toList {s with heap:=h'}):wpAny (model prog w) A (unpackItems (.ref t) items.size none) Q E s:=by
 have ao:t≠s.heap.objs.size:=by obtain⟨o,ho,_⟩:=ht;exact aAj (aAf ho)
 unfold unpackItems;refine aAa ?_
 ·unfold notIterableAtAll;refine aAa (aBw ht.typeIs slot_list_iter.lookup ?_);refine aAb ?_;simp only[aAs,if_false];refine aAa (aAK<|aDs ht ?_);have ht0:(s.heap.push {cls:=.type "list_iterator",data:=.fields #[.ref t,.int 0 0]}).IsList t items:=by obtain⟨o,ho,r⟩:=ht;exact⟨o,aAc _ ho,r⟩
  refine aAa (aAK (rT ao items.size 0 _ _ ⟨_,aAp _ rfl,rfl,rfl⟩ ht0 (by omega) λh₁ hit0 ip=>?_));have kg:List.take items.size (List.drop 0 items.toList)=items.toList:=by rw[aFT];exact aDQ (by simp)
  rw[kg];rw[if_neg (by simp)];have ht3:h₁.IsList t items:=ht0.extBut ip.extBut ao;refine aAa (aAK (wpAny_pyNext_list_end hh hit0 ht3 (by simp) λgm he3=>?_));simp only[Option.isSome_none,aAs,if_false];refine aAb (hQ gm λb o hb e=>he3 b o hb (ip.extBut b o hb<|aAc _ e))
def iS {x1}{Q:Unit->Shared->Prop}(hh:A.handled=none)(ht:s.heap.IsList t items)(hn:(assignEach elts env).length=items.size)(hstar:(assignEach elts env).findIdx? (·.1)=none)(h:∀h',Heap.ExtBut s.heap.objs.size s.heap h'->wpAny (model prog w) A (assignInOrder ((assignEach elts env).map (·.2)) items.toList) Q E {s with heap:=h'}):
  wpAny (model prog w) A (assign (.Tuple elts x1 pos) env (.ref t)) Q E s:=by
 rw[assign_Tuple];refine aAa (aDJ ?_);unfold unpack;rw[hn,hstar];exact aAa (aAK<|kN hh ht h)
end
section
def aX (hc:X.calm=true)(h:PK X es Gs)(hn:(assignEach es X.env).length=n:=by rfl)(gr:(assignEach es X.env).findIdx? (·.1)=none:=by rfl):KS X (.Tuple es k pos) (bV n Gs):=by
 intro pins s σ H v u Q I r ⟨H9,O0,O,ρ,d,ar,E,rd,e,q⟩;cases rd with
 |@tup a vs ds hq rs=>
  cases r;simp only[bV]at e;split at e
  ·rename_i hl;obtain⟨its,rv,ht,hz⟩:=I.tuple hq;refine assign_Tuple_tuple (I.ok.hd hc) ht (by simp[hn,<-hl,<-rs.length,rv.length]) gr λh' hx=>?_;have I1:Inv X pins σ H {s with heap:=h'}:=I.kept (t':=s.toks) λb o e=>hx b o (aAj<|aAf e) e;exact h pins _ σ H vs _ Q I1 (by simpa using rv) ⟨H9,O0,O,ρ,ds,ar,E,rs,e,q⟩
  ·cases e
 |@lst a vs ds hq _ rs=>
  cases r;simp only[bV]at e;split at e
  ·rename_i hl;obtain⟨its,rv,ht,hz⟩:=I.list hq;refine iS (I.ok.hd hc) ht.isList (by simp[hn,<-hl,<-rs.length,rv.length]) gr λh' hx=>?_;have I1:Inv X pins σ H {s with heap:=h'}:=I.kept (t':=s.toks) λb o e=>hx b o (aAj<|aAf e) e;exact h pins _ σ H vs _ Q I1 (by simpa using rv) ⟨H9,O0,O,ρ,ds,ar,E,rs,e,q⟩
  ·cases e
 |_=>cases e
def GR (f:Ev->R D)(G:D->Ev->R Ev):Ev->R Out:=λρ=>(f ρ).bind λd=>match G d ρ with
 |.ok ar=>.ok (.nx ar)
 |_=>.bad
def uB (he:PD X e f)(hg:KS X tg G)(hs:swapsWithSole [tg] e pos.line X.env=pure false:=by rfl)(hw:swappedStores [tg] e X.env=pure none:=by rfl)(h1:(assignEach [tg] X.env).map (·.2)=[assign tg X.env]:=by rfl):oG X (.Assign [tg] e pos) (GR f G):=λH9 O0=>BN (BY he hg hs hw h1) λD σ H O ρ E fk q=>⟨H9,O0,O,ρ,E,by
 unfold GR at q;cases e1:f ρ with
 |ok d=>
  rw[e1,R.aa0]at q;intro v H' s r;cases e2:G d ρ with
  |ok ar=>rw[e2]at q;exact⟨H9,O0,O,ρ,d,ar,E.grow s,r,e2,λai H2 s2 E2=>q ai H2 O E2 fk (Kp.of<|s.trans s2)⟩
  |ex x=>rw[e2]at q;exact aAk q
  |bad=>rw[e2]at q;exact aAk q
 |ex x=>rw[e1]at q;exactλH' s=>q H' (E.same.trans s)
 |bad=>rw[e1]at q;exact q⟩
def NW (i j:Nat){kt k2 GB}(hc:X.calm=true)(hN:X.N.Nodup)(ha:IN X [a,b] f)(hi:X.N[i]?=some x:=by rfl)(hj:X.N[j]?=some y:=by rfl)(jm:i≠j:=by decide)(hx:X.env.scope.names.lookup x=some .local:=by rfl)(hy:X.env.scope.names.lookup y=some .local:=by rfl)(hw:swappedStores [.Tuple [.Name x px,.Name y py] kt pt] (.Tuple [a,b] k2 GB) X.env=pure (some [x,y]):=by rfl)(hs:swapsWithSole [.Tuple [.Name x px,.Name y py] kt pt] (.Tuple [a,b] k2 GB) pos.line X.env=pure false:=by rfl):
  oG X (.Assign [.Tuple [.Name x px,.Name y py] kt pt] (.Tuple [a,b] k2 GB) pos) (λρ=>(f ρ).bind λds=>match ds with
   |[d,d']=>.ok (.nx ((ρ.set i (.v d)).set j (.v d')))
   |_=>.bad):=λH9 O0=>BN (XR hc hN hi hj jm hx hy ha hw hs) λD σ H O ρ E fk q=>⟨H9,O0,O,ρ,E,by
 cases e1:f ρ with
 |ok ds=>
  rw[e1,R.aa0]at q;intro vs H' s r;cases r with
  |nil=>exact aAk q
  |cons r1 r=>
   cases r with
   |nil=>exact aAk q
   |cons r2 r=>
    cases r with
    |nil=>exact⟨_,_,rfl,q _ H' O (((E.grow s).set i r1).set j r2) fk (Kp.of s)⟩
    |cons _ _=>exact aAk q
 |ex x=>rw[e1]at q;exactλH' s=>q H' (E.same.trans s)
 |bad=>rw[e1]at q;exact q⟩
def P1 (G:D->Ev->R Ev)(F:Ev->R Out):List D->Ev->R Out
 |[],ρ=>.ok (.nx ρ)
 |d::ds,ρ=>match G d ρ with
  |.ok ρ1=>match F ρ1 with
   |.ok (.nx ρ2)=>P1 G F ds ρ2
   |.ok (.ct ρ2)=>P1 G F ds ρ2
   |.ok (.bk ρ2)=>.ok (.nx ρ2)
   |r=>r
  |_=>.bad
def J0 (hp:PassesOwn (model X.prog X.w) X.A X.env X.xe)(hc:X.calm=true)(hi:VJ X tg z9 f)(hg:KS X tg G)(hb:aZ X body F)(hs:∀x,foldedSetIterable z9 X.env x=pure x:=by intro _;rfl):oG X (.For tg z9 body [] pos) (λρ=>(f ρ).bind λds=>P1 G F ds ρ):=λH9 O0=>BN (VW hp hc hi hg (hb H9 O0) hs) λD σ H O ρ E fk q=>⟨H9,O0,O,ρ,E,fk,by
 cases e1:f ρ with
 |ex x=>rw[e1]at q;exactλH' s=>q H' (E.same.trans s)
 |bad=>rw[e1]at q;exact q
 |ok ds=>
  rw[e1,R.aa0]at q;intro J H1 s1 hJ;refine⟨λi m ai H'=>m=ds.length-i/\i<=ds.length/\∃O' ar,EnvOk X.K H9 O0 H' O' ai ar/\bY X.K O'/\Kp H1 O H' O'/\RS X H9 O0 H' O' (P1 G F (ds.drop i) ar) D,⟨ds.length,by simp,aBc _,O,ρ,E.grow s1,fk,Kp.refl _ _,?_⟩,?_⟩
  ·rw[aFT];exact q.grow (Kp.of s1)
  ·rintro i m ai H' ⟨rfl,hi,O',ar,E',fk',k',q'⟩;have hit:=hJ H' O' k' fk' (E.grow s1).trk E'.trk i;by_cases ao:i<ds.length
   ·obtain⟨go,yl⟩:=hit.1 ds[i] (aAh ao);refine .inr ⟨go,λve H2=>∃O2 ρ2,EnvOk X.K H9 O0 H2 O2 ve ρ2/\bY X.K O2/\Kp H1 O H2 O2/\RS X H9 O0 H2 O2 (P1 G F (ds.drop<|i+1) ρ2) D,λve H2 p=>⟨ds.length-(i+1),by omega,rfl,ao,p⟩,λx H2 y=>?_⟩;obtain⟨s2,r2⟩:=yl x H2 y;rw[aDx ao,P1]at q';cases e2:G ds[i] ar with
    |ex x=>rw[e2]at q';exact(show False from q').elim
    |bad=>rw[e2]at q';exact(show False from q').elim
    |ok ρ1=>
     rw[e2]at q';dsimp only at q';refine⟨H9,O0,O',ar,ds[i],ρ1,E'.grow s2,r2,e2,λql H3 s3 E3=>⟨O',ρ1,E3,fk',?_⟩⟩;have kk:Kp H' O' H3 O':=Kp.of (s2.trans s3);cases e3:F ρ1 with
     |ex x=>rw[e3]at q';exact q'
     |bad=>rw[e3]at q';exact q'
     |ok o=>
      rw[e3]at q';cases o with
      |nx ρ2=>exactλσ4 H4 O4 E4 f4 k4=>⟨O4,ρ2,E4,f4,k'.trans (kk.trans k4),RS.grow q' (kk.trans k4)⟩
      |ct ρ2=>exactλσ4 H4 O4 E4 f4 k4=>⟨O4,ρ2,E4,f4,k'.trans (kk.trans k4),RS.grow q' (kk.trans k4)⟩
      |bk ρ2=>exactλσ4 H4 O4 E4 f4 k4=>q' σ4 H4 O4 E4 f4 (kk.trans k4)
      |rt d=>exact q'
   ·have e:i=ds.length:=by omega
    subst e;rw[List.drop_length,P1]at q';exact .inl ⟨hit.2 (by simp),q' ai H' O' E' fk' (Kp.refl _ _)⟩⟩
def Q8 (c:Ev->R Bool)(F:Ev->R Out):Nat->Ev->R Out
 |0,_=>.bad
 |n+1,ρ=>(c ρ).bind λb=>if b=true then(match F ρ with
  |.ok (.nx ρ2)=>Q8 c F n ρ2
  |.ok (.ct ρ2)=>Q8 c F n ρ2
  |.ok (.bk ρ2)=>.ok (.nx ρ2)
  |r=>r)else .ok (.nx ρ)
def iY (n:Ev->Nat)(hp:PassesOwn (model X.prog X.w) X.A X.env X.xe)(hc:IQ X c fc)(hb:aZ X body F):oG X (.While c body [] pos) (λρ=>Q8 fc F (n ρ) ρ):=λH9 O0=>BN (MC hp hc<|hb H9 O0) λD σ H O ρ E fk q=>by
 refine⟨λm ai H'=>∃O' ar,EnvOk X.K H9 O0 H' O' ai ar/\bY X.K O'/\RS X H9 O0 H' O' (Q8 fc F m ar) D,⟨n ρ,O,ρ,E,fk,q⟩,?_⟩;rintro m ai H' ⟨O',ar,E',fk',q'⟩;cases m with
 |zero=>exact(show False from q').elim
 |succ m=>
  rw[Q8]at q';refine⟨H9,O0,O',ar,E',?_⟩;cases e1:fc ar with
  |ex x=>rw[e1]at q';exactλH2 s2=>q' H2 (E'.same.trans s2)
  |bad=>rw[e1]at q';exact q'
  |ok b=>
   rw[e1,R.aa0]at q';intro H2 s2;cases b with
   |false=>rw[if_neg aAT]at q'⊢;exact q' ai H2 O' (E'.grow s2) fk' (Kp.of s2)
   |true=>
    rw[if_pos rfl]at q'⊢;refine⟨λql H3=>∃O3 ρ3,EnvOk X.K H9 O0 H3 O3 ql ρ3/\bY X.K O3/\RS X H9 O0 H3 O3 (Q8 fc F m ρ3) D,λql H3 p=>⟨m,aCZ m,p⟩,O',ar,E'.grow s2,fk',?_⟩;have kk:Kp H' O' H2 O':=Kp.of s2;cases e3:F ar with
    |ex x=>rw[e3]at q';exact q'
    |bad=>rw[e3]at q';exact q'
    |ok o=>
     rw[e3]at q';cases o with
     |nx ρ2=>exactλσ4 H4 O4 E4 f4 k4=>⟨O4,ρ2,E4,f4,RS.grow q' (kk.trans k4)⟩
     |ct ρ2=>exactλσ4 H4 O4 E4 f4 k4=>⟨O4,ρ2,E4,f4,RS.grow q' (kk.trans k4)⟩
     |bk ρ2=>exactλσ4 H4 O4 E4 f4 k4=>q' σ4 H4 O4 E4 f4 (kk.trans k4)
     |rt d=>exact q'
end
def ZK (K:PySem.W.Frag)(n:Nat)(m:List D->R D):Sp:=λvs H Q _=>∃O ds d,Reps K H O vs ds/\ds.length=n/\(∀a,O a->∃o,H a=some o/\Mt o)/\Tb H/\bY K O/\m ds=.ok d/\∀v H',Same H H'->Rep K H' O v d->Q v H'
def j5 (N:List Str)(ds:List D):Ev:=ds.map Sl.v++aCH (N.length-ds.length) Sl.no
def K7:R Out->R D
 |.ok (.rt d)=>.ok d
 |.ok (.nx _)=>.ok .non
 |.ex e=>.ex e
 |_=>.bad
def qT {K:PySem.W.Frag}{H:Hp}{O:Addr->Prop}{N:List Str}{vs:List V}{ds:List D}(r:Reps K H O vs ds)(t:∀a,O a->∃o,H a=some o/\Mt o)(tb:Tb H):EnvOk K H O H O (start N vs) (j5 N ds)where
 len:=by simp[L2.start,j5,r.length]
 same:=Same.refl H
 sub:=λ_ h=>h
 trk:=t
 trk0:=λa h=>let⟨o,q,_⟩:=t a h;⟨o,q⟩
 tab:=tb
 slot:=λi sl h=>by
  unfold j5 at h;unfold L2.start;by_cases hi:i<ds.length
  ·rw[aAR (by simpa using hi),aAG]at h;cases e:ds[i]? with
   |none=>rw[e]at h;cases h
   |some d'=>rw[e]at h;have h':Sl.v d'=sl:=Option.some.inj h;subst h';obtain⟨v,h1,h2⟩:=r.get e;exact⟨v,by rw[aAR (by rw[aAl,r.length];exact hi),aAG,h1];rfl,h2⟩
  ·rw[aAx (by simpa using hi),aBr]at h;split at h
   ·cases h;trivial
   ·cases h
 inj:=λi j x y a h _ o=>by
  unfold j5 at h;by_cases hi:i<ds.length
  ·rw[aAR (by simpa using hi),aAG]at h;cases e:ds[i]? with
   |none=>rw[e]at h;cases h
   |some d'=>rw[e]at h;have h':Sl.v d'=x:=Option.some.inj h;subst h';exact o.elim
  ·rw[aAx (by simpa using hi),aBr]at h;split at h
   ·cases h;exact o.elim
   ·cases h
section
variable{K:PySem.W.Frag}
abbrev TX (P:Program)(w:World)(K:PySem.W.Frag)(mg:cP)(base:Heap)(N:List Str)(qual:Str)(sc:Scope)(f:Addr)(cdv:Value)(A:Around)(outer:List Env)(s:Shared)(H:Hp)(E:XK):Cx:=(AU tR P w K mg base N qual sc f cdv A outer s H E).nox
def fnD {x qual:Str}{st:Stmt}{f:Addr}{fd:FuncData}{N ps:List Str}{k:Nat}{m:List D->R D}{F:Ev->R Out}(F0:Fun K x qual st f fd)(S:FnScope N ps (c8 st))
  (hb:∀(cdv:Value) (A:Around) (outer:List Env) (s:Shared) (H:Hp) (E:XK),Room k (A.deeper (envOfC qual (c8 st) s.heap.objs.size f cdv))->aZ (TX P w K mg base N qual (c8 st) f cdv A outer s H E) (t9 st) F)
  (hm:∀ds d,ds.length=ps.length->m ds=.ok d->K7 (F (j5 N ds))=.ok d):FnOk P w K mg base tR (k+1) f fd ps (ZK K ps.length m):=by
 refine F0.ok S (λvs H Q E ⟨O,ds,d,r,hl,_⟩=>by rw[r.length];exact hl) (λcdv A outer s H vs Q E hr ⟨O,ds,d,r,hl,ht,tb,fk,e,q⟩=>?_);refine⟨_,hb cdv A outer s H E hr H O,O,_,qT r ht tb,fk,?_⟩;have h:=hm ds d hl e;cases e1:F (j5 N ds)with
 |ok o=>
  rw[e1]at h;cases o with
  |rt d'=>have h':R.ok d'=R.ok d:=h;injection h' with h';subst h';exact q
  |nx ρ=>have h':R.ok D.non=R.ok d:=h;injection h' with h';subst h';exactλai H' O' E' _ _=>q .non H' E'.same .non
  |bk ρ=>cases h
  |ct ρ=>cases h
 |ex x=>rw[e1]at h;cases h
 |bad=>rw[e1]at h;cases h
end
section
def oD (I:Inv X pins σ H s)(O:Addr->Prop)(t:∀a,O a->∃o,H a=some o/\Mt o):bY X.K O:=λa o hk z=>by obtain⟨u,h,_⟩:=t a z;have:=(I.bs a o<|I.ok.mod.kin a o hk).2;rw[h]at this;cases this
def TW (F:FnOk X.prog X.w X.K X.mg X.base tR k g gd ps (ZK X.K n m))(hr:Room k X.A)(hm:X.mg x=some (.ref g))(hk:PySem.W.keepIn X.K (.ref g)=true)(hb:Binds X.K gd ps [])(ha:IN X (e::es) f)(hl:∀ρ ds,f ρ=.ok ds->ds.length=n)(hg:Gl X x:=by rfl)(il:(x==("__debug__":Str))=false:=by decide)(he:starEach (e::es) X.env=(false,eval e X.env)::starEach es X.env:=by rfl)(bf:(backTo pos (starEach es X.env)).any (·.1)=false:=by rfl):
  PD X (.Call (.Name x p) (e::es) [] pos) (λρ=>(f ρ).bind m):=by
 refine uJ λpins s σ H Q I H9 O0 O ρ E q=>?_;refine SY F hr hg hm hk hb .nil iz ha il he bf pins s σ H Q I ⟨H9,O0,O,ρ,E,?_⟩;dsimp only at q;cases e1:f ρ with
 |ex z=>rw[e1]at q;exact q
 |bad=>rw[e1]at q;exact q
 |ok ds=>
  rw[e1,R.aa0]at q;intro vs H1 s1 r1;rw[aCg];have E1:=E.grow s1;cases e2:m ds with
  |ex z=>rw[e2]at q;exact(q H<|Same.refl _).elim
  |bad=>rw[e2]at q;exact q.elim
  |ok d=>rw[e2]at q;refine⟨O,ds,d,r1,hl ρ ds e1,E1.trk,E1.tab,?_,e2,λv H' s2 r2=>q v H' (s1.trans s2) r2⟩;exact oD I O E.trk
end
def IM (env:Env):List (Str×NameKind)->List (Str×Addr)->List (Str×Addr)
 |[],acc=>acc
 |(n,k)::r,acc=>IM env r (if k=.free then(n,(env.cells.lookup n).getD 0)::acc else acc)
def Y3 (h:∀y∈scope.names,y.2=.free->∃c,env.cells.lookup y.1=some c):closureFor scope env=pure (IM env scope.names []):=by
 have go:∀(names:List (Str×NameKind)) (acc:List (Str×Addr)),(∀y∈names,y.2=.free->∃c,env.cells.lookup y.1=some c)->
   (forIn names acc λ(x:Str×NameKind) (r:List (Str×Addr))=>(match x with
    |(name,kind)=>if(kind==NameKind.free)=true then(do let a<-cellOf env name;pure (aCi ((name,a)::r)))else pure (aCi r):Sem (ForInStep<|List<|Str×Addr)))=pure (IM env names acc):=by
  intro names;induction names with
  |nil=>intro acc _;rfl
  |cons y r ih=>
   intro acc hy;obtain⟨n,k⟩:=y;rw[aCR];by_cases hk:k=.free
   ·subst hk;obtain⟨c,hc⟩:=hy (n,.free) aAJ rfl;have e:cellOf env n=pure c:=by unfold cellOf;rw[hc]
    simp only[beq_self_eq_true,if_true,e,pure_bind];rw[ih _ λz hz=>hy z (aAe _ hz)];simp[IM,hc]
   ·have hb:(k==NameKind.free)=false:=by simpa using hk
    simp only[hb,aAs,if_false,pure_bind];rw[ih _ λz hz=>hy z (aAe _ hz)];simp[IM,hk]
 have e:=go scope.names [] h;show((forIn scope.names ([]:List (Str×Addr)) λ(x:Str×NameKind) (r:List (Str×Addr))=>(match x with
    |(name,kind)=>if(kind==NameKind.free)=true then(do let a<-cellOf env name;pure (aCi ((name,a)::r)))else pure (aCi r):Sem (ForInStep<|List<|Str×Addr)))>>=λs=>pure s)=_
 rw[e];rfl
theorem wM:∀(names:List (Str×NameKind)) (acc:List (Str×Addr)) {x:Str} {c:Addr},(∀y∈names,y.2=.free->∃c,env.cells.lookup y.1=some c)->(∀x c,acc.lookup x=some c->env.cells.lookup x=some c)->
  (IM env names acc).lookup x=some c->env.cells.lookup x=some c
 |[],acc,x,c,_,ha,h=>ha x c h
 |(n,k)::r,acc,x,c,hy,ha,h=>by
  refine wM r _ (λy hm=>hy y (aAe _ hm)) (λx' c' h'=>?_) h;by_cases hk:k=.free
  ·rw[if_pos hk]at h';obtain⟨c0,hc⟩:=hy (n,k) aAJ hk;by_cases hx:x'=n
   ·subst hx;rw[aBE]at h';rw[hc]at h';rw[hc];exact h'
   ·rw[aAY,beq_eq_false_iff_ne.mpr hx]at h';exact ha x' c' h'
  ·rw[if_neg hk]at h';exact ha x' c' h'
theorem sQ:∀(names:List (Str×NameKind)) (acc:List (Str×Addr)) {x:Str},((x,NameKind.free)∈names\/∃c,acc.lookup x=some c)->∃c,(IM env names acc).lookup x=some c
 |[],acc,x,h=>by
  rcases h with h|h
  ·cases h
  ·exact h
 |(n,k)::r,acc,x,h=>by
  refine sQ r _ ?_;rcases h with h|⟨c,h⟩
  ·rcases aAd.mp h with e|h
   ·cases e;right;rw[if_pos rfl,aBE];exact⟨_,rfl⟩
   ·exact .inl h
  ·right;by_cases hk:k=.free
   ·rw[if_pos hk,aAY];cases(x==n)with
    |true=>exact⟨_,rfl⟩
    |false=>exact⟨c,h⟩
   ·rw[if_neg hk];exact⟨c,h⟩
theorem iM {env:Env}:∀{names:List (Str×NameKind)} {x:Str},
  ((names.map λ(n,k)=>if(k==NameKind.free&&env.scope.kind==.function&&env.kindOf n==some .cell)then(n,aBT)else(n,k)).lookup x=some .cell\/
   (names.map λ(n,k)=>if(k==NameKind.free&&env.scope.kind==.function&&env.kindOf n==some .cell)then(n,aBT)else(n,k)).lookup x=some .free)->(x,NameKind.free)∈names\/names.lookup x=some .cell
 |[],_,h=>by rcases h with h|h<;>cases h
 |(n,k)::r,x,h=>by
  have ih:=@iM env r x;rw[aAv]at h;dsimp only at h;by_cases hx:x=n
  ·subst hx;by_cases hk:(k==NameKind.free&&env.scope.kind==.function&&env.kindOf x==some .cell)=true
   ·have kf:k=.free:=by rw[aAI,aAI]at hk;simpa using hk.1.1
    subst kf;exact .inl aAJ
   ·rw[if_neg hk,aBE]at h;rcases h with h|h
    ·right;rw[aBE];exact h
    ·have:k=.free:=Option.some.inj h;subst this;exact .inl aAJ
  ·have h':(r.map λ(n,k)=>if(k==NameKind.free&&env.scope.kind==.function&&env.kindOf n==some .cell)then(n,aBT)else(n,k)).lookup x=some .cell\/
     (r.map λ(n,k)=>if(k==NameKind.free&&env.scope.kind==.function&&env.kindOf n==some .cell)then(n,aBT)else(n,k)).lookup x=some .free:=by
    by_cases hk:(k==NameKind.free&&env.scope.kind==.function&&env.kindOf n==some .cell)=true
    ·rw[if_pos hk,aAY,beq_eq_false_iff_ne.mpr hx]at h;exact h
    ·rw[if_neg hk,aAY,beq_eq_false_iff_ne.mpr hx]at h;exact h
   rcases ih h' with h|h
   ·exact .inl (aAe _ h)
   ·right;rw[aAY,beq_eq_false_iff_ne.mpr hx];exact h
theorem oH:∀(names:List (Str×NameKind)) (h:Heap) (acc:List (Str×Addr)) {x:Str} {c:Addr},(cellsFrom h.objs.size names acc).lookup x=some c->acc.lookup x=some c\/((pushCells h names).IsCell c none/\h.objs.size<=c)
 |[],h,acc,x,c,e=>.inl e
 |(n,k)::r,h,acc,x,c,e=>by
  unfold cellsFrom at e;unfold pushCells;split at e
  ·rename_i hk;rw[if_pos hk];rcases oH r (h.push {cls:=.type "cell",data:=.cell none}) ((n,h.objs.size)::acc) (x:=x) (c:=c) (by rw[aBo];exact e)with h1|⟨h1,h2⟩
   ·rw[aAY]at h1;cases hx:(x==n)with
    |true=>rw[hx]at h1;have e':h.objs.size=c:=Option.some.inj h1;subst e';exact .inr ⟨⟨_,aEs _ _ _ _ (aAp _ rfl),rfl⟩,aAg _⟩
    |false=>rw[hx]at h1;exact .inl h1
   ·exact .inr ⟨h1,by rw[aBo]at h2;exact aCu h2⟩
  ·rename_i hk;rw[if_neg hk];exact oH r h acc e
theorem kC:∀(names:List (Str×NameKind)) (n:Nat) (acc:List (Str×Addr)) {x:Str} {c:Addr},(cellsFrom n names acc).lookup x=some c->acc.lookup x=some c\/n<=c
 |[],n,acc,x,c,e=>.inl e
 |(m,k)::r,n,acc,x,c,e=>by
  unfold cellsFrom at e;split at e
  ·rcases kC r (n+1) _ e with h1|h1
   ·rw[aAY]at h1;cases hx:(x==m)with
    |true=>rw[hx]at h1;exact .inr (aDY (Option.some.inj h1))
    |false=>rw[hx]at h1;exact .inl h1
   ·exact .inr (aCu h1)
  ·exact kC r n acc e
theorem nG:∀(names:List (Str×NameKind)) (n:Nat) (acc:List (Str×Addr)) {x:Str} {c:Addr},(x,aBT)∈names->(cellsFrom n names acc).lookup x=some c->n<=c
 |[],n,acc,x,c,hm,e=>nomatch hm
 |(m,k)::r,n,acc,x,c,hm,e=>by
  unfold cellsFrom at e;rcases aAd.mp hm with hm|hm
  ·cases hm;rw[if_pos (show(aBT==aBT)=true from rfl)]at e;rcases kC r (n+1) _ e with h1|h1
   ·rw[aBE]at h1;exact aDY (Option.some.inj h1)
   ·exact aCu h1
  ·split at e
   ·exact aCu (nG r (n+1) _ hm e)
   ·exact nG r n acc hm e
theorem mT:∀(names:List (Str×NameKind)) (n:Nat) (acc:List (Str×Addr)) {x:Str},(x,aBT)∉names->(cellsFrom n names acc).lookup x=acc.lookup x
 |[],n,acc,x,_=>rfl
 |(m,k)::r,n,acc,x,hm=>by
  unfold cellsFrom;split
  ·rename_i hk;rw[mT r (n+1) _ λz=>hm (aAe _ z),aAY];cases hx:(x==m)with
   |true=>
    have e1:x=m:=by simpa using hx
    have e2:k=.cell:=by simpa using hk
    exact absurd (by rw[e1,e2];exact aAJ) hm
   |false=>rfl
  ·exact mT r n acc λz=>hm (aAe _ z)
theorem jR:∀(names:List (Str×NameKind)) (n:Nat) (acc:List (Str×Addr)),(∀x c,acc.lookup x=some c->c<n)->(∀x y c,acc.lookup x=some c->acc.lookup y=some c->x=y)->
  ∀x y c,(cellsFrom n names acc).lookup x=some c->(cellsFrom n names acc).lookup y=some c->x=y
 |[],n,acc,_,h=>h
 |(m,k)::r,n,acc,hl,h=>by
  unfold cellsFrom;split
  ·refine jR r (n+1) _ (λx c e=>?_) λx y c e1 e2=>?_
   ·rw[aAY]at e;cases hx:(x==m)with
    |true=>rw[hx]at e;rw[<-Option.some.inj e];exact aCZ _
    |false=>rw[hx]at e;exact aBf (hl x c e)
   ·rw[aAY]at e1 e2;cases hx:(x==m)with
    |true=>
     rw[hx]at e1;cases hy:(y==m)with
     |true=>rw[show x=m by simpa using hx,show y=m by simpa using hy]
     |false=>rw[hy]at e2;rw[<-Option.some.inj e1]at e2;exact absurd (hl y _ e2) (aAX _)
    |false=>
     rw[hx]at e1;cases hy:(y==m)with
     |true=>rw[hy]at e2;rw[<-Option.some.inj e2]at e1;exact absurd (hl x _ e1) (aAX _)
     |false=>rw[hy]at e2;exact h x y c e1 e2
  ·exact jR r n acc hl h
abbrev cM (X:Cx)(scope:Scope)(C:Addr):List (Str×Addr):=cellsFrom (C+1) scope.names (IM X.env scope.names [])
def GF {E:A3}{Q:Env->Shared->Prop}(hQ:Q (newEnv scope s.heap.objs.size g (cellsFrom (s.heap.objs.size+1) scope.names cl) q none .none (some env) builtinsNs) {s with heap:=pushCells (s.heap.push {cls:=.type "dict",data:=.dict #[]}) scope.names}):
  wpAny M A (newFunctionEnv scope g cl [] q none .none (some env)) Q E s:=by
 simp only[newFunctionEnv,Option.isSome_some,if_true];refine aAa (wpAny_alloc ?_);refine aAa (wpAny_layCells _ (λname kind cells=>by cases hkc:kind==aBT<;>simp[hkc]) _ _ _ _ ?_);rw[show({s with heap:=s.heap.push {cls:=.type "dict",data:=.dict #[]}}:Shared).heap.objs.size=s.heap.objs.size+1 from aBo ..];exact aAa (aAb<|aAb hQ)
def FM {R:Result->Shared->Prop}(I:Nat->Shared->Prop)(turn:∀n s,I n s->wpAny (model prog w) A (pyNext it) (λr aa=>match r with
   |none=>R (.ok .next) aa
   |some v=>wpAny (model prog w) A (letOwnedTupleGo target it v) (λ_ s'0=>wpAny (model prog w) A (assign target env v) (λ_ bc=>
    wpAny (model prog w) A (forIn ifs true λc r=>if r=true then do let ok<-isTrue c env (eval c env);pure (aCi ok)else pure (aCi r)) (λok se=>
     if ok=true then wpAny (model prog w) A (eval elt env) (λx sh=>wpAny (model prog w) A (call (.builtin "list.append") [acc,x]) (λ_ si=>∃m,m<n/\I m si) (λ_ _=>False) sh) (λ_ _=>False) se
     else∃m,m<n/\I m se) (λ_ _=>False) bc) (λ_ _=>False) s'0) (λ_ _=>False) aa) (λ_ _=>False) s) (n:Nat) (h:I n s):codeAny (model prog w) A (.compLoop (.ListComp elt [⟨target,z9,ifs,0⟩] scope pos) 0 it acc env) R s:=by
 refine codeAny_loop rfl I (λn s hI=>?_) n h;show wpAny _ A ((compTurn (.ListComp elt [⟨target,z9,ifs,0⟩] scope pos) 0 it acc env).onRaise (λx=>do noteFrame x env;theTreesLotGoes x)) _ _ s;refine wpAny_noted ?_;rw[compTurn_list];refine aAa (aDJ<|aAa<|aCb (turn n s hI) (λr aa h₁=>?_) λ_ _ h'=>h'.elim);cases r with
 |none=>exact aAb h₁
 |some v=>
  refine aAa (aCb h₁ (λ_ s'0 h'0=>?_) λ_ _ h'=>h'.elim);refine aAa (aCb h'0 (λ_ bc gm=>aAa (aCb gm (λok se aA=>?_) λ_ _ h'=>h'.elim)) λ_ _ h'=>h'.elim);cases ok with
  |false=>exact aAb ⟨rfl,aA⟩
  |true=>exact aAa (aAa<|aCb aA (λx sh hV=>aAa (aCb hV (λ_ si h9=>aAb (aAb ⟨rfl,h9⟩)) λ_ _ h'=>h'.elim)) λ_ _ h'=>h'.elim)
def GW (X:Cx)(pins:L8)(sa:Shared)(H9:Hp)(N':List Str)(scope:Scope)(cl:List (Str×Addr))(C:Addr)(fp:List Addr):Cx where
 prog:=X.prog
 w:=X.w
 K:=X.K
 mg:=X.mg
 base:=X.base
 A:=X.A
 N:=N'
 sa:=sa
 H9:=H9
 env:=compEnvC scope cl C X.env
 outer:=X.stack
 stack:=X.stack
 ex:=fp
 fn:=λx=>scope.names.lookup x==some .cell
 calm:=X.calm
 pn:=X.pn++pins
 xe:=λ_ _=>False
structure CompSc (X:Cx)(scope:Scope)(own fr:List Str)(js:List Nat):Prop where
 kind:scope.kind=.function
 apart:∀y∈scope.names,y.2=.free->(y.1,aBT)∉scope.names
 names:∀y∈scope.names,y.2=.local->scope.names.lookup y.1=some .local
 free:∀y∈scope.names,y.2=.free->X.env.kindOf y.1=some .cell\/X.env.kindOf y.1=some .free
 len:js.length=fr.length
 at_:∀(i j:Nat) (x:Str),js[i]?=some j->fr[i]?=some x->X.N[j]?=some x/\(x,NameKind.free)∈scope.names
 nd:js.Nodup
 dis:∀y∈scope.names,y.2=.free->scope.names.lookup y.1=some .free
def seen:Sl->Sl
 |.v d=>.v d
 |_=>.no
def i7 (own:List Str)(js:List Nat)(ρ:Ev):Ev:=aCH own.length Sl.no++js.map λj=>seen (ρ.getD j Sl.no)
def W8 (own:List Str)(js:List Nat)(σ:St):St:=aCH own.length none++js.map λj=>σ.getD j none
def Inv.aa9 (I:L2.Inv X pins σ H s)(S:CompSc X scope own fr js):∀y∈scope.names,y.2=.free->∃c,X.env.cells.lookup y.1=some c:=
 λy hy hf=>I.ok.has y.1 (S.free y hy hf)
def bC (h:(i7 own js ρ)[i]?=some sl):sl=.no\/∃d j,sl=.v d/\own.length<=i/\js[i-own.length]?=some j/\ρ[j]?=some (.v d):=by
 unfold i7 at h;by_cases hi:i<own.length
 ·rw[aAR (by simpa using hi),aBr,if_pos hi]at h;cases h;exact .inl rfl
 ·have fg:own.length<=i:=aEe hi;rw[aAx (by simpa using fg),aCh,aAG]at h;cases e:js[i-own.length]? with
  |none=>rw[e]at h;cases h
  |some j=>
   rw[e]at h;have h':seen (ρ.getD j Sl.no)=sl:=Option.some.inj h;rw[aAn]at h';cases e2:ρ[j]? with
   |none=>rw[e2]at h';subst h';exact .inl rfl
   |some z=>
    rw[e2]at h';cases z with
    |v d=>subst h';exact .inr ⟨d,j,rfl,fg,rfl,e2⟩
    |_=>subst h';exact .inl rfl
def HG {K:PySem.W.Frag}{H9 H:Hp}{O0 O:Addr->Prop}{σ:St}{ρ:Ev}{own:List Str}{js:List Nat}(E:EnvOk K H9 O0 H O σ ρ):EnvOk K H9 O0 H O (W8 own js σ) (i7 own js ρ):=by
 refine⟨by simp[W8,i7],E.same,E.sub,E.trk,E.trk0,E.tab,λi sl h=>?_,λi j x y a h1 h2 o=>?_⟩
 ·rcases bC h with rfl|⟨d,j,rfl,fg,e,h1⟩
  ·trivial
  ·obtain⟨v,h3,h4⟩:=E.val j d h1;refine⟨v,?_,h4⟩;unfold W8;rw[aAx (by simpa using fg),aCh,aAG,e];show some (σ.getD j none)=some (some v);rw[aAn,h3];rfl
 ·rcases bC h1 with rfl|⟨d,j,rfl,_⟩
  ·exact o.elim
  ·exact o.elim
def GC (I:L2.Inv X pins σ H s)(S:CompSc X scope own fr js)(uf:∀b∈fp,lR X pins H b)(ao:∀b∈fp,b<s.heap.objs.size)(e8:h₁=pushCells (s.heap.push {cls:=.type "dict",data:=.dict #[]}) scope.names):
  L2.Inv (GW X pins s H (own++fr) scope (cM X scope s.heap.objs.size) s.heap.objs.size fp) [] (W8 own js σ) H {s with heap:=h₁,toks:=tk}:=by
 have hcells:=Inv.aa9 I S;have keep:∀b o,s.heap.get? b=some o->h₁.get? b=some o:=λb o e=>by rw[e8];exact aEs _ _ _ _ (aAc _ e)
 have yh:h₁.Ns s.heap.objs.size (λ_=>none):=by rw[e8];exact(Heap.Ns.new s.heap<|.type "dict").keeps (aEs _ _)
 have cc:∀x c,(cM X scope s.heap.objs.size).lookup x=some c->(IM X.env scope.names []).lookup x=some c\/(h₁.IsCell c none/\s.heap.objs.size+1<=c):=λx c h=>by have:=oH scope.names (s.heap.push {cls:=.type "dict",data:=.dict #[]}) (IM X.env scope.names []) (x:=x) (c:=c) (by rw[aBo];exact h);rw[aBo,<-e8]at this;exact this
 have cv:∀x c,(IM X.env scope.names []).lookup x=some c->X.env.cells.lookup x=some c:=λx c h=>wM scope.names [] hcells (λ_ _ z=>(by cases z)) h;have base_lt:∀b o,X.base.get? b=some o->b∉fp:=λb o e hb=>by
  rcases(uf b hb).2.2.2.1 with z|z
  ·exact I.ok.noex b o e z
  ·exact absurd (aAq (aAf e)<|aAo I.ok.bsz z) (aAX _)
 have nfs:∀b∈fp,b∉xG X.stack:=λb hb z=>by
  rcases aAd.mp (I.ab3 b z)with e|z
  ·exact(uf b hb).2.1 e
  ·exact(uf b hb).2.2.1 z
 have old_lt:∀x c,X.env.cells.lookup x=some c->c<s.heap.objs.size+1:=λx c h=>by obtain⟨v,o,ho,_⟩:=I.cell x c h;exact aBf (aAf ho)
 have has:∀x,((relabel scope X.env).names.lookup x=some .cell\/(relabel scope X.env).names.lookup x=some .free)->∃c,(cM X scope s.heap.objs.size).lookup x=some c:=λx hx=>by
  have:((cM X scope s.heap.objs.size).lookup x).isSome=true:=PySem.W.cellsFrom_some _ _ _ (by
   rcases iM hx with h|h
   ·obtain⟨c,hc⟩:=sQ (env:=X.env) scope.names [] (x:=x) (.inl h);exact .inr (by rw[hc];rfl)
   ·exact .inl h)
  exact aEZ.mp this
 refine⟨⟨I.ok.mod,S.kind,I.ok.glob,I.ok.blt,aAg _,jR scope.names _ _ (λx c h=>old_lt x c (cv x c h)) (λx y c h1 h2=>I.ok.inj x y c (cv x c h1) (cv y c h2)),has,λx c hf h=>aCu (nG scope.names _ _ (PySem.mem_of_lookup<|eq_of_beq hf) h),I.ok.hd,I.ok.frames,.inl rfl,
  λb hb=>⟨aAj (ao b hb),λx c h=>(cc x c h).elim (λh=>(uf b hb).2.2.2.2.1 x c (cv x c h)) λ⟨_,h2⟩ z=>absurd (aAq (ao b hb)<|aCu h2) (by rw[z];exact aAX _)⟩,I.bs,aAo I.ok.bsz I.sz,λb o e=>base_lt b o e,nfs,I.stack,I.ad3⟩,rfl,I.bare,Un.kept keep,⟨_,yh,λi x v e1 e2 e3=>?_⟩,λx c h=>?_,I.hok.fresh (aAg _),λx c h=>(cc x c h).elim (λh=>I.freeC x c (cv x c h)) λ⟨_,h2⟩=>I.hok.fresh (aCu h2),λp hp=>?_,I.hok.kept keep,?_⟩
 ·
  have hlen:(own++fr).length=(W8 own js σ).length:=by simp[W8,S.len]
  unfold W8 at e2;by_cases hi:i<own.length
  ·rw[aAR (by simpa using hi),aBr,if_pos hi]at e2;cases e2
  ·have fg:own.length<=i:=aEe hi;rw[aAx (by simpa using fg),aCh,aAG]at e2;have zu:(own++fr)[i]?=some x:=e1;rw[aAx fg]at zu;cases e:js[i-own.length]? with
   |none=>rw[e]at e2;cases e2
   |some j=>
    rw[e]at e2;have e2':σ.getD j none=some v:=Option.some.inj e2;obtain⟨hN,jv⟩:=S.at_ (i-own.length) j x e zu;have hσ:σ[j]?=some (some v):=by
     rw[aAn]at e2';cases e4:σ[j]? with
     |none=>rw[e4]at e2';cases e2'
     |some z=>rw[e4]at e2';exact congrArg some e2'
    have hk:=S.free (x,.free) jv rfl;have hvis:BI X.env.scope x:=.inr hk;obtain⟨m,hn,hl⟩:=I.loc;obtain⟨u,r,lk⟩:=hl j x v hN hσ hvis;refine⟨u,r,?_⟩;rcases lk with⟨kr,_⟩|⟨_,c,hc,dg⟩
    ·rcases hk with hk|hk<;>(rw[kr]at hk;cases hk)
    ·right;obtain⟨c',xh⟩:=sQ (env:=X.env) scope.names [] (x:=x) (.inl jv);have:=cv x c' xh;rw[hc]at this;cases this;refine⟨?_,c,(mT scope.names _ _<|S.apart (x,.free) jv rfl).trans xh,?_⟩
     ·rcases e3 with e3|e3|e3
      ·
       have hq:(relabel scope X.env).names.lookup x=some .local:=e3;exfalso;have:∀names:List (Str×NameKind),(names.map λ(n,k)=>if(k==NameKind.free&&X.env.scope.kind==.function&&X.env.kindOf n==some .cell)then(n,aBT)else(n,k)).lookup x=some .local->names.lookup x=some .local:=by
        intro names;induction names with
        |nil=>intro h;cases h
        |cons y r ih=>
         obtain⟨n,k⟩:=y;intro h;rw[aAv]at h;dsimp only at h;by_cases hx:x=n
         ·subst hx;by_cases hkk:(k==NameKind.free&&X.env.scope.kind==.function&&X.env.kindOf x==some .cell)=true
          ·rw[if_pos hkk,aBE]at h;cases h
          ·rw[if_neg hkk,aBE]at h;rw[aBE];exact h
         ·rw[aAY,beq_eq_false_iff_ne.mpr hx];by_cases hkk:(k==NameKind.free&&X.env.scope.kind==.function&&X.env.kindOf n==some .cell)=true
          ·rw[if_pos hkk,aAY,beq_eq_false_iff_ne.mpr hx]at h;exact ih h
          ·rw[if_neg hkk,aAY,beq_eq_false_iff_ne.mpr hx]at h;exact ih h
       have h2:=this scope.names hq;rw[S.dis (x,.free) jv rfl]at h2;cases h2
      ·exact .inl e3
      ·exact .inr e3
     ·obtain⟨o,ho,hd⟩:=dg;exact⟨o,keep c o ho,hd⟩
 ·rcases cc x c h with h|⟨h,_⟩
  ·obtain⟨v,o,ho,hd⟩:=I.cell x c (cv x c h);exact⟨v,o,keep c o ho,hd⟩
  ·exact⟨_,h⟩
 ·have zv:p∈X.pn++pins:=by simpa[GW]using hp
  obtain⟨e,n,ne,nf,d⟩:=I.pin p zv;refine⟨keep _ _ e,n,aAj (aAf e),λz=>?_,d⟩;rcases aAd.mp (I.ab3 p.1 z)with e'|z'
  ·exact ne e'
  ·exact nf z'
 ·simp[W8,GW,S.len]
def u5 (G:D->Ev->R Ev)(ft:Ev->R Bool)(fe:Ev->R D)(ρ:Ev):List D->R (List D)
 |[]=>.ok []
 |d::ds=>match G d ρ with
  |.ok ρ1=>(ft ρ1).bind λb=>if b=true then(fe ρ1).bind λr=>(u5 G ft fe ρ ds).bind λrs=>.ok (r::rs)else u5 G ft fe ρ ds
  |_=>.bad
def pU (ρ1 ρ:Ev):Prop:=ρ1.length=ρ.length/\∀(i:Nat) (sl:Sl),ρ[i]?=some sl->sl≠.no->ρ1[i]?=some sl
def EnvOk.weak {K:PySem.W.Frag}{H9 H:Hp}{O0 O:Addr->Prop}{σ:St}{ρ1 ρ:Ev}(E:EnvOk K H9 O0 H O σ ρ1)(h:pU ρ1 ρ):EnvOk K H9 O0 H O σ ρ where
 len:=E.len.trans h.1
 same:=E.same
 sub:=E.sub
 trk:=E.trk
 trk0:=E.trk0
 tab:=E.tab
 slot:=λi sl e=>by
  by_cases n:sl=.no
  ·subst n;trivial
  ·exact E.slot i sl (h.2 i _ e n)
 inj:=λi j x y a h1 h2 o1 o2=>E.inj i j x y a (h.2 i _ h1 (by rintro rfl;exact o1)) (h.2 j _ h2 (by rintro rfl;exact o2)) o1 o2
def R4 (H:Hp)(a:Addr):Hp:=λb=>if b=a then none else H b
def AF (H:Hp)(a:Addr):R4 H a a=none:=if_pos rfl
def U7 (h:b≠a):R4 H a b=H b:=if_neg h
def IJ (h:H a=some o):upd (R4 H a) a o=H:=by
 funext b
 unfold upd R4;by_cases hb:b=a
 ·subst hb;rw[if_pos rfl,h]
 ·rw[if_neg hb,if_neg hb]
def EnvOk.ae0 {K:PySem.W.Frag}{H9 H:Hp}{O0 O:Addr->Prop}{σ:St}{ρ:Ev}{a:Addr}{vs:List V}(E:EnvOk K H9 O0 H O σ ρ)(h:H a=none)(hk:K.lookup a=none):EnvOk K H9 O0 (upd H a (.lst vs)) (λb=>O b\/b=a) σ ρ:=E.ab9 h hk trivial
def Rep.hidden {K:PySem.W.Frag}{H:Hp}{O:Addr->Prop}{a:Addr}{vs:List V}{v:V}{d:D}(h:H a=some (.lst vs))(r:Rep K H (λb=>O b\/b=a) v d):Rep K (R4 H a) O v d:=by
 refine r.mono (λb xs q=>?_) (λb xs n q=>⟨λz=>n (.inl z),?_⟩) λb φ n q=>⟨λz=>n (.inl z),by rw[U7 λz=>n (.inr z)];exact q⟩
 ·rcases q with(q|⟨o,q⟩)|q
  ·exact .inl (.inl (by rw[U7 (by rintro rfl;rw[h]at q;cases q)];exact q))
  ·exact .inl (.inr ⟨o,by rw[U7 (by rintro rfl;rw[h]at q;cases q)];exact q⟩)
  ·exact .inr q
 ·have hb:b≠a:=λz=>n (.inr z);rcases q with(q|⟨o,q⟩)|q
  ·exact .inl (.inl (by rw[U7 hb];exact q))
  ·exact .inl (.inr ⟨o,by rw[U7 hb];exact q⟩)
  ·exact .inr q
def V6 (h:H a=none)(s:Same (upd H a (.lst vs)) H'):Same H (R4 H' a):=λb o q=>by
 have hb:b≠a:=by rintro rfl;rw[h]at q;cases q
 rw[U7 hb];exact s b o (by rw[k8 hb];exact q)
section
def UX (X:Cx)(ifs:List Expr)(ft:Ev->R Bool):Prop:=
 ∀(pins:L8) (s:Shared) (σ:St) (H:Hp) (Q:Bool->Hp->Prop),Inv X pins σ H s->tDT X ft σ H Q->
  wpAny (model X.prog X.w) X.A (forIn ifs true λc r=>if r=true then do let ok<-isTrue c X.env (eval c X.env);pure (aCi ok)else pure (aCi r)) (TP X pins σ Q) X.xe s
def DD:UX X [] (λ_=>.ok true):=λpins s σ H Q I ⟨H9,O0,O,ρ,E,q⟩=>wpAny_tests_nil ⟨H,I,q H (Same.refl _)⟩
def PX (h:IQ X c ft):UX X [c] ft:=λpins s σ H Q I q=>wpAny_tests_one (h pins s σ H Q I q)
def oE {tg elt z9:Expr}{ifs:List Expr}{scope:Scope}{own fr:List Str}{js:List Nat}{G:D->Ev->R Ev}{ft:Ev->R Bool}{fe:Ev->R D}{pins:L8}{σ:St}{H:Hp}{s:Shared}{H9:Hp}{O0 O:Addr->Prop}{ρ:Ev}
  {it:Addr} {fp:List Addr} {tn:Nat->Heap->Prop} {J:It} {ds rs:List D} {RR:Value->Addr->Result->Shared->Prop} {EE:A3} (hc:X.calm=true) (S:CompSc X scope own fr js)
  (hX:∀X':Cx,(∃sa Ha C,X'=GW X pins sa Ha (own++fr) scope (cM X scope C) C fp)->KS X' tg G/\UX X' ifs ft/\PD X' elt fe)
  (hG:∀d ρ1,G d (i7 own js ρ)=.ok ρ1->pU ρ1 (i7 own js ρ))
  (I:Inv X pins σ H s) (T:Turn X.prog X.w X.K tg J fp it tn) (st:tn 0 s.heap) (uf:∀b∈fp,lR X pins H b) (E:EnvOk X.K H9 O0 H O σ ρ) (hJ:VB X.K J H O ds) (hrs:u5 G ft fe (i7 own js ρ) ds=.ok rs) (hlen:ds.length<=sizeLine)
  (fin:∀acc C s' H' m,s'.heap.Ns C m->C≠acc->s.heap.objs.size<=C->s.heap.objs.size<=acc->Same H H'->Rep X.K H' O (.ref acc) (.lst rs)->(∃H1 vs,Same H H1/\H1 acc=none/\H'=upd H1 acc (.lst vs)/\Reps X.K H1 O vs rs)->H' C=none->(∀h',Heap.SameBut C s'.heap h'->Inv X pins σ H' {s' with heap:=h'})->RR (.ref acc) C (.ok .next) s'):
  wpAny (model X.prog X.w) X.A (newList []) (λacc se=>wpAny (model X.prog X.w) X.A (newFunctionEnv scope X.env.globals (IM X.env scope.names []) [] X.env.qual none .none (some X.env)) (λcenv sh=>codeAny (model X.prog X.w) X.A (.compStart (.ListComp elt [⟨tg,z9,ifs,0⟩] scope pos) 0 (.ref it) acc {cenv with scope:=relabel scope X.env}) (RR acc cenv.locals) sh) EE se) EE s:=by
 have hO:=oD I O E.trk;refine aBm ?_;have hfr:H s.heap.objs.size=none:=I.hok.fresh (aAg _);have hkl:X.K.lookup s.heap.objs.size=none:=by
  cases e:X.K.lookup s.heap.objs.size with
  |none=>rfl
  |some o=>exact absurd (aAf<|I.kIn _ o e) (aAX _)
 have I1:Inv X pins σ (upd H s.heap.objs.size<|.lst []) {s with heap:=s.heap.push {cls:=.type "list",dict:=none,data:=.seq ([]:List Value).toArray}}:=
  I.laid (t':=s.toks) (λb u e=>aAc _ e) (aAg _) ⟨aBc _,[],0,.nil,aAp _ rfl⟩
 generalize dc:s.heap.objs.size=acc at*
 generalize yi:({s with heap:=s.heap.push {cls:=.type "list",dict:=none,data:=.seq ([]:List Value).toArray}}:Shared)=s1 at I1⊢;have sz1:s1.heap.objs.size=acc+1:=by rw[<-yi,<-dc];exact aBo _ _
 have keep1:∀b o,s.heap.get? b=some o->s1.heap.get? b=some o:=λb o e=>by rw[<-yi];exact aAc _ e
 have vm:∀b∈fp,b<acc:=λb hb=>by obtain⟨o,e,_⟩:=T.obj 0 _ st b hb;rw[<-dc];exact aAf e
 have hfp1:∀b∈fp,lR X pins (upd H acc<|.lst []) b:=λb hb=>by obtain⟨f0,f⟩:=uf b hb;exact⟨by rw[k8 (aAj<|vm b hb)];exact f0,f⟩
 refine GF ?_;obtain⟨h₁,e8⟩:∃h₁,pushCells (s1.heap.push {cls:=.type "dict",data:=.dict #[]}) scope.names=h₁:=⟨_,rfl⟩;rw[e8];have keep2:∀b o,s1.heap.get? b=some o->h₁.get? b=some o:=λb o e=>by rw[<-e8];exact aEs _ _ _ _ (aAc _ e)
 have IB:=GC (tk:=s1.toks) I1 S hfp1 (λb hb=>by rw[sz1];exact aBf (vm b hb)) e8.symm;generalize hC:s1.heap.objs.size=C at*
 obtain⟨hG',hT',hE'⟩:=hX _ ⟨s1,upd H acc (.lst []),C,rfl⟩;generalize um:GW X pins s1 (upd H acc<|.lst []) (own++fr) scope (cM X scope C) C fp=X' at IB hG' hT' hE';have eP:X'.prog=X.prog:=by rw[<-um];rfl
 have eW:X'.w=X.w:=by rw[<-um];rfl
 have eK:X'.K=X.K:=by rw[<-um];rfl
 have eA:X'.A=X.A:=by rw[<-um];rfl
 have eC:X'.calm=true:=by rw[<-um];exact hc
 have eX:X'.xe=λ_ _=>False:=by rw[<-um];rfl
 have eE:X'.env=compEnvC scope (cM X scope C) C X.env:=by rw[<-um];rfl
 have eX0:X'.ex=fp:=by rw[<-um];rfl
 have ePn:X'.pn=X.pn++pins:=by rw[<-um];rfl
 have eFs:X'.fs=xG X.stack:=by rw[<-um];rfl
 have eS0:X'.sa=s1:=by rw[<-um];rfl
 have eH0:X'.H9=upd H acc (.lst []):=by rw[<-um];rfl
 have eL:X'.env.locals=C:=by rw[eE];rfl
 have eCe:X'.env.cells=cM X scope C:=by rw[eE];rfl
 have I2of:=IB;have cell_ne:∀b∈fp,∀x c,X'.env.cells.lookup x=some c->c≠b:=λb hb x c h=>(I2of.ok.exf b (by rw[eX0];exact hb)).2 x c h;have accC:acc≠C:=by rw[sz1];exact aAj (aCZ _)
 have fpC:∀b∈fp,b≠C:=λb hb=>by have h1:=vm b hb;rw[sz1];exact aAj (aBf h1)
 have fpB:∀{H':Hp},(∀b∈fp,H' b=none)->∀b∈fp,lR X' [] H' b:=λ{H'} hn b hb=>by
  obtain⟨f0,f1,f2,f3,f4,f5⟩:=uf b hb;refine⟨hn b hb,by rw[eL];exact fpC b hb,?_,.inl (by rw[eX0];exact hb),λx c h=>cell_ne b hb x c h,λp hp=>f5 p (by rw[ePn,aCg]at hp;exact hp)⟩;rw[eFs];intro z;rcases aAd.mp (I.ab3 b z)with e|z
  ·exact f1 e
  ·exact f2 z
 have mB:tn 0 h₁:=T.keep 0 s.heap h₁ st λb hb o e=>keep2 b o (keep1 b o e)
 let Iv:Nat->Shared->Prop:=λn s'=>∃i ai Hx vs rd,n=ds.length-i/\i<=ds.length/\Inv X' [] ai (upd Hx acc<|.lst vs) s'/\Hx acc=none/\tn i s'.heap/\(∀b∈fp,Hx b=none)/\EnvOk X.K H9 O0 Hx O ai (i7 own js ρ)/\Same H Hx/\
  Reps X.K Hx O vs rd/\(∃rest,u5 G ft fe (i7 own js ρ) (ds.drop i)=.ok rest/\rs=rd++rest)/\vs.length<=i
 have loop:codeAny (model X.prog X.w) X.A (.compLoop (.ListComp elt [⟨tg,z9,ifs,0⟩] scope pos) 0 (.ref it) (.ref acc) (compEnvC scope (cM X scope C) C X.env)) (RR (.ref acc) C) {s1 with heap:=h₁}:=by
  refine FM Iv ?_ ds.length ⟨0,_,H,[],[],by simp,aBc _,IB,hfr,mB,λb hb=>(uf b hb).1,HG E,Same.refl H,.nil,⟨rs,by rw[aFT];exact hrs,rfl⟩,aBc _⟩;rintro n s2 ⟨i,ve,Hx,vs,rd,rfl,hi,I2,xm,iu,fx2,E2,ym,r2,⟨rest,af,vo⟩,hvl⟩;have fr2:∀b∈fp,(upd Hx acc<|.lst vs) b=none:=λb hb=>by rw[k8 (aAj<|vm b hb)];exact fx2 b hb
  have sU:=j7 xm (.lst vs);have hit:=hJ (upd Hx acc<|.lst vs) (λb=>O b\/b=acc) (λb o q n=>⟨sU b o (ym b o q),λz=>z.elim n λz=>by subst z;rw[hfr]at q;cases q⟩) (λa o q z=>z.elim (hO a o q) λz=>by subst z;rw[hkl]at q;cases q) E.trk
   (λa z=>(E2.ae0 (vs:=vs) xm hkl).trk a z) i
  by_cases ao:i<ds.length
  ·obtain⟨go,yl⟩:=hit.1 ds[i] (aAh ao);rw[aDx ao,u5]at af;have om:=T.item X' eP eW eK eC i [] s2 ve _ (λ_ _=>False) I2 (fpB fr2) iu go;rw[eA]at om;refine D8 om λr s3 ⟨u,hr,h3⟩=>?_;subst hr;refine D8 h3 λ_ s4 ⟨x,H4,I4,ru,y4,st4,fr4⟩=>?_;obtain⟨sm4,rep4⟩:=yl x H4 y4;cases e1:G ds[i] (i7 own js ρ)with
   |ex z=>rw[e1]at af;cases af
   |bad=>rw[e1]at af;cases af
   |ok ρ1=>
    rw[e1]at af;dsimp only at af;have EB:EnvOk X.K H9 O0 H4 (λb=>O b\/b=acc) ve (i7 own js ρ):=(E2.ae0 xm hkl).grow sm4;have I4':=I4.pinned (fpB fr4) (T.obj _ _ st4);have again:∀{s7:Shared} {qa:St} {H7:Hp} {vs7:List V} {rd7:List D} {rest7:List D},Inv X' ([]++oB fp s4.heap) qa H7 s7->H7 acc=some (.lst vs7)->EnvOk X.K H9 O0 (R4 H7 acc) O qa (i7 own js ρ)->Same H (R4 H7 acc)->Reps X.K (R4 H7 acc) O vs7 rd7->
      u5 G ft fe (i7 own js ρ) (ds.drop<|i+1)=.ok rest7->rs=rd7++rest7->vs7.length<=i+1->∃m,m<ds.length-i/\Iv m s7:=λ{s7 qa H7 vs7 rd7 rest7} I7 h7 E7 sm7 r7 hr7 hrs7 hv7=>by
     refine⟨ds.length-(i+1),by omega,i+1,qa,R4 H7 acc,vs7,rd7,rfl,ao,?_,AF _ _,T.keep _ _ _ st4 λb hb o e=>(I7.pin (b,o)<|aAF _<|aAF _<|aV hb e).1,λb hb=>?_,E7,sm7,r7,⟨rest7,hr7,hrs7⟩,hv7⟩
     ·rw[IJ h7];exact I7.ab1
     ·rw[U7 (aAj<|vm b hb)];obtain⟨o,e,d⟩:=T.obj _ _ st4 b hb;exact(I7.pin (b,o)<|aAF _<|aAF _<|aV hb e).2.1
    have hasg:=hG' _ s4 ve H4 x u (λσ5 H5=>Same H4 H5/\EnvOk X.K H9 O0 H5 (λb=>O b\/b=acc) σ5 ρ1) I4' ru ⟨H9,O0,_,_,ds[i],ρ1,by rw[eK];exact EB,by rw[eK];exact rep4,e1,λσ5 H5 s5 E5=>⟨s5,by rw[eK]at E5;exact E5⟩⟩;rw[eP,eW,eA,eE,eX]at hasg;refine D8 hasg λ_ s5 ⟨σ5,H5,I5,sm5,E5⟩=>?_;have hacc5:H5 acc=some (.lst vs):=sm5 acc _ (sm4 acc _ j4);cases e2:ft ρ1 with
    |ex z=>rw[e2]at af;cases af
    |bad=>rw[e2]at af;cases af
    |ok b=>
     rw[e2,R.aa0]at af;have htst:=hT' _ s5 σ5 H5 (λc H6=>c=b/\Same H5 H6) I5 ⟨H9,O0,_,ρ1,by rw[eK];exact E5,by rw[e2];exactλH6 s6=>⟨rfl,s6⟩⟩;rw[eP,eW,eA,eE,eX]at htst;refine D8 htst λok s6 ⟨H6,I6,hb,sm6⟩=>?_;subst hb;have sm46:Same (upd Hx acc<|.lst vs) H6:=sm4.trans (sm5.trans sm6);have hacc6:H6 acc=some (.lst vs):=sm6 acc _ hacc5;have smx6:Same Hx (R4 H6 acc):=V6 xm sm46;have W1:pU ρ1 (i7 own js ρ):=hG _ _ e1;have Eb:∀{H7:Hp},Same H5 H7->EnvOk X.K H9 O0 (R4 H7 acc) O σ5 (i7 own js ρ):=λ{H7} s7=>by
      have E7:=(E5.grow s7).weak W1;have h7:H7 acc=some (.lst vs):=s7 acc _ hacc5;refine⟨E7.len,E2.same.trans (V6 xm<|sm4.trans<|sm5.trans s7),E2.sub,λa z=>?_,E2.trk0,E2.tab.same (V6 xm<|sm4.trans<|sm5.trans s7),λj sl e=>?_,E7.inj⟩
      ·obtain⟨o,q,mt⟩:=E2.trk a z;exact⟨o,V6 xm (sm4.trans<|sm5.trans s7) a o q,mt⟩
      ·rcases bC e with rfl|⟨d,_,rfl,_⟩
       ·trivial
       ·obtain⟨v,h1,h2⟩:=E7.val j d e;exact⟨v,h1,Rep.hidden h7 h2⟩
     cases ok with
     |false=>rw[if_neg aAT]at af⊢;exact again I6 hacc6 (Eb sm6) (ym.trans smx6) (r2.same smx6) af vo (Nat.le_succ_of_le hvl)
     |true=>
      rw[if_pos rfl]at af⊢;cases e3:fe ρ1 with
      |ex z=>rw[e3]at af;cases af
      |bad=>rw[e3]at af;cases af
      |ok dv=>
       rw[e3,R.aa0]at af;cases e4:u5 G ft fe (i7 own js ρ) (ds.drop<|i+1)with
       |ex z=>rw[e4]at af;cases af
       |bad=>rw[e4]at af;cases af
       |ok rest'=>
        rw[e4,R.aa0]at af;have qp:dv::rest'=rest:=R.ok.inj af;have helt:=hE' _ s6 σ5 H6 (λv H7=>Same H6 H7/\Rep X.K H7 (λb=>O b\/b=acc) v dv) I6 ⟨H9,O0,_,ρ1,by rw[eK];exact E5.grow sm6,by rw[e3,RC];exactλv H7 s7 r7=>⟨s7,by rw[eK]at r7;exact r7⟩⟩;rw[eP,eW,eA,eE,eX]at helt;refine D8 helt λuv s7 ⟨v,H7,I7,ruv,sm7,r7⟩=>?_;have hacc7:H7 acc=some (.lst vs):=sm7 acc _ hacc6;have happ:=sE (X:=X') _ s7 σ5 H7 (.ref acc) [v] (.ref acc) [uv] (λ_ H8=>H8=upd H7 acc (.lst (vs++[v]))) I7 rfl (.cons ruv .nil) ⟨acc,vs,v,rfl,rfl,hacc7,by omega,rfl⟩;rw[eP,eW,eA,eX]at happ;refine D8 happ λ_ s8 ⟨_,H8,I8,_,h8⟩=>?_;subst h8;have hh:R4 (upd H7 acc<|.lst (vs++[v])) acc=R4 H7 acc:=by
         funext b
         unfold R4 upd;by_cases hb:b=acc
         ·rw[if_pos hb,if_pos hb]
         ·rw[if_neg hb,if_neg hb,if_neg hb]
        have smx7:Same Hx (R4 H7 acc):=V6 xm (sm46.trans sm7);refine again (vs7:=vs++[v]) (rd7:=rd++[dv]) (rest7:=rest') I8 j4 (by rw[hh];exact Eb (sm6.trans sm7)) (by rw[hh];exact ym.trans smx7) ?_ e4 (by rw[vo,<-qp,aFd];rfl) (by rw[aAz];exact Nat.succ_le_succ hvl);rw[hh];exact(r2.same smx7).snoc (Rep.hidden hacc7 r7)
  ·have fg:i=ds.length:=by omega
   subst fg;have hstop:=hit.2 (by simp);have om:=T.done X' eP eW eK eC ds.length [] s2 ve _ (λ_ _=>False) I2 (fpB fr2) iu hstop;rw[eA]at om;refine D8 om λr s3 ⟨hr,I3⟩=>?_;subst hr;rw[List.drop_length,u5]at af;have qp:([]:List D)=rest:=R.ok.inj af;rw[<-qp,aCg]at vo;obtain⟨m,hm,_⟩:=id I3.loc;rw[eL]at hm;have hfin:Same H (upd Hx acc<|.lst vs):=ym.trans sU;refine fin acc C s3 (upd Hx acc<|.lst vs) m hm (aBQ accC) (by omega) (aAg _) hfin ?_ ⟨Hx,vs,ym,xm,rfl,by rw[vo];exact r2⟩ (by rw[<-eL];exact I3.free) (λh' jn=>?_)
   ·rw[vo];exact .lst (L7.of j4) (E2.fresh xm) (r2.same sU)
   ·have hU:Un (xG X.stack) fp (upd H acc<|.lst []) (upd Hx acc<|.lst vs) s1.heap s3.heap:=by have:=I3.base;rw[eFs,eX0,eH0,eS0]at this;exact this
    have hCn:∀b o,s1.heap.get? b=some o->b≠C:=λb o e=>by have:=aAf e;rw[hC]at this;exact aAj this
    have hU':Un (xG X.stack) fp (upd H acc<|.lst []) (upd Hx acc<|.lst vs) s1.heap h':=⟨λb o e n hb hx=>(jn.2 b (hCn b o e)).trans (hU.keep b o e n hb hx),λb o e n hb hx=>by
      obtain⟨sl,q⟩:=hU.slot b o e n hb hx;exact⟨sl,(jn.2 b (hCn b o e)).trans q⟩,hU.free,λb o e hx=>by
      obtain⟨o',q⟩:=hU.there b o e hx;exact⟨o',(jn.2 b (hCn b o e)).trans q⟩,hU.tups,hU.frzs,hU.tbls⟩
    have hCf:upd Hx acc (.lst vs) C=none:=by rw[<-eL];exact I3.free
    have yn:fC X.prog X.w (upd Hx acc<|.lst vs) h':=λb u e=>by
     have hb:b≠C:=by rintro rfl;rw[hCf]at e;cases e
     have:=I3.hok b u e;rw[eP,eW]at this;refine this.ab7 (λc v hc q=>(jn.2 c ?_).trans q) (λ_ q=>q) λ_ _ _ q=>q;rcases hc with z|z
     ·rw[z];exact hb
     ·rintro rfl;rw[hCf]at z;cases z
    have hos:s3.os=s1.os:=by have:=I3.os;rw[eS0]at this;exact this
    exact I1.af8 (s':={s3 with heap:=h'}) (ch:=fp) hos hU' yn I3.bare λb hb=>by obtain⟨f0,f1,f2,f3,f4,f5⟩:=uf b hb;exact⟨f3,f1,f4,f5⟩
 exact codeAny_compStart_list loop (T.self _ 0 _ _ _ mB loop)
def N6 (own fr:List Str)(js:List Nat)(hc:X.calm=true)(S:CompSc X scope own fr js)(hi:VJ X tg z9 fi)(hX:∀(pins:L8) (fp:List Addr) (X':Cx),(∃sa Ha C,X'=GW X pins sa Ha (own++fr) scope (cM X scope C) C fp)->KS X' tg G/\UX X' ifs ft/\PD X' elt fe)(hG:∀ρ d ρ1,G d (i7 own js ρ)=.ok ρ1->pU ρ1 (i7 own js ρ))(hs:∀x,foldedSetIterable z9 X.env x=pure x:=by intro _;rfl):
  PD X (.ListComp elt [⟨tg,z9,ifs,0⟩] scope pos) (λρ=>(fi ρ).bind λds=>if ds.length<=sizeLine then(u5 G ft fe (i7 own js ρ) ds).bind λrs=>.ok (.lst rs)else .bad):=by
 refine uJ λpins s σ H Q I H9 O0 O ρ E q=>?_;dsimp only at q;rw[eval_ListComp];refine aDH (use:=none) rfl hs (Y3<|Inv.aa9 I S) S.kind S.names ?_;refine D8 (hi pins s σ H (λJ H1=>∃ds rs,Same H H1/\VB X.K J H1 O ds/\ds.length<=sizeLine/\u5 G ft fe (i7 own js ρ) ds=.ok rs/\∀v H',Same H H'->Rep X.K H' O v (.lst rs)->Q v H') I ⟨H9,O0,O,ρ,E,oD I O E.trk,?_⟩) λv s1 h1=>D8 h1 λitv s2 h2=>?_
 ·cases e1:fi ρ with
  |ex x=>rw[e1]at q;exact q
  |bad=>rw[e1]at q;exact q
  |ok ds=>
   rw[e1,R.aa0]at q;intro J H1 s1 hJ;split at q
   ·rename_i hl;cases e2:u5 G ft fe (i7 own js ρ) ds with
    |ex x=>rw[e2]at q;exact(q H<|Same.refl _).elim
    |bad=>rw[e2]at q;exact q.elim
    |ok rs=>rw[e2]at q;exact⟨ds,rs,s1,hJ,hl,e2,q⟩
   ·exact q.elim
 ·obtain⟨it,fp,tn,J,H2,e,I2,T,iu,f2,ds,rs,sm,hJ,hl,hrs,q⟩:=h2;subst e;refine oE (RR:=λacc C=>compPost (model X.prog X.w) X.A X.xe none (EP X pins σ Q) acc C) hc S (hX pins fp) (hG ρ) I2 T iu f2 (E.grow sm) hJ hrs hl ?_;intro acc C s' H' m hn _ _ _ sm' r _ _ hI;exact⟨m,hn,λh' jn=>⟨.ref acc,H',hI h' jn,rfl,q _ H' (sm.trans sm') r⟩⟩
def iB (i:Nat)(own fr:List Str)(js:List Nat)(hN:X.N.Nodup)(hc:X.calm=true)(S:CompSc X scope own fr js)(hi:VJ X tg z9 fi)(hX:∀(pins:L8) (fp:List Addr) (X':Cx),(∃sa Ha C,X'=GW X pins sa Ha (own++fr) scope (cM X scope C) C fp)->KS X' tg G/\UX X' ifs ft/\PD X' elt fe)(hG:∀ρ d ρ1,G d (i7 own js ρ)=.ok ρ1->pU ρ1 (i7 own js ρ))(hy:X.N[i]?=some y:=by rfl)(hyl:X.env.scope.names.lookup y=some .local:=by rfl)(vp:swapsWith (.ListComp elt [⟨tg,z9,ifs,0⟩] scope pos) (some (.Name y py)) spos.line X.env=pure true:=by rfl)(hs:∀x,foldedSetIterable z9 X.env x=pure x:=by intro _;rfl):
  oG X (.Assign [.Name y py] (.ListComp elt [⟨tg,z9,ifs,0⟩] scope pos) spos) (λρ=>((fi ρ).bind λds=>if ds.length<=sizeLine then(u5 G ft fe (i7 own js ρ) ds).bind λrs=>.ok (D.lst rs)else .bad).bind λd=>.ok (.nx (ρ.set i (.v d)))):=by
 intro H9 O0 pins s σ H D I ⟨O,ρ,E,fk,q⟩;dsimp only at q;rw[exec_Assign_Name_used _ _ _ _ vp];refine aAa (aDJ<|aAa ?_);show wpAny _ X.A (do let _<-comprehension (.ListComp elt [⟨tg,z9,ifs,0⟩] scope pos) scope X.env _ (newList []) false (eval z9 X.env) (some<|assign (.Name y py) X.env)) _ _ s;refine aAa (aCb (aDH (use:=some (assign (.Name y py) X.env)) (Q:=λ_ s'=>SP X pins D .next s') rfl hs (Y3<|Inv.aa9 I S) S.kind S.names ?_) (λ_ s' hq=>aAb (aAb hq)) λ_ _ e=>e);refine D8 (hi pins s σ H (λJ H1=>∃ds rs,Same H H1/\VB X.K J H1 O ds/\ds.length<=sizeLine/\u5 G ft fe (i7 own js ρ) ds=.ok rs/\RS X H9 O0 H O (.ok (.nx (ρ.set i<|.v (.lst rs)))) D) I ⟨H9,O0,O,ρ,E,oD I O E.trk,?_⟩) λv s1 h1=>D8 h1 λitv s2 h2=>?_
 ·cases e1:fi ρ with
  |ex x=>rw[e1]at q;exactλH' s=>q H' (E.same.trans s)
  |bad=>rw[e1]at q;exact q
  |ok ds=>
   rw[e1,R.aa0]at q;intro J H1 s1 hJ;split at q
   ·rename_i hl;cases e2:u5 G ft fe (i7 own js ρ) ds with
    |ex x=>rw[e2]at q;exact(q H E.same).elim
    |bad=>rw[e2]at q;exact q.elim
    |ok rs=>rw[e2]at q;exact⟨ds,rs,s1,hJ,hl,e2,q⟩
   ·exact q.elim
 ·obtain⟨it,fp,tn,J,H2,e,I2,T,iu,f2,ds,rs,sm,hJ,hl,hrs,q⟩:=h2;subst e;refine oE (RR:=λacc C=>compPost (model X.prog X.w) X.A X.xe (some<|assign (.Name y py) X.env) (λ_ s'=>SP X pins D .next s') acc C) hc S (hX pins fp) (hG ρ) I2 T iu f2 (E.grow sm) hJ hrs hl ?_;intro acc C s' H' m hn hCa yo has sm' r _ hC hI;have I3:=hI s'.heap (aFc ..);show wpAny _ X.A (assign (.Name y py) X.env<|.ref acc) _ _ s';refine aEW (jM (i:=i) (v:=.ref acc) I3 hN hy (.inl hyl) rfl (λs4 I4 ⟨a,hsb,ha⟩=>?_)<|.inr hyl);have dg:∀x c,X.env.cells.lookup x=some c->c≠C:=λx c hc=>by obtain⟨v,hv⟩:=I2.cell x c hc;exact aAj (aAq hv.lt yo)
  have hCL:C≠X.env.locals:=aCD (aAq I2.lt yo);have hCa2:C≠a:=by
   rcases ha with ha|ha
   ·rw[ha];exact hCL
   ·exact aBQ (dg y a ha)
  refine⟨m,hn.sameBut hsb hCa2,λh' jn=>?_⟩;refine⟨_,H',?_,q _ H' O (((E.grow sm).grow sm').set i r) (oD I O E.trk) (Kp.of<|sm.trans sm')⟩;exact I4.turned (t':=s4.toks) (it:=C) (λb o hb e=>(jn.2 b hb).trans e) hC hCL (.inr (aAo I2.sz yo)) dg λp hp=>aAj (aAq (aAf (I2.pin p hp).1) yo)
end
omit [Tabs]in
def xW {ns:List Int}(h:PySem.W.WData.layableAll [PySem.W.WData.list (ns.map PySem.W.WData.int)]=true):∀x∈ns,aAV x<=1048576:=λx hx=>by
 have h1:=(PySem.W.layW_cons h).1;have h2:=PySem.W.layableW_item h1 (.int x) (aAi.mpr ⟨x,hx,rfl⟩);have h3:=PySem.W.lay0_int h2;have h4:PyData.layable0 (.int x)=true:=by simpa[PyData.layableAll0]using h3
 exact PyData.bits_of_layable h4
def x4 (P:Program)(w:World)(K:PySem.W.Frag)(mg:cP)(base:Heap)(k:Nat)(x:Str)(n:Nat)(m:List D->R D):Prop:=
 ∃g gd ps,FnOk P w K mg base tR k g gd ps (ZK K n m)/\Binds K gd ps []/\PySem.W.keepIn K (.ref g)=true/\mg x=some (.ref g)
def ID (f:Ev->R (List D))(n:Nat):Prop:=∀ρ ds,f ρ=.ok ds->ds.length=n
def aE:ID P3 0:=λρ ds h=>by cases h;rfl
def z8 (h:ID g n):ID (o8 f g) (n+1):=λρ ds e=>by
 unfold o8 at e;cases e1:f ρ with
 |ok d=>
  rw[e1,R.aa0]at e;cases e2:g ρ with
  |ok au=>rw[e2]at e;cases e;rw[aAu,h ρ au e2]
  |ex x=>rw[e2]at e;cases e
  |bad=>rw[e2]at e;cases e
 |ex x=>rw[e1]at e;cases e
 |bad=>rw[e1]at e;cases e
section
def tE (c:x4 X.prog X.w X.K X.mg X.base k x n m)(hr:Room k X.A)(ha:IN X (e::es) f)(hl:ID f n)(hg:Gl X x:=by rfl)(il:(x==("__debug__":Str))=false:=by decide)(he:starEach (e::es) X.env=(false,eval e X.env)::starEach es X.env:=by rfl)(bf:(backTo pos (starEach es X.env)).any (·.1)=false:=by rfl):
  PD X (.Call (.Name x p) (e::es) [] pos) (λρ=>(f ρ).bind m):=by
 obtain⟨g,gd,ps,F,b,kp,em⟩:=c;exact TW F hr em kp b ha hl hg il he bf
end
def WK {P:Program}{w:World}{K:PySem.W.Frag}{mg:cP}{base:Heap}{x qual:Str}{st:Stmt}{f:Addr}{fd:FuncData}{N ps:List Str}{k:Nat}{m:List D->R D}{F:Ev->R Out}(F0:Fun K x qual st f fd)(S:FnScope N ps (c8 st))(hb0:Binds K fd ps [])(oo:mg x=some (.ref f))
  (hb:∀(cdv:Value) (A:Around) (outer:List Env) (s:Shared) (H:Hp) (E:XK),Room k (A.deeper (envOfC qual (c8 st) s.heap.objs.size f cdv))->aZ (TX P w K mg base N qual (c8 st) f cdv A outer s H E) (t9 st) F)
  (hm:∀ds d,ds.length=ps.length->m ds=.ok d->K7 (F (j5 N ds))=.ok d):x4 P w K mg base (k+1) x ps.length m:=
 ⟨f,fd,ps,fnD F0 S hb hm,hb0,F0.kp,oo⟩
def u3:∀d ρ1,(R.ok ((i7 [x] js ρ).set 0 (Sl.v d)):R Ev)=.ok ρ1->pU ρ1 (i7 [x] js ρ):=λd ρ1 h=>by
 cases h;refine⟨by simp,λi sl h hn=>?_⟩;cases i with
 |zero=>exact absurd (by simpa[i7]using h.symm) hn
 |succ i=>rw[aCo (by lia)];exact h
def zQ (sc:Scope)(N:List Str)(scope:Scope)(fr:List Str)(js:List Nat):Bool:=
 decide (scope.kind=.function)&&scope.names.all (λy=>decide (y.2=.free->(y.1,aBT)∉scope.names))&&scope.names.all (λy=>decide (y.2=.local->scope.names.lookup y.1=some .local))&&
 scope.names.all (λy=>decide (y.2=.free->sc.names.lookup y.1=some .cell\/sc.names.lookup y.1=some .free))&&decide (js.length=fr.length)&&(js.zip fr).all (λp=>decide (N[p.1]?=some p.2/\(p.2,NameKind.free)∈scope.names))&&decide js.Nodup&&
 scope.names.all (λy=>decide (y.2=.free->scope.names.lookup y.1=some .free))
def J5 (hs:X.env.scope=sc:=by rfl)(hN:X.N=N:=by rfl)(h:zQ sc N scope fr js=true:=by decide+kernel):CompSc X scope own fr js:=by simp only[zQ,aAI,aAW,decide_eq_true_eq]at h;obtain⟨⟨⟨⟨⟨⟨⟨h1,h2⟩,h3⟩,h4⟩,h5⟩,h6⟩,h7⟩,h8⟩:=h;subst hs hN;refine⟨h1,h2,h3,h4,h5,λi j x e1 e2=>?_,h7,h8⟩;refine h6 (j,x) (aAt (i:=i) ?_);rw[aBA];exact⟨e1,e2⟩
def PN (h:zQ X.env.scope X.N scope fr js=true:=by first|kernel_rfl|with_unfolding_all rfl):CompSc X scope own fr js:=J5 rfl rfl h
def BB (σ:List (Nat×D))(h:∀p∈σ,p.1<xs.length):pU (σ.foldl (λr p=>r.set p.1 (Sl.v p.2)) (i7 xs js ρ)) (i7 xs js ρ):=by
 have key:∀(σ:List (Nat×D)) (r:Ev),(∀p∈σ,p.1<xs.length)->r.length=(i7 xs js ρ).length->(∀i,xs.length<=i->r[i]?=(i7 xs js ρ)[i]?)->
   (σ.foldl (λr p=>r.set p.1 (Sl.v p.2)) r).length=(i7 xs js ρ).length/\∀i,xs.length<=i->(σ.foldl (λr p=>r.set p.1 (Sl.v p.2)) r)[i]?=(i7 xs js ρ)[i]?:=by
  intro σ;induction σ with
  |nil=>intro r _ h1 h2;exact⟨h1,h2⟩
  |cons p σ ih=>intro r hp h1 h2;refine ih _ (λq hq=>hp q (aAe _ hq)) (by rw[aFB];exact h1) λi hi=>?_;have:=hp p aAJ;rw[aCo (by lia)];exact h2 i hi
 obtain⟨h1,h2⟩:=key σ _ h rfl λ_ _=>rfl;refine⟨h1,λi sl e hn=>?_⟩;by_cases hi:i<xs.length
 ·have:sl=.no:=by
   rcases bC e with z|⟨d,j,_,hle,_⟩
   ·exact z
   ·lia
  exact absurd this hn
 ·rw[h2 i (by lia)];exact e
def zI:∀d ρ1,bV 3 (G2 (λd ρ=>.ok (ρ.set 0 (.v d))) (G2 (λd ρ=>.ok (ρ.set 1 (.v d))) (G2 (λd ρ=>.ok (ρ.set 2 (.v d))) fD))) d (i7 [x,y,z] js ρ)=.ok ρ1->pU ρ1 (i7 [x,y,z] js ρ):=λd ρ1 h=>by
 have go:∀ds:List D,ds.length=3->G2 (λd ρ=>.ok (ρ.set 0<|.v d)) (G2 (λd ρ=>.ok (ρ.set 1<|.v d))<|G2 (λd ρ=>.ok (ρ.set 2<|.v d)) fD) ds (i7 [x,y,z] js ρ)=.ok ρ1->pU ρ1 (i7 [x,y,z] js ρ)
  |[a,b,c],_,h=>by cases h;exact BB (xs:=[x,y,z]) [(0,a),(1,b),(2,c)] (by simp)
 unfold bV at h;split at h
 ·split at h
  ·exact go _ ‹_› h
  ·cases h
 ·split at h
  ·exact go _ ‹_› h
  ·cases h
 ·cases h
end DL
namespace DL.Att2
open PySem PySem.W PySem.Calls PyProof.Rows
def attach_bits {l:OpenLaw}{n:Nat}{q:Program}{loose:List Str}{XP:(Str->Option Value)->Heap->Prop}{YP:World->Heap->Prop}{d:DefRec}
  (hn:l.most=some n) (hdf:d.params.defaults=[])
  (call:∀(w:World) (sa aa:Shared) (mg mb:cP) (fa:Addr) (o:Obj) (pm cd doc:Value) (a:Addr) (vs:List Value) (ns:List Int),
   Ground q loose [] XP w sa mg mb aa.heap->YP w aa.heap->
   aa.heap.get? fa=some o->o.data=.func (docDef d.name d.params d.body d.scope pm cd doc)->aa.heap.CodeRec cd d.name->mg d.name=some (.ref fa)->
   aa.heap.get? a=some {cls:=.type "list",data:=.seq vs.toArray}->IntsAre vs ns->ns.length<=n->(∀x∈ns,aAV x<=1048576)->aa.gens=#[]->
   codeAny (model l.prog w) callerA (.call (.ref fa) ⟨[.ref a],[]⟩) (λr s'=>r=.ok (.ret (.bool true))/\OldK aa.heap s'.heap/\s'.os=aa.os/\AllBare s'.gens) aa):
  WalkO q loose XP YP l.row.toRowW d [] (λf vs=>PySem.call f vs):=by
 intro w sa aa mg mb G Y fa o pm cd doc dV kV ho hd eu hD oo hg args vals as yg hlay hrd qe hlo;obtain rfl:dV=.none:=Dflts.none hD hdf;obtain rfl:kV=.none:=Dflts.noKw hD;obtain⟨a,vs,ns,rfl,rfl,hobj,hints,hlen⟩:=Att.script_of hn yg qe;have hb:=DL.xW (ns:=ns) (by first|exact hlay|exact hlay.1|(simpa using hlay));refine enter_call (aDF (call w sa aa mg mb fa o pm cd doc a vs ns G Y ho (fd_plain hd) eu oo hobj hints hlen hb hg) λr s' hq=>?_);obtain⟨rfl,h2,h3,h4⟩:=hq;exact⟨.inl ⟨.bool true,.bool true,[],rfl,λ_=>rfl,.bool true,Att.post_true l _,λ_=>⟨aGj,λ_ hm=>(nomatch hm)⟩⟩,h2,h3,h4⟩
end DL.Att2
namespace DL
open PySem PySem.Spec L2
open PyProof.Rows hiding St
variable [Tabs]
end DL
namespace DL
open PySem L2
abbrev bits (a:Int):Nat:=aAV a
def f7 (h:l8 a b):Q0 (.int a) (.int b)=.ok (.int (a*b)):=if_pos h
def aI (h:uZ b):O8 (.int a) (.int b)=.ok (.int (a.fdiv b)):=if_pos h
def yI (h:b≠0):S9 (.int a) (.int b)=.ok (.int (a.fmod b)):=if_pos h
def gT (h:0<=b/\b<=1000000/\a.natAbs<2^64):yN (.int a) (.int b)=.ok (.int (a^b.toNat)):=if_pos h
def l8.of (h1:bits a<=m)(h2:bits b<=n)(hm:m<=60000000:=by decide)(hn:n<=60000000:=by decide):l8 a b:=⟨aAo h1 hm,aAo h2 hn⟩
def bits_add (h1:bits a<=n)(h2:bits b<=n):bits (a+b)<=n+1:=by have:=PyProof.Rows.bits_add h1 h2;rw[Nat.max_self]at this;exact this
def bits_sub (h1:bits a<=n)(h2:bits b<=n):bits (a-b)<=n+1:=by have:=PyProof.Rows.bits_sub h1 h2;rw[Nat.max_self]at this;exact this
def bits_mul (h1:bits a<=m)(h2:bits b<=n):bits (a*b)<=m+n:=PyProof.Rows.bits_mul h1 h2
def bits_neg (h1:bits a<=m):bits (-a)<=m:=PyProof.Rows.bits_neg h1
def DS (h:a.natAbs<2^n):bits a<=n:=PyProof.Rows.intBits_le h
def DM (h:bits a<=n):a.natAbs<2^n:=PyProof.Rows.lt_pow_of_bits h (aAg n)
@[simp]def fB (d:D)(ρ:Ev):W9 0 (Sl.v d::ρ)=.ok d:=rfl
@[simp]def kX (i:Nat)(x:Sl)(ρ:Ev):W9 (i+1) (x::ρ)=W9 i ρ:=rfl
@[simp]def NJ (d:D)(ρ:Ev):pI 0 (Sl.v d::ρ)=.ok d:=rfl
@[simp]def zJ (d:List D)(ρ:Ev):pI 0 (Sl.o d::ρ)=.ok (.lst d):=rfl
@[simp]def rM (i:Nat)(x:Sl)(ρ:Ev):pI (i+1) (x::ρ)=pI i ρ:=rfl
@[simp]def WI (d:D)(ρ:Ev):US d ρ=.ok d:=rfl
@[simp]def A9 (ρ:Ev)(F:Ev->R Out):C1 (.ok (.nx ρ)) F=F ρ:=rfl
@[simp]def bx (d:D)(F:Ev->R Out):C1 (.ok (.rt d)) F=.ok (.rt d):=rfl
@[simp]def qw (d:D):K7 (.ok (.rt d))=.ok d:=rfl
@[simp]def pz (ρ:Ev):K7 (.ok (.nx ρ))=.ok .non:=rfl
@[simp]def nK (f:Ev->R D)(g:Ev->R (List D))(ρ:Ev):o8 f g ρ=(f ρ).bind λd=>(g ρ).bind λds=>.ok (d::ds):=rfl
@[simp]def uS (ρ:Ev):P3 ρ=.ok []:=rfl
@[simp]def a0m (a b:D):Y5 [a,b]=.ok (.tup [a,b]):=rfl
@[simp]def a0w (a b c:D):Y5 [a,b,c]=.ok (.tup [a,b,c]):=rfl
@[simp]def a0y (a b c d:D):Y5 [a,b,c,d]=.ok (.tup [a,b,c,d]):=rfl
@[simp]def a1f:sH []=.ok (.lst []):=rfl
@[simp]def a0s (a b c:D):sH [a,b,c]=.ok (.lst [a,b,c]):=rfl
@[simp]def a0p (x y z:D):M1 (.tup [x,y,z]) (.int 0)=.ok x:=rfl
@[simp]def a0n (x y z:D):M1 (.tup [x,y,z]) (.int 1)=.ok y:=rfl
@[simp]def a0r (x y z:D):M1 (.tup [x,y,z]) (.int 2)=.ok z:=rfl
@[simp]def a1c (x y z t:D):M1 (.tup [x,y,z,t]) (.int 0)=.ok x:=rfl
@[simp]def a1b (x y z t:D):M1 (.tup [x,y,z,t]) (.int 1)=.ok y:=rfl
@[simp]def a1a (x y z t:D):M1 (.tup [x,y,z,t]) (.int 2)=.ok z:=rfl
@[simp]def a1k (x y z t:D):M1 (.tup [x,y,z,t]) (.int 3)=.ok t:=rfl
@[simp]def a1h (x y:D):M1 (.tup [x,y]) (.int 0)=.ok x:=rfl
@[simp]def a0t (x y:D):M1 (.tup [x,y]) (.int 1)=.ok y:=rfl
def M0 (h:lP xs i=some d):M1 (.lst xs) (.int i)=.ok d:=by simp only[M1,h]
def CB {xs:List D}{i:Int}{d:D}(h:lP xs i=some d):M1 (.tup xs) (.int i)=.ok d:=by simp only[M1,h]
@[simp]def mz (a b:Int):lV (.int a) (.int b)=.ok (.int (a+b)):=rfl
@[simp]def uN (a b:Int):LI (.int a) (.int b)=.ok (.int (a-b)):=rfl
@[simp]def a0a (a b:Int):pj (.int a) (.int b)=.ok (.bl (decide (a<b))):=rfl
@[simp]def BE (a b:Int):ay (.int a) (.int b)=.ok (.bl (decide (a<=b))):=rfl
@[simp]def uU (a b:Int):ZN (.int a) (.int b)=.ok (.bl (decide (b<a))):=rfl
@[simp]def uk (a:Int):RF (.int a)=.ok (.int (-a)):=rfl
@[simp]def DZ (b:Bool):EA (.bl b)=.ok b:=rfl
@[simp]def a0k (b:Int):uz (.int b)=.ok (some b):=rfl
@[simp]def AO (xs:List D):QD [.lst xs]=.ok (.int xs.length):=rfl
@[simp]def XZ (a:Int):gj [.int a]=.ok (.int (if a<0 then-a else a)):=rfl
@[simp]def oz (a b:Int):VE [.int a,.int b]=.ok (.int (if b>a then b else a)):=rfl
@[simp]def uP (f g:Ev->R Bool)(ρ:Ev):WB f g ρ=(f ρ).bind λb=>if b=true then g ρ else .ok false:=rfl
@[simp]def a0b (f g:Ev->R Bool)(ρ:Ev):orB f g ρ=(f ρ).bind λb=>if b=true then .ok true else g ρ:=rfl
@[simp]def xx (a b:Int):UT (.int a) (.int b)=.ok (.bl (a==b)):=by simp only[UT,B7,u6];rfl
@[simp]def JT (a b:Int):FJ (.int a) (.int b)=.ok (.bl (!(a==b))):=by simp only[FJ,B7,u6];rfl
@[simp]def YF (a b c d e f:Int):UT (.tup [.int a,.int b,.int c]) (.tup [.int d,.int e,.int f])=.ok (.bl (a==d&&(b==e&&c==f))):=by simp[UT,B7,B8,u6,V9]
@[simp]def kI (a b c d e f:Int):FJ (.tup [.int a,.int b,.int c]) (.tup [.int d,.int e,.int f])=.ok (.bl (!(a==d&&(b==e&&c==f)))):=by simp[FJ,B7,B8,u6,V9]
theorem M3 (r:D->D):∀{ds:List D},(∀d∈ds,∃ρ1,G d ρ=.ok ρ1/\fe ρ1=.ok (r d))->u5 G (λ_=>.ok true) fe ρ ds=.ok (ds.map r)
 |[],_=>rfl
 |d::ds,h=>by obtain⟨ρ1,e1,e2⟩:=h d aAJ;rw[u5,e1];simp only[R.aa0,if_true,e2,M3 r λd hd=>h d (aAe _ hd),aAv]
def Y8 {α:Type}{xs:List α}{k:Int}(h0:0<=k):lP xs k=xs[k.toNat]?:=by
 unfold lP yW;rw[if_pos h0];by_cases h:k<xs.length
 ·rw[if_pos h];rfl
 ·rw[if_neg h,aBI.mpr (by omega)];rfl
def T9 (n:Nat)(xs:List D):Prop:=∀x∈xs,∃i,x=.int i/\bits i<=n
def SF {n:Nat}{ns:List Int}(h:∀x∈ns,bits x<=n):T9 n (ns.map D.int):=λx hx=>by obtain⟨i,hi,rfl⟩:=aAi.mp hx;exact⟨i,rfl,h i hi⟩
def rJ (g:Int->Int)(xs:List D)(k:Int):D:=match xs[k.toNat]? with
 |some d=>d
 |none=>.int (g k)
def GE (h:T9 n xs)(g:Int->Int)(k:Int):∃i,rJ g xs k=.int i/\(bits i<=n\/i=g k):=by
 unfold rJ;cases e:xs[k.toNat]? with
 |none=>exact⟨_,rfl,.inr rfl⟩
 |some d=>obtain⟨i,rfl,hb⟩:=h d (aAt e);exact⟨i,rfl,.inl hb⟩
def K3 (h1:-((2:Int)^n)<a)(h2:a<(2:Int)^n):bits a<=n:=DS (by
 have e:((2^n:Nat):Int)=(2:Int)^n:=by simp
 omega)
def bits_fmod {a b:Int}{n:Nat}(h0:b≠0)(hb:bits b<=n):bits (a.fmod b)<=n:=PyProof.Rows.bits_fmod_by h0 hb
def bits_fdiv (ha:bits a<=n):bits (a.fdiv b)<=n:=PyProof.Rows.bits_fdiv ha
def y3 (h:bits a<=m)(hm:m<=n:=by decide):bits a<=n:=aAo h hm
@[simp]def a2a:gC [.int 3]=.ok [.int 0,.int 1,.int 2]:=rfl
@[simp]def HM (xs:List D):S1 (.lst xs)=.ok xs:=rfl
@[simp]def FD (xs:List D):tY (.tup xs)=.ok xs:=rfl
@[simp]def YN (G:D->Ev->R Ev)(ft:Ev->R Bool)(fe:Ev->R D)(ρ:Ev):u5 G ft fe ρ []=.ok []:=rfl
@[simp]def WN (i:Nat)(ft:Ev->R Bool)(fe:Ev->R D)(ρ:Ev)(d:D)(ds:List D):u5 (λd ρ=>.ok (ρ.set i (Sl.v d))) ft fe ρ (d::ds)=(ft (ρ.set i (Sl.v d))).bind λb=>if b=true then(fe (ρ.set i (Sl.v d))).bind λr=>(u5 (λd ρ=>.ok (ρ.set i (Sl.v d))) ft fe ρ ds).bind λrs=>.ok (r::rs)else u5 (λd ρ=>.ok (ρ.set i (Sl.v d))) ft fe ρ ds:=rfl
@[simp]def nj (d:D):seen (.v d)=.v d:=rfl
end DL
namespace DL
open PySem L2
def UQ (x:D)(r:List D):M1 (.tup (x::r)) (.int 0)=.ok x:=CB (by rw[Y8 (by decide)];rfl)
def VN (x y:D)(r:List D):M1 (.tup (x::y::r)) (.int 1)=.ok y:=CB (by rw[Y8 (by decide)];rfl)
def UJ (x y z:D)(r:List D):M1 (.tup (x::y::z::r)) (.int 2)=.ok z:=CB (by rw[Y8 (by decide)];rfl)
theorem fW (Iv:Nat->Ev->Prop)(ht:∀n ρ,Iv (n+1) ρ->c ρ=.ok false\/(c ρ=.ok true/\∃ρ2,F ρ=.ok (.nx ρ2)/\Iv n ρ2))(h00:∀ρ,¬Iv 0 ρ):∀n ρ,Iv n ρ->∃m ar,Q8 c F n ρ=.ok (.nx ar)/\Iv m ar/\c ar=.ok false
 |0,ρ,h=>absurd h (h00 ρ)
 |n+1,ρ,h=>by
  rcases ht n ρ h with e|⟨e,ρ2,e2,h2⟩
  ·exact⟨n+1,ρ,by rw[Q8,e];rfl,h,e⟩
  ·obtain⟨m,ar,e3,h3,h4⟩:=fW Iv ht h00 n ρ2 h2;exact⟨m,ar,by rw[Q8,e];simp only[R.aa0,if_true,e2];exact e3,h3,h4⟩
def IL {Iv:Nat->Ev->Prop}(ht:∀n ρ,Iv (n+1) ρ->c ρ=.ok false\/(c ρ=.ok true/\∃ρ2,F ρ=.ok (.nx ρ2)/\Iv n ρ2))(h0:Iv n ρ)(h2:∀n ar,Iv n ar->c ar=.ok false->K7 (F2 ar)=.ok d)(h00:∀ρ,¬Iv 0 ρ:=by(intro ρ;rintro⟨x,y,_,z,_⟩;omega)):
  K7 (C1 (Q8 c F n ρ) F2)=.ok d:=by
 obtain⟨m,ar,e,h,hc⟩:=fW Iv ht h00 n ρ h0;rw[e];exact h2 m ar h hc
end DL
namespace DL
open PySem PySem.Spec L2
open PyProof.Rows hiding St
variable [Tabs]
section
variable{K:PySem.W.Frag}
def EnvOk.ad8 (E:EnvOk K H9 O0 H O σ ρ)(i:Nat)(h:H a=none)(hk:K.lookup a=none)(r:Reps K H O vs xs):
  EnvOk K H9 O0 (upd H a (.lst vs)) (λb=>O b\/b=a) (σ.set i (some (.ref a))) (ρ.set i (.o xs)):=
 E.ad6 i h hk trivial λh0=>⟨a,vs,rfl,.inr rfl,h0,j4,r.ab9 h hk⟩
def EnvOk.disown (E:EnvOk K H9 O0 H O σ ρ)(e:ρ[i]?=some (.o xs)):∃O',EnvOk K H9 O0 H O' σ (ρ.set i (.v (.lst xs)))/\(∀b,O' b->O b):=by obtain⟨a,vs,h1,h2,h3,h4,h5⟩:=E.own i xs e;exact⟨λb=>O b/\b≠a,E.ae5 e trivial h1 (λz=>z) ⟨.ref a,rfl,.lst (L7.of h4) (λz=>z.2 rfl) (h5.sub λ_ z=>z.1)⟩,λb z=>z.1⟩
def EnvOk.write (E:EnvOk K H9 O0 H O σ ρ)(e:ρ[i]?=some (.o xs))(h1:σ[i]?=some (some (V.ref a)))(r:Reps K H O dh xs'):
  EnvOk K H9 O0 (upd H a (.lst dh)) O σ (ρ.set i (.o xs'))/\Kp H O (upd H a (.lst dh)) O:=by
 obtain⟨a',vs,p1,h2,h3,h4,h5⟩:=E.own i xs e;have ea:a'=a:=by rw[p1]at h1;cases h1;rfl
 subst ea;exact E.ad7 e trivial h1 h4 trivial trivial λ_ _ _=>⟨a',dh,rfl,h2,h3,j4,r.upd h4 trivial h2⟩
end
section
def tF (X:Cx)(f:Ev->R (List D)):TE:=λσ H Q=>∃H9 O0 O ρ,EnvOk X.K H9 O0 H O σ ρ/\match f ρ with
 |.ok ds=>∀vs H1 a,Same H H1->H1 a=none->Reps X.K H1 O vs ds->Q (.ref a) (upd H1 a<|.lst vs)
 |.ex e=>∀H',Same H H'->XW X e H'
 |.bad=>False
def PF (X:Cx)(e:Expr)(f:Ev->R (List D)):Prop:=PE X e (tF X f)
def JQ (I:Inv X pins σ H s)(h:H a=some o):X.K.lookup a=none:=by
 cases e:X.K.lookup a with
 |none=>rfl
 |some ob=>have:=(I.bs a ob<|I.ok.mod.kin a ob e).2;rw[h]at this;cases this
def PF.pd (h:PF X e f):PD X e (λρ=>(f ρ).bind λds=>.ok (.lst ds)):=QE h λσ H Q H9 O0 O ρ E q=>⟨H9,O0,O,ρ,E,by
 dsimp only at q;cases e1:f ρ with
 |ok ds=>rw[e1]at q;intro vs H1 a s1 ha r;exact q _ _ (s1.trans<|j7 ha _) (.lst (L7.of j4) ((E.grow s1).fresh ha) (r.same<|j7 ha _))
 |ex x=>rw[e1]at q;exact q
 |bad=>rw[e1]at q;exact q⟩
def jE (h:IN X es f):PF X (.List es pos) (λρ=>(f ρ).bind λds=>if ds.length<=sizeLine then .ok ds else .bad):=
 QE (KB h) λσ H Q H9 O0 O ρ E q=>⟨H9,O0,O,ρ,E,by
  dsimp only at q;cases e1:f ρ with
  |ok ds=>
   rw[e1,R.aa0]at q;intro vs H1 s1 r1;by_cases hz:ds.length<=sizeLine
   ·rw[if_pos hz]at q;exact⟨by rw[r1.length];exact hz,λp hp=>q vs H1 p s1 hp r1⟩
   ·rw[if_neg hz]at q;exact aAk q
  |ex x=>rw[e1]at q;exact q
  |bad=>rw[e1]at q;exact q⟩
def dR (i:Nat)(he:PF X e f)(hN:X.N.Nodup)(hi:X.N[i]?=some x:=by rfl)(hx:Loc X.env.scope x:=by first|exact aCN rfl|exact aBS rfl)(hs:swapsWith e (some (.Name x pos')) pos.line X.env=pure false:=by rfl)(hf:X.fn x=true\/X.env.scope.names.lookup x=some .local:=by first|exact .inl rfl|exact .inr rfl|assumption):
  oG X (.Assign [.Name x pos'] e pos) (λρ=>(f ρ).bind λds=>.ok (.nx (ρ.set i (.o ds)))):=by
 intro H9 O0 pins s σ H D I ⟨O,ρ,E,fk,q⟩;dsimp only at q;refine aEX (D8 (he pins s σ H (λv H2=>∃vs H1 a ds,v=.ref a/\H2=upd H1 a (.lst vs)/\Same H H1/\H1 a=none/\Reps X.K H1 O vs ds/\RS X H9 O0 H O (.ok (.nx (ρ.set i<|.o ds))) D) I ⟨H9,O0,O,ρ,E,?_⟩) λv s1 ⟨y,H2,I2,r2,vs,H1,a,ds,e1,e2,yp,ha,r,q'⟩=>?_) hs
 ·cases e1:f ρ with
  |ok ds=>rw[e1,R.aa0]at q;exactλvs H1 a s1 ha r=>⟨vs,H1,a,ds,rfl,rfl,s1,ha,r,q⟩
  |ex x=>rw[e1]at q;exactλH' s=>q H' (E.same.trans s)
  |bad=>rw[e1]at q;exact q
 ·subst e1 e2;refine P4 I2 hN hi hx r2 (λs3 I3=>⟨_,_,I3,?_⟩) hf;have hk:=JQ I2 (j4 (H:=H1) (a:=a) (o:=.lst vs));have E2:=(E.grow yp).ad8 i ha hk r;refine q' _ _ _ E2 (oD I2 _ E2.trk) ?_;exactλb o hb n=>⟨by rw[k8 (t4 (yp b o hb) ha)];exact yp b o hb,λz=>z.elim n (t4 (yp b o hb) ha)⟩
def UE (i:Nat)(ρ:Ev):Ev:=match ρ[i]? with
 |some (.o xs)=>ρ.set i (.v (.lst xs))
 |_=>ρ
def DT (i:Nat){st:Stmt}(h:oG X st F):oG X st (λρ=>F (UE i ρ)):=by
 intro H9 O0 pins s σ H D I ⟨O,ρ,E,fk,q⟩;dsimp only at q;unfold UE at q;cases e:ρ[i]? with
 |none=>rw[e]at q;exact h H9 O0 pins s σ H D I ⟨O,ρ,E,fk,q⟩
 |some sl=>
  rw[e]at q;cases sl with
  |x C=>exact h H9 O0 pins s σ H D I ⟨O,ρ,E,fk,q⟩
  |c m φ=>exact h H9 O0 pins s σ H D I ⟨O,ρ,E,fk,q⟩
  |d kvs=>exact h H9 O0 pins s σ H D I ⟨O,ρ,E,fk,q⟩
  |no=>exact h H9 O0 pins s σ H D I ⟨O,ρ,E,fk,q⟩
  |v d=>exact h H9 O0 pins s σ H D I ⟨O,ρ,E,fk,q⟩
  |o xs=>obtain⟨O',E',sub⟩:=E.disown e;exact h H9 O0 pins s σ H D I ⟨O',_,E',λa o hk z=>fk a o hk (sub a z),RS.grow q λb o hb n=>⟨hb,λz=>n (sub b z)⟩⟩
def yQ (i:Nat)(ρ:Ev)(d:D):R Out:=match ρ[i]? with
 |some (.o xs)=>if xs.length<sizeLine then .ok (.nx (ρ.set i<|.o (xs++[d])))else .bad
 |_=>.bad
def aQ (i:Nat)(he:PD X e f)(hN:X.N[i]?=some x:=by rfl)(hv:BI X.env.scope x:=by first|exact aCN rfl|exact aBS (aCN rfl)|exact aBS (aBS rfl))(hd:(x==("__debug__":Str))=false:=by decide)(eu:(x==("__classdict__":Str))=false:=by decide)(fb:attributeBase (.Name x p) "append" X.env (eval (.Name x p) X.env)=eval (.Name x p) X.env:=by rfl)(vh:((backTo bh (starEach [e] X.env)).all (λx=>!x.1)&&(backToKw bh (keywordEach [] X.env)).all (λx=>x.1.isSome)
   &&decide ([e].length+([]:List Keyword).length+(if([]:List Keyword).isEmpty then 0 else 1)<30))=true:=by rfl) (cp:(apos.endLine==bh.line)=true:=by rfl) (hs:starEach [e] X.env=(false,eval e X.env)::starEach [] X.env:=by rfl) (ke:(backTo bh (starEach [] X.env)).any (·.1)=false:=by rfl) (vp:swapsWith (.Call (.Attribute (.Name x p) "append" apos) [e] [] bh) none pos.line X.env=pure false:=by rfl):
  oG X (.Expr (.Call (.Attribute (.Name x p) "append" apos) [e] [] bh) pos) (λρ=>(f ρ).bind (yQ i ρ)):=λH9 O0=>
 BN (mL (VH PySem.F.plainAttrs_list PySem.F.slot_list_append PySem.F.type_list_append sE (Q7 hN hv hd eu) (f9 he q8 hs) fb vh cp hs ke) vp) λD σ H O ρ E fk q=>by
 cases e1:f ρ with
 |ok d=>
  rw[e1,R.aa0]at q;unfold yQ at q;cases e2:ρ[i]? with
  |none=>rw[e2]at q;exact aAk q
  |some sl=>
   rw[e2]at q;cases sl with
   |x C=>exact aAk q
   |c m φ=>exact aAk q
   |d kvs=>exact aAk q
   |no=>exact aAk q
   |v d=>exact aAk q
   |o xs=>
    dsimp only at q;split at q
    ·rename_i hz;obtain⟨a,vs,h1,h2,h3,h4,h5⟩:=E.own i xs e2;refine⟨_,h1,.inl ⟨rfl,vs,L7.of h4⟩,H9,O0,O,ρ,E,?_⟩;show IE X H O ((f ρ).bind λd=>(R.ok []).bind λds=>.ok (d::ds)) _;rw[e1];intro us H1 s1 r1;cases r1 with
     |cons r1 rn=>cases rn;have E1:=E.grow s1;refine⟨a,vs,_,rfl,rfl,s1 _ _ h4,by rw[h5.length];exact hz,?_⟩;obtain⟨E2,k2⟩:=E1.write e2 h1 ((h5.same s1).snoc r1);exact q σ _ O E2 fk ((Kp.of s1).trans k2)
    ·exact aAk q
 |ex x=>
  rw[e1]at q;cases e2:ρ[i]? with
  |none=>exact(q H E.same).elim
  |some sl=>exact(q H E.same).elim
 |bad=>rw[e1]at q;exact aAk q
def RB (i:Nat)(ρ:Ev)(d:D):R Out:=match ρ[i]?,d with
 |some (.o xs),.lst ys=>if xs.length+ys.length<=sizeLine then .ok (.nx (ρ.set i<|.o (xs++ys)))else .bad
 |_,_=>.bad
def AC (i:Nat)(ρ:Ev):R (D×Ev):=match ρ[i]? with
 |some (.o xs)=>match xs[xs.length-1]? with
  |some d=>.ok (d,ρ.set i (.o xs.dropLast))
  |none=>.bad
 |_=>.bad
def QN (i:Nat)(hN:X.N[i]?=some x:=by rfl)(hv:BI X.env.scope x:=by first|exact aCN rfl|exact aBS (aCN rfl)|exact aBS (aBS rfl))(hd:(x==("__debug__":Str))=false:=by decide)(eu:(x==("__classdict__":Str))=false:=by decide)(fb:attributeBase (.Name x p) "pop" X.env (eval (.Name x p) X.env)=eval (.Name x p) X.env:=by rfl)(cp:(apos.endLine==bh.line)=true:=by rfl)(vp:swapsWith (.Call (.Attribute (.Name x p) "pop" apos) [] [] bh) none pos.line X.env=pure false:=by rfl):
  oG X (.Expr (.Call (.Attribute (.Name x p) "pop" apos) [] [] bh) pos) (λρ=>(AC i ρ).bind λz=>.ok (.nx z.2)):=λH9 O0=>
 BN (mL (MS PySem.F.plainAttrs_list PySem.F.slot_list_pop PySem.F.type_list_pop LK (Q7 hN hv hd eu) fb cp) vp) λD σ H O ρ E fk q=>by
 unfold AC at q;cases e2:ρ[i]? with
 |none=>rw[e2]at q;exact aAk q
 |some sl=>
  rw[e2]at q;cases sl with
  |x C=>exact aAk q
  |c m φ=>exact aAk q
  |d kvs=>exact aAk q
  |no=>exact aAk q
  |v d=>exact aAk q
  |o xs=>
   dsimp only at q;cases e3:xs[xs.length-1]? with
   |none=>rw[e3]at q;exact aAk q
   |some d=>rw[e3]at q;obtain⟨a,vs,h1,h2,h3,h4,h5⟩:=E.own i xs e2;obtain⟨v,g1,g2⟩:=h5.get e3;refine⟨_,h1,.inl ⟨rfl,vs,L7.of h4⟩,a,vs,v,rfl,rfl,h4,by rw[h5.length];exact g1,?_⟩;obtain⟨E2,k2⟩:=E.write e2 h1 h5.dropLast;exact q σ _ O E2 fk k2
def zG (j i:Nat)(hND:X.N.Nodup)(jm:i≠j:=by decide)(hN:X.N[i]?=some x:=by rfl)(hy:X.N[j]?=some y:=by rfl)(hv:BI X.env.scope x:=by first|exact aCN rfl|exact aBS (aCN rfl)|exact aBS (aBS rfl))(hd:(x==("__debug__":Str))=false:=by decide)(eu:(x==("__classdict__":Str))=false:=by decide)(fb:attributeBase (.Name x p) "pop" X.env (eval (.Name x p) X.env)=eval (.Name x p) X.env:=by rfl)(cp:(apos.endLine==bh.line)=true:=by rfl)(hly:Loc X.env.scope y:=by first|exact aCN rfl|exact aBS rfl)(vp:swapsWith (.Call (.Attribute (.Name x p) "pop" apos) [] [] bh) (some (.Name y py)) pos.line X.env=pure false:=by rfl)(hf:X.fn y=true\/X.env.scope.names.lookup y=some .local:=by first|exact .inl rfl|exact .inr rfl|assumption):
  oG X (.Assign [.Name y py] (.Call (.Attribute (.Name x p) "pop" apos) [] [] bh) pos) (λρ=>(AC i ρ).bind λz=>.ok (.nx (z.2.set j (.v z.1)))):=λH9 O0=>
 BN (LU hND hy hly (MS PySem.F.plainAttrs_list PySem.F.slot_list_pop PySem.F.type_list_pop LK (Q7 hN hv hd eu) fb cp) vp hf) λD σ H O ρ E fk q=>by
 unfold AC at q;cases e2:ρ[i]? with
 |none=>rw[e2]at q;exact aAk q
 |some sl=>
  rw[e2]at q;cases sl with
  |x C=>exact aAk q
  |c m φ=>exact aAk q
  |d kvs=>exact aAk q
  |no=>exact aAk q
  |v d=>exact aAk q
  |o xs=>
   dsimp only at q;cases e3:xs[xs.length-1]? with
   |none=>rw[e3]at q;exact aAk q
   |some d=>rw[e3]at q;obtain⟨a,vs,h1,h2,h3,h4,h5⟩:=E.own i xs e2;obtain⟨v,g1,g2⟩:=h5.get e3;refine⟨_,h1,.inl ⟨rfl,vs,L7.of h4⟩,a,vs,v,rfl,rfl,h4,by rw[h5.length];exact g1,?_⟩;obtain⟨E2,k2⟩:=E.write e2 h1 h5.dropLast;exact q _ _ O (E2.set j<|k2.rep E.trk fk g2) fk k2
def XE (i:Nat)(ρ:Ev)(k d:D):R Out:=match ρ[i]?,k with
 |some (.o xs),.int k=>match yW xs.length k with
  |some j=>.ok (.nx (ρ.set i<|.o (xs.set j d)))
  |none=>.bad
 |_,_=>.bad
def GA (i:Nat)(he:PD X e f)(hk:PD X k g)(hN:X.N[i]?=some x:=by rfl)(hv:BI X.env.scope x:=by first|exact aCN rfl|exact aBS (aCN rfl)|exact aBS (aBS rfl))(hd:(x==("__debug__":Str))=false:=by decide)(eu:(x==("__classdict__":Str))=false:=by decide)(ha:∀v,assign (.Subscript (.Name x p) k ps) X.env v=(do
   let ov<-holding [v] (eval (.Name x p) X.env)
   let iv<-holding [v,ov] (eval k X.env)
   standAt ps
   holding [v,ov,iv] (setItem ov iv v)
   release [v,ov,iv] []):=by intro _;rfl) (hs:swapsWithSole [.Subscript (.Name x p) k ps] e pos.line X.env=pure false:=by rfl) (hw:swappedStores [.Subscript (.Name x p) k ps] e X.env=pure none:=by rfl) (h1:(assignEach [.Subscript (.Name x p) k ps] X.env).map (·.2)=[assign (.Subscript (.Name x p) k ps) X.env]:=by rfl):
  oG X (.Assign [.Subscript (.Name x p) k ps] e pos) (λρ=>(f ρ).bind λd=>(g ρ).bind λkd=>XE i ρ kd d):=λH9 O0=>
 BN (BY he (MH (Q7 hN hv hd eu) hk KY ha) hs hw h1) λD σ H O ρ E fk q=>⟨H9,O0,O,ρ,E,by
  cases e1:f ρ with
  |ok d=>
   rw[e1,R.aa0]at q;intro v H1 s1 r1;have E1:=E.grow s1;cases e2:g ρ with
   |ok kd=>
    rw[e2,R.aa0]at q;unfold XE at q;cases e3:ρ[i]? with
    |none=>rw[e3]at q;exact aAk q
    |some sl=>
     rw[e3]at q;cases sl with
     |x C=>exact aAk q
     |c m φ=>exact aAk q
     |d kvs=>exact aAk q
     |no=>exact aAk q
     |v d=>exact aAk q
     |o xs=>
      obtain⟨a,vs,h1,h2,h3,h4,h5⟩:=E1.own i xs e3;refine⟨_,h1,H9,O0,O,ρ,E1,?_⟩;rw[e2];intro kv H2 s2 r2;have E2:=E1.grow s2;cases kd with
      |int kk=>
       dsimp only at q;cases e4:yW xs.length kk with
       |none=>rw[e4]at q;exact aAk q
       |some j=>rw[e4]at q;cases r2;refine⟨a,vs,kk,j,rfl,rfl,s2 _ _ h4,by rw[h5.length];exact e4,?_⟩;obtain⟨E3,k3⟩:=E2.write e3 h1 ((h5.same s2).set (r1.same s2) j);exact q σ _ O E3 fk (((Kp.of s1).trans (Kp.of s2)).trans k3)
      |_=>exact aAk q
   |ex x=>rw[e2]at q;exact(q H E.same).elim
   |bad=>rw[e2]at q;exact aAk q
  |ex x=>rw[e1]at q;exactλH' s=>q H' (E.same.trans s)
  |bad=>rw[e1]at q;exact q⟩
def FH (i:Nat)(own fr:List Str)(js:List Nat)(hN:X.N.Nodup)(hc:X.calm=true)(S:CompSc X scope own fr js)(hi:VJ X tg z9 fi)(hX:∀(pins:L8) (fp:List Addr) (X':Cx),(∃sa Ha C,X'=GW X pins sa Ha (own++fr) scope (cM X scope C) C fp)->KS X' tg G/\UX X' ifs ft/\PD X' elt fe)(hG:∀ρ d ρ1,G d (i7 own js ρ)=.ok ρ1->pU ρ1 (i7 own js ρ))(hy:X.N[i]?=some y:=by rfl)(hyl:X.env.scope.names.lookup y=some .local:=by rfl)(vp:swapsWith (.ListComp elt [⟨tg,z9,ifs,0⟩] scope pos) (some (.Name y py)) spos.line X.env=pure true:=by rfl)(hs:∀x,foldedSetIterable z9 X.env x=pure x:=by intro _;rfl):
  oG X (.Assign [.Name y py] (.ListComp elt [⟨tg,z9,ifs,0⟩] scope pos) spos) (λρ=>((fi ρ).bind λds=>if ds.length<=sizeLine then(u5 G ft fe (i7 own js ρ) ds).bind λrs=>R.ok rs else .bad).bind λrs=>.ok (.nx (ρ.set i (.o rs)))):=by
 intro H9 O0 pins s σ H D I ⟨O,ρ,E,fk,q⟩;dsimp only at q;rw[exec_Assign_Name_used _ _ _ _ vp];refine aAa (aDJ<|aAa ?_);show wpAny _ X.A (do let _<-comprehension (.ListComp elt [⟨tg,z9,ifs,0⟩] scope pos) scope X.env _ (newList []) false (eval z9 X.env) (some<|assign (.Name y py) X.env)) _ _ s;refine aAa (aCb (aDH (use:=some (assign (.Name y py) X.env)) (Q:=λ_ s'=>SP X pins D .next s') rfl hs (Y3<|Inv.aa9 I S) S.kind S.names ?_) (λ_ s' hq=>aAb (aAb hq)) λ_ _ e=>e);refine D8 (hi pins s σ H (λJ H1=>∃ds rs,Same H H1/\VB X.K J H1 O ds/\ds.length<=sizeLine/\u5 G ft fe (i7 own js ρ) ds=.ok rs/\RS X H9 O0 H O (.ok (.nx (ρ.set i<|.o rs))) D) I ⟨H9,O0,O,ρ,E,oD I O E.trk,?_⟩) λv s1 h1=>D8 h1 λitv s2 h2=>?_
 ·cases e1:fi ρ with
  |ex x=>rw[e1]at q;exactλH' s=>q H' (E.same.trans s)
  |bad=>rw[e1]at q;exact q
  |ok ds=>
   rw[e1,R.aa0]at q;intro J H1 s1 hJ;split at q
   ·rename_i hl;cases e2:u5 G ft fe (i7 own js ρ) ds with
    |ex x=>rw[e2]at q;exact(q H E.same).elim
    |bad=>rw[e2]at q;exact q.elim
    |ok rs=>rw[e2]at q;exact⟨ds,rs,s1,hJ,hl,e2,q⟩
   ·exact q.elim
 ·obtain⟨it,fp,tn,J,H2,e,I2,T,iu,f2,ds,rs,sm,hJ,hl,hrs,q⟩:=h2;subst e;refine oE (RR:=λacc C=>compPost (model X.prog X.w) X.A X.xe (some<|assign (.Name y py) X.env) (λ_ s'=>SP X pins D .next s') acc C) hc S (hX pins fp) (hG ρ) I2 T iu f2 (E.grow sm) hJ hrs hl ?_;intro acc C s' H' m hn hCa yo has sm' r nw hC hI;have I3:=hI s'.heap (aFc ..);show wpAny _ X.A (assign (.Name y py) X.env<|.ref acc) _ _ s';refine aEW (jM (i:=i) (v:=.ref acc) I3 hN hy (.inl hyl) rfl (λs4 I4 ⟨a,hsb,ha⟩=>?_)<|.inr hyl);have dg:∀x c,X.env.cells.lookup x=some c->c≠C:=λx c hc=>by obtain⟨v,hv⟩:=I2.cell x c hc;exact aAj (aAq hv.lt yo)
  have hCL:C≠X.env.locals:=aCD (aAq I2.lt yo);have hCa2:C≠a:=by
   rcases ha with ha|ha
   ·rw[ha];exact hCL
   ·exact aBQ (dg y a ha)
  refine⟨m,hn.sameBut hsb hCa2,λh' jn=>?_⟩;obtain⟨H1,vs,yp,ha1,eH,rr⟩:=nw;subst eH;have E2:=((E.grow sm).grow yp).ad8 i ha1 (JQ I3<|j4 (H:=H1) (a:=acc) (o:=.lst vs)) rr;refine⟨_,_,?_,q _ _ _ E2 (oD I3 _ E2.trk) λb o hb n=>⟨by rw[k8 (t4 ((sm.trans yp) b o hb) ha1)];exact(sm.trans yp) b o hb,λz=>z.elim n (t4 ((sm.trans yp) b o hb) ha1)⟩⟩;exact I4.turned (t':=s4.toks) (it:=C) (λb o hb e=>(jn.2 b hb).trans e) hC hCL (.inr (aAo I2.sz yo)) dg λp hp=>aAj (aAq (aAf (I2.pin p hp).1) yo)
def jS {st:Stmt}:oG X st (λ_=>.bad):=λH9 O0=>BN JG λD σ H O ρ E fk q=>q
end
end DL
namespace G
structure V where
 x:Int
 y:Int
 z:Int
deriving DecidableEq
instance:Add V:=⟨λu v=>⟨u.x+v.x,u.y+v.y,u.z+v.z⟩⟩
instance:Sub V:=⟨λu v=>⟨u.x-v.x,u.y-v.y,u.z-v.z⟩⟩
instance:Neg V:=⟨λu=>⟨-u.x,-u.y,-u.z⟩⟩
instance:HMul Int V V:=⟨λk u=>⟨k*u.x,k*u.y,k*u.z⟩⟩
instance:OfNat V 0:=⟨⟨0,0,0⟩⟩
@[simp]def a1i (u v:V):(u+v).x=u.x+v.x:=rfl
@[simp]def a1d (u v:V):(u+v).y=u.y+v.y:=rfl
@[simp]def a0v (u v:V):(u+v).z=u.z+v.z:=rfl
@[simp]def VQ (u v:V):(u-v).x=u.x-v.x:=rfl
@[simp]def VD (u v:V):(u-v).y=u.y-v.y:=rfl
@[simp]def UW (u v:V):(u-v).z=u.z-v.z:=rfl
@[simp]def kw (u:V):(-u).x=-u.x:=rfl
@[simp]def lq (u:V):(-u).y=-u.y:=rfl
@[simp]def gw (u:V):(-u).z=-u.z:=rfl
@[simp]def OO (k:Int)(u:V):(k*u).x=k*u.x:=rfl
@[simp]def NA (k:Int)(u:V):(k*u).y=k*u.y:=rfl
@[simp]def JW (k:Int)(u:V):(k*u).z=k*u.z:=rfl
@[simp]def X9:(0:V).x=0:=rfl
@[simp]def X5:(0:V).y=0:=rfl
@[simp]def Y2:(0:V).z=0:=rfl
def ext {u v:V}(h1:u.x=v.x)(h2:u.y=v.y)(h3:u.z=v.z):u=v:=by cases u;cases v;simp_all
def mR {u v:V}:u=v↔u.x=v.x/\u.y=v.y/\u.z=v.z:=⟨λh=>by subst h;exact⟨rfl,rfl,rfl⟩,λ⟨a,b,c⟩=>ext a b c⟩
def d7 (u v:V):Int:=u.x*v.x+u.y*v.y+u.z*v.z
def cr (u v:V):V:=⟨u.y*v.z-u.z*v.y,u.z*v.x-u.x*v.z,u.x*v.y-u.y*v.x⟩
def i8 (a u v:V):Int:=d7 a (cr u v)
@[simp]def RV (u v:V):(cr u v).x=u.y*v.z-u.z*v.y:=rfl
@[simp]def RM (u v:V):(cr u v).y=u.z*v.x-u.x*v.z:=rfl
@[simp]def UC (u v:V):(cr u v).z=u.x*v.y-u.y*v.x:=rfl
def GZ (a u v w:V):i8 a u v*w+i8 a v w*u+i8 a w u*v=i8 u v w*a:=by apply ext<;>simp[i8,d7]<;>grind
def VP (f a u v w:V):i8 a u v*d7 f w+i8 a v w*d7 f u+i8 a w u*d7 f v=i8 u v w*d7 f a:=by simp[i8,d7];grind
def l4 (a u v:V):i8 a v u=-i8 a u v:=by simp[i8,d7];grind
def B1 (a u:V):i8 a u u=0:=by simp[i8,d7];grind
def Z3 (a u v w:V):i8 a (u+v) w=i8 a u w+i8 a v w:=by simp[i8,d7];grind
def aG (a u v w:V):i8 a u (v+w)=i8 a u v+i8 a u w:=by simp[i8,d7];grind
def NZ (a u v w:V):i8 a u (v-w)=i8 a u v-i8 a u w:=by simp[i8,d7];grind
def yS (a:V)(k:Int)(u v:V):i8 a u (k*v)=k*i8 a u v:=by simp[i8,d7];grind
def cI (u v:V):d7 u v=d7 v u:=by simp[d7];grind
def aT (f u v:V):d7 f (u+v)=d7 f u+d7 f v:=by simp[d7];grind
def i9 (f u v:V):d7 f (u-v)=d7 f u-d7 f v:=by simp[d7];grind
def t8 (f:V)(k:Int)(v:V):d7 f (k*v)=k*d7 f v:=by simp[d7];grind
def X0 (f:V)(k:Int)(v:V):d7 (k*f) v=k*d7 f v:=by simp[d7];grind
def P7 (f:V):d7 f 0=0:=by simp[d7]
def S7 (a u v:V):d7 (cr a u) v=i8 a u v:=by simp[i8,d7];grind
def x5 {u:V}(h:u≠0):0<d7 u u:=by
 have h1:u.x≠0\/u.y≠0\/u.z≠0:=by
  by_cases a:u.x=0
  ·by_cases b:u.y=0
   ·by_cases c:u.z=0
    ·exact absurd (ext a b c) h
    ·exact .inr (.inr c)
   ·exact .inr (.inl b)
  ·exact .inl a
 have sq:∀t:Int,0<=t*t:=λt=>by
  rcases Int.le_total 0 t with q|q
  ·exact aCt q q
  ·have:=aCt (aFe q) (aFe q);rwa [aFD]at this
 have sqp:∀t:Int,t≠0->0<t*t:=λt ht=>by
  have:=sq t;have:t*t≠0:=λz=>by rcases aAw.mp z with q|q<;>exact ht q
  omega
 have a:=sq u.x;have b:=sq u.y;have c:=sq u.z;unfold d7;rcases h1 with q|q|q
 ·have:=sqp _ q;omega
 ·have:=sqp _ q;omega
 ·have:=sqp _ q;omega
def C8 (h:n≠0)(hu:d7 n u=0)(hv:d7 n v=0)(hw:d7 n w=0):i8 u v w=0:=by
 have e:i8 u v w*d7 n n=0:=by have:=VP n n u v w;rw[hu,hv,hw]at this;simp at this;omega
 rcases aAw.mp e with q|q
 ·exact q
 ·have:=x5 h;omega
end G
namespace G
def u8 (v:V):(0:Int)*v=0:=ext (by simp) (by simp) (by simp)
def mU (v:V):v+0=v:=ext (by simp) (by simp) (by simp)
def fP (v:V):0+v=v:=ext (by simp) (by simp) (by simp)
structure Cone (Pos:V->Prop):Prop where
 add:∀{u v},Pos u->Pos v->Pos (u+v)
 mul:∀{k:Int} {u},0<k->Pos u->Pos (k*u)
 irr:¬Pos 0
section
variable{Pos:V->Prop} (C:Cone Pos)
include C
theorem Cone.comb {p q:Int}{u w:V}(hp:0<p)(hq:0<=q)(hw:Pos w)(hu:Pos u):Pos (p*w+q*u):=by
 by_cases h:q=0
 ·subst h;rw[u8,mU];exact C.mul hp hw
 ·exact C.add (C.mul hp hw) (C.mul (by lia) hu)
theorem Cone.sgn {k:Int}{v:V}(hv:Pos v)(h:Pos (k*v)):0<k:=by
 by_cases hk:0<k
 ·exact hk
 ·exfalso;by_cases h0:k=0
  ·subst h0;rw[u8]at h;exact C.irr h
  ·have h1:=C.add h (C.mul (k:=-k) (by lia) hv);have e:k*v+-k*v=0:=ext (by simp;grind) (by simp;grind) (by simp;grind);rw[e]at h1;exact C.irr h1
theorem Cone.tr {a u v w:V}(hu:Pos u)(hv:Pos v)(hw:Pos w)(hf:i8 u v w=0)(h1:0<i8 a u v)(h2:0<=i8 a v w):0<i8 a u w:=by
 refine C.sgn hv (k:=i8 a u w) ?_;have e:i8 a u w*v=i8 a u v*w+i8 a v w*u:=by have h:=GZ a u v w;rw[hf,u8,l4 a u w]at h;have hx:=congrArg V.x h;have hy:=congrArg V.y h;have hz:=congrArg V.z h;simp at hx hy hz;exact ext (by simp;grind) (by simp;grind) (by simp;grind)
 rw[e];exact C.comb h1 h2 hw hu
theorem Cone.tr' {a u v w:V}(hu:Pos u)(hv:Pos v)(hw:Pos w)(hf:i8 u v w=0)(h1:0<=i8 a u v)(h2:0<i8 a v w):0<i8 a u w:=by
 refine C.sgn hv (k:=i8 a u w) ?_;have e:i8 a u w*v=i8 a v w*u+i8 a u v*w:=by have h:=GZ a u v w;rw[hf,u8,l4 a u w]at h;have hx:=congrArg V.x h;have hy:=congrArg V.y h;have hz:=congrArg V.z h;simp at hx hy hz;exact ext (by simp;grind) (by simp;grind) (by simp;grind)
 rw[e];exact C.comb h2 h1 hu hw
end
structure ConeM (a:V)(Pos:V->Prop):Prop extends Cone Pos where
 inv:∀{u} (k:Int),Pos u->Pos (u+k*a)
def ConeM.tr {a:V}{Pos:V->Prop}(C:ConeM a Pos){u v w:V}(hu:Pos u)(hv:Pos v)(hw:Pos w)(h1:0<i8 a u v)(h2:0<=i8 a v w):0<i8 a u w:=by
 refine C.sgn hv (k:=i8 a u w) ?_;have e:i8 a u w*v=(i8 a u v*w+i8 a v w*u)+(-i8 u v w)*a:=by have h:=GZ a u v w;rw[l4 a u w]at h;have hx:=congrArg V.x h;have hy:=congrArg V.y h;have hz:=congrArg V.z h;simp at hx hy hz;exact ext (by simp;grind) (by simp;grind) (by simp;grind)
 rw[e];exact C.inv _ (C.comb h1 h2 hw hu)
def f6 (w:V):Prop:=0<w.x\/(w.x=0/\(0<w.y\/(w.y=0/\0<w.z)))
instance(w:V):Decidable (f6 w):=inferInstanceAs (Decidable<|_\/_)
def A8:Cone f6 where
 add:=λ{u v} h1 h2=>by unfold f6 at*;simp;lia
 mul:=λ{k u} hk h=>by
  unfold f6 at*
  simp;rcases h with h|⟨h,h'|⟨h',h''⟩⟩
  ·exact .inl (aBe hk h)
  ·exact .inr ⟨by rw[h];simp,.inl (aBe hk h')⟩
  ·exact .inr ⟨by rw[h];simp,.inr ⟨by rw[h'];simp,aBe hk h''⟩⟩
 irr:=by unfold f6;simp
def R1 (w:V):Prop:=f6 (-w)
def zS:-(0:V)=0:=rfl
def iI:Cone R1 where
 add:=λ{u v} h1 h2=>by have e:-(u+v)=-u+-v:=ext (by simp;lia) (by simp;lia) (by simp;lia);unfold R1 at*;rw[e];exact A8.add h1 h2
 mul:=λ{k u} hk h=>by have e:-(k*u)=k*(-u):=ext (by simp;grind) (by simp;grind) (by simp;grind);unfold R1 at*;rw[e];exact A8.mul hk h
 irr:=by unfold R1;rw[zS];exact A8.irr
def RA (w:V):f6 w\/w=0\/R1 w:=by
 unfold R1 f6;rw[mR];simp
 lia
end G
namespace DL
open PySem L2
def V2 (G:D->Ev->R Ev)(F:Ev->R Out)(d:D)(ρ:Ev):R Out:=match G d ρ with
 |.ok ρ1=>F ρ1
 |_=>.bad
@[simp]def bD (i:Nat)(F:Ev->R Out)(d:D)(ρ:Ev):V2 (λd ρ=>.ok (ρ.set i (Sl.v d))) F d ρ=F (ρ.set i (.v d)):=rfl
theorem qO (Iv:Ev->Prop):∀{ds:List D} {ρ:Ev},(∀d∈ds,∀ρ,Iv ρ->∃ρ2,V2 G F d ρ=.ok (.nx ρ2)/\Iv ρ2)->Iv ρ->∃ar,P1 G F ds ρ=.ok (.nx ar)/\Iv ar
 |[],ρ,_,h=>⟨ρ,rfl,h⟩
 |d::ds,ρ,ht,h=>by
  obtain⟨ρ2,e,h2⟩:=ht d aAJ ρ h;obtain⟨ar,e',h'⟩:=qO Iv (ds:=ds) (ρ:=ρ2) (λd hd=>ht d (aAe _ hd)) h2;unfold V2 at e;cases e1:G d ρ with
  |ok ρ1=>rw[e1]at e;exact⟨ar,by rw[P1,e1];dsimp only at e⊢;rw[e];exact e',h'⟩
  |ex x=>rw[e1]at e;cases e
  |bad=>rw[e1]at e;cases e
def MG (Iv:Ev->Prop)(ht:∀d∈ds,∀ρ,Iv ρ->∃ρ2,V2 G F d ρ=.ok (.nx ρ2)/\Iv ρ2)(h0:Iv ρ)(h2:∀ar,Iv ar->K7 (F2 ar)=.ok d):
  K7 (C1 (P1 G F ds ρ) F2)=.ok d:=by
 obtain⟨ar,e,h⟩:=qO Iv ht h0;rw[e];exact h2 ar h
@[simp]def jx (G:D->Ev->R Ev)(F:Ev->R Out)(ρ:Ev):P1 G F [] ρ=.ok (.nx ρ):=rfl
def NT {α:Type}{a b:α}:(R.ok a=R.ok b)=(a=b):=by simp
end DL
namespace DL
open PySem L2
class Bd (a:Int)(n:outParam Nat):Prop where
 h:bits a<=n
def j1 (h:bits a<=m)(hm:m<=n):bits a<=n:=aAo h hm
section
end
abbrev vd (v:G.V):D:=.tup [.int v.x,.int v.y,.int v.z]
def Sz (n:Nat)(v:G.V):Prop:=bits v.x<=n/\bits v.y<=n/\bits v.z<=n
def Sz.mono (h:Sz m v)(hm:m<=n:=by decide):Sz n v:=⟨j1 h.1 hm,j1 h.2.1 hm,j1 h.2.2 hm⟩
def Sz.sub (h:Sz n u)(h':Sz n v):Sz (n+1) (u-v):=⟨bits_sub h.1 h'.1,bits_sub h.2.1 h'.2.1,bits_sub h.2.2 h'.2.2⟩
def Sz.add (h:Sz n u)(h':Sz n v):Sz (n+1) (u+v):=⟨bits_add h.1 h'.1,bits_add h.2.1 h'.2.1,bits_add h.2.2 h'.2.2⟩
def Sz.cr (h:Sz m u)(h':Sz n v):Sz (m+n+1) (G.cr u v):=⟨bits_sub (bits_mul h.2.1 h'.2.2) (bits_mul h.2.2 h'.2.1),bits_sub (bits_mul h.2.2 h'.1) (bits_mul h.1 h'.2.2),bits_sub (bits_mul h.1 h'.2.1) (bits_mul h.2.1 h'.1)⟩
end DL
namespace M
open PySem L2 DL
abbrev pt (a b c:Int):D:=.tup [.int a,.int b,.int c]
abbrev UK (n:Nat)(a b c:Int):Prop:=bits a<=n/\bits b<=n/\bits c<=n
def v1 (k:Int->Int->Int->List D->R D):List D->R D
 |.tup [.int a,.int b,.int c]::ds=>k a b c ds
 |_=>.bad
def v4 (k:Int->Int->Int->Int->List D->R D):List D->R D
 |.tup [.int a,.int b,.int c,.int d]::ds=>k a b c d ds
 |_=>.bad
def OQ (k:List D->List D->R D):List D->R D
 |.lst xs::ds=>k xs ds
 |_=>.bad
def oq (k:List D->List D->R D):List D->R D
 |.tup xs::ds=>k xs ds
 |_=>.bad
def uW (q:R D):List D->R D
 |[]=>q
 |_=>.bad
def G1 (h:v1 k ds=.ok r):∃a b c e,ds=.tup [.int a,.int b,.int c]::e/\k a b c e=.ok r:=by
 unfold v1 at h;split at h
 ·exact⟨_,_,_,_,rfl,h⟩
 ·cases h
def VL (h:v4 k ds=.ok r):∃a b c d e,ds=.tup [.int a,.int b,.int c,.int d]::e/\k a b c d e=.ok r:=by
 unfold v4 at h;split at h
 ·exact⟨_,_,_,_,_,rfl,h⟩
 ·cases h
def sS (h:OQ k ds=.ok r):∃xs e,ds=.lst xs::e/\k xs e=.ok r:=by
 unfold OQ at h;split at h
 ·exact⟨_,_,rfl,h⟩
 ·cases h
def WU (h:oq k ds=.ok r):∃xs e,ds=.tup xs::e/\k xs e=.ok r:=by
 unfold oq at h;split at h
 ·exact⟨_,_,rfl,h⟩
 ·cases h
def K5 (h:uW q ds=.ok r):ds=[]/\q=.ok r:=by
 unfold uW at h;split at h
 ·exact⟨rfl,h⟩
 ·cases h
def v3 (k:Int->Int->Int->List D->R D):List D->R D
 |.tup (.int a::.int b::.int c::_)::ds=>k a b c ds
 |_=>.bad
def VC (h:v3 k ds=.ok r):∃a b c t e,ds=.tup (.int a::.int b::.int c::t)::e/\k a b c e=.ok r:=by
 unfold v3 at h;split at h
 ·exact⟨_,_,_,_,_,rfl,h⟩
 ·cases h
def n4:List D->R D:=v1 λa b c=>v1 λa' b' c'=>uW (.ok (pt (a'-a) (b'-b)<|c'-c))
def w5:List D->R D:=v1 λa b c=>v1 λd e f=>uW (if UK 20000000 a b c/\UK 20000000 d e f then .ok (pt (b*f-c*e) (c*d-a*f)<|a*e-b*d)else .bad)
def m8:List D->R D:=v3 λa b c=>v1 λd e f=>uW (if UK 50000000 a b c/\UK 50000000 d e f then .ok (.int (a*d+b*e+c*f))else .bad)
@[simp]def WT (P Q:G.V):n4 [vd P,vd Q]=.ok (vd (Q-P)):=rfl
def cO (h1:Sz 20000000 u)(h2:Sz 20000000 v):w5 [vd u,vd v]=.ok (vd (G.cr u v)):=if_pos ⟨h1,h2⟩
def iE (h1:Sz 50000000 u)(h2:Sz 50000000 v):m8 [vd u,vd v]=.ok (.int (G.d7 u v)):=if_pos ⟨h1,h2⟩
def rule (k:Int):Int:=7*k*k+10*k+3
def P64:Int:=10^64
def P34:Int:=10^34
def a0j:Int:=P64*P34
def sgn (x:Int):Int:=if 0<x then 1 else if x<0 then-1 else 0
def G0:List D->R D:=v4 λa b c d=>v1 λx y z=>uW (if UK 50000000 a b c/\UK 50000000 x y z then .ok (.int (sgn<|a*x+b*y+c*z-d))else .bad)
def EF (h1:UK 50000000 a b c)(h2:UK 50000000 x y z):G0 [.tup [.int a,.int b,.int c,.int d],pt x y z]=.ok (.int (sgn (a*x+b*y+c*z-d))):=if_pos ⟨h1,h2⟩
def jw (i:Nat)(ρ:Ev):Nat:=match ρ[i]? with
 |some (.v (.int b))=>b.natAbs+2
 |_=>0
def xB (ha:bits a<=n)(hb:bits b<=n):bits (aGk a b)<=n:=by
 refine DS ?_;have h1:=DM ha;have h2:=DM hb;have e:((aGk a b:Nat):Int).natAbs=aGk a b:=by simp
 rw[e];unfold aGk;rcases Nat.eq_zero_or_pos a.natAbs with z|z
 ·rw[z,Nat.gcd_zero_left];exact h2
 ·exact aDg (Nat.gcd_le_left _ z) h1
end M
namespace G
def w8 (v:V):v-v=0:=ext (by simp) (by simp) (by simp)
def eG (a u:V):i8 a u 0=0:=by simp[i8,d7]
def G6 (a u v:V):i8 a u (-v)=-i8 a u v:=by simp[i8,d7];grind
def Z7 (a u v:V):i8 a (-u) v=-i8 a u v:=by simp[i8,d7];grind
structure Row (n:V)(Pos:V->Prop)(T:V->Prop):Prop where
 cone:Cone Pos
 nz:n≠0
 pl:∀X Y,T X->T Y->d7 n (X-Y)=0
 tot:∀X Y,T X->T Y->X=Y\/Pos (X-Y)\/Pos (Y-X)
def Lft (n:V)(Pos:V->Prop)(a b X:V):Prop:=0<=i8 n (b-a) (X-a)/\(i8 n (b-a) (X-a)=0->(X=a\/Pos (X-a))/\(X=b\/Pos (b-X)))
def turn (n P Q R:V):Int:=i8 n (Q-P) (R-Q)
def V8 (n P:V):List V->List V
 |b::a::r=>if turn n a b P<=0 then V8 n P (a::r)else b::a::r
 |r=>r
def y9 (n:V)(ps:List V):List V:=ps.foldl (λc P=>P::V8 n P c) []
def C7:List V->List (V×V)
 |b::a::r=>(a,b)::C7 (a::r)
 |_=>[]
def rV (n:V):List V->Prop
 |b::a::a'::r=>0<i8 n (a-a') (b-a)/\rV n (a::a'::r)
 |_=>True
def rV.tail (h:rV n (b::r)):rV n r:=by
 match r,h with
 |[],_=>trivial
 |[_],_=>trivial
 |_::_::_,h=>exact h.2
def M7 (h:e∈C7 r):e∈C7 (b::r):=by
 match r,h with
 |a::r,h=>exact aAe _ h
section
variable{n:V} {Pos:V->Prop} {T:V->Prop} (F:Row n Pos T)
include F
structure ChOk (n:V)(Pos:V->Prop)(done:V->Prop)(c:List V):Prop where
 mem:∀X∈c,done X
 ed:∀e∈C7 c,Pos (e.2-e.1)/\∀X,done X->Lft n Pos e.1 e.2 X
 bend:rV n c
 last:∀X,done X->∀z,c.getLast?=some z->X=z\/Pos (X-z)
theorem Row.ac6 {done:V->Prop}(hd:∀X,done X->T X)(hx:Pos x)(hn:d7 n x=0):∀(c:List V),(∀X∈c,done X)->(∀e∈C7 c,Pos (e.2-e.1))->rV n c->(∀b a r,c=b::a::r->0<i8 n (b-a) x)->∀e∈C7 c,0<i8 n (e.2-e.1) x
 |[],_,_,_,_,e,he=>by cases he
 |[_],_,_,_,_,e,he=>by cases he
 |[b,a],_,_,_,h,e,he=>by simp[C7]at he;subst he;exact h b a [] rfl
 |b::a::a'::r,hm,hp,hb,h,e,he=>by
  have hba:=h b a _ rfl;rcases aAd.mp he with q|q
  ·subst q;exact hba
  ·refine Row.ac6 hd hx hn (a::a'::r) (λX hX=>hm X (aAe _ hX)) (λe he=>hp e (M7 he)) hb.tail ?_ e q;intro b1 a1 r1 e1;injection e1 with e1 e2;injection e2 with e2 e3;subst e1 e2;have p1:=hp (a',a) (M7 (by simp[C7]));have p2:=hp (a,b) (by simp[C7]);exact F.cone.tr p1 p2 hx (C8 F.nz (F.pl _ _ (hd _ (hm _ (by simp))) (hd _ (hm _ (by simp)))) (F.pl _ _ (hd _ (hm _ (by simp))) (hd _ (hm _ (by simp)))) hn) hb.1 (aAO hba)
theorem Row.weak (hu:Pos u)(hv:Pos v)(hw:Pos w)(pu:d7 n u=0)(pv:d7 n v=0)(pw:d7 n w=0)(h1:0<=i8 n u v)(h2:0<=i8 n v w):0<=i8 n u w:=by
 have hf:=C8 F.nz pu pv pw;by_cases z1:0<i8 n u v
 ·exact aAO (F.cone.tr hu hv hw hf z1 h2)
 ·by_cases z2:0<i8 n v w
  ·exact aAO (F.cone.tr' hu hv hw hf h1 z2)
  ·have e1:i8 n u v=0:=by lia
   have e2:i8 n v w=0:=by lia
   have h:=GZ n u v w;rw[e1,e2,hf,u8,u8,u8,fP,fP]at h;by_cases z:i8 n w u=0
   ·rw[l4];lia
   ·exfalso;have e:v=0:=by have hx:=congrArg V.x h;have hy:=congrArg V.y h;have hz:=congrArg V.z h;simp at hx hy hz;exact ext ((aAw.mp hx).resolve_left z) ((aAw.mp hy).resolve_left z) ((aAw.mp hz).resolve_left z)
    rw[e]at hv;exact F.cone.irr hv
theorem Row.ad1 {done:V->Prop}(hd:∀X,done X->T X)(hP:T P)(ao:∀X,done X->Pos (P-X)):∀(c:List V),ChOk n Pos done c->c≠[]->
  (∀X q,c.head?=some q->done X->(X=q\/Pos (X-q))->0<=i8 n (P-q) (X-q))->
  ∃q r,V8 n P c=q::r/\ChOk n Pos done (q::r)/\(∀X,done X->(X=q\/Pos (X-q))->0<=i8 n (P-q) (X-q))/\∀a r',r=a::r'->0<turn n a q P
 |[],_,h,_=>absurd rfl h
 |[b],ok,_,hh=>⟨b,[],rfl,ok,λX hX h=>hh X b rfl hX h,λa r' e=>by cases e⟩
 |b::a::r,ok,_,hh=>by
  by_cases ht:turn n a b P<=0
  ·have e:V8 n P (b::a::r)=V8 n P (a::r):=by rw[V8,if_pos ht]
   rw[e];have db:=ok.mem b (by simp);have da:=ok.mem a (by simp);have eb:=ok.ed (a,b) (by simp[C7]);refine Row.ad1 hd hP ao (a::r) ⟨λX hX=>ok.mem X (aAe _ hX),λe he=>ok.ed e (M7 he),ok.bend.tail,λX hX z hz=>ok.last X hX z (by rw[aBh];exact hz)⟩ (by simp) ?_;intro X q hq hX hXq;have hq':a=q:=Option.some.inj hq;subst hq';have hu:Pos (b-a):=eb.1;have hp:Pos (P-b):=ao b db;have ku:Pos (P-a):=ao a da;have pu:d7 n (b-a)=0:=F.pl _ _ (hd _ db) (hd _ da);have pp:d7 n (P-b)=0:=F.pl _ _ hP (hd _ db);have ppa:d7 n (P-a)=0:=F.pl _ _ hP (hd _ da);unfold turn at ht;have hpu:0<=i8 n (P-b) (b-a):=by rw[l4];lia
   rcases F.tot X b (hd X hX) (hd b db)with z|z|z
   ·
    subst z;have e1:P-a=(P-X)+(X-a):=ext (by simp;lia) (by simp;lia) (by simp;lia);rw[e1,Z3,B1];lia
   ·
    have hx:=hh X b rfl hX (.inr z);have px:d7 n (X-b)=0:=F.pl _ _ (hd _ hX) (hd _ db);have hPX:Pos (P-X):=ao X hX;have key:i8 n (P-a) (X-a)*(P-b)=i8 n (P-b) (X-b)*(P-a)+i8 n (P-b) (b-a)*(P-X):=by
     have hr:=GZ n (b-a) (X-b) (P-b);rw[C8 F.nz pu px pp,u8]at hr;have e1:P-a=(b-a)+(P-b):=ext (by simp;lia) (by simp;lia) (by simp;lia);have e2:X-a=(b-a)+(X-b):=ext (by simp;lia) (by simp;lia) (by simp;lia);have e3:P-X=(P-b)-(X-b):=ext (by simp;lia) (by simp;lia) (by simp;lia);rw[e1,e2,e3];generalize b-a=u at*
     generalize X-b=x at*
     generalize P-b=p at*
     rw[Z3,aG,aG,B1];have hx:=congrArg V.x hr;have hy:=congrArg V.y hr;have hz:=congrArg V.z hr;rw[l4 n p x]at hr hx hy hz;simp at hx hy hz;have s1:=l4 n p x;have s2:=l4 n p u;have s3:=l4 n u x;apply ext<;>simp<;>grind
    by_cases zz:0<=i8 n (P-a) (X-a)
    ·exact zz
    ·exfalso;have h1:Pos ((-i8 n (P-a) (X-a))*(P-b)):=F.cone.mul (by lia) hp;have h2:Pos (-i8 n (P-a) (X-a)*(P-b)+(i8 n (P-b) (X-b)*(P-a)+i8 n (P-b) (b-a)*(P-X))):=by
      by_cases y1:i8 n (P-b) (X-b)=0
      ·rw[y1,u8,fP];by_cases y2:i8 n (P-b) (b-a)=0
       ·rw[y2,u8,mU];exact h1
       ·exact F.cone.add h1 (F.cone.mul (by lia) hPX)
      ·exact F.cone.add h1 (F.cone.comb (by lia) hpu ku hPX)
     rw[<-key]at h2;have e0:-i8 n (P-a) (X-a)*(P-b)+i8 n (P-a) (X-a)*(P-b)=0:=by apply ext<;>simp<;>grind
     rw[e0]at h2;exact F.cone.irr h2
   ·
    rcases hXq with hXa|hXa
    ·subst hXa;rw[w8,eG];exact aCn _
    ·have hl:=(eb.2 X hX).1;have hpu':0<=i8 n (P-a) (b-a):=by have e1:P-a=(P-b)+(b-a):=ext (by simp;lia) (by simp;lia) (by simp;lia);rw[e1,Z3,B1];lia
     exact F.weak ku hu hXa ppa pu (F.pl _ _ (hd _ hX)<|hd _ da) hpu' hl
  ·have e:V8 n P (b::a::r)=b::a::r:=by rw[V8,if_neg ht]
   refine⟨b,a::r,e,ok,λX hX h=>hh X b rfl hX h,λa' r' e'=>?_⟩;injection e' with e1 _;subst e1
   lia
theorem Row.push {done:V->Prop}(hd:∀X,done X->T X)(hP:T P)(ao:∀X,done X->Pos (P-X))(ok:ChOk n Pos done c)(hc:c≠[])(hh:∀X q,c.head?=some q->done X->X=q\/Pos (q-X)):
  ChOk n Pos (λX=>done X\/X=P) (P::V8 n P c):=by
 obtain⟨q,r,e,nc,hq,ht⟩:=F.ad1 hd hP ao c ok hc (λX q hq hX h=>by
  rcases h with h|h
  ·subst h;rw[w8,eG];exact aCn _
  ·exfalso;rcases hh X q hq hX with z|z
   ·subst z;rw[w8]at h;exact F.cone.irr h
   ·have:=F.cone.add h z;have e0:X-q+(q-X)=0:=ext (by simp;lia) (by simp;lia) (by simp;lia);rw[e0]at this;exact F.cone.irr this)
 rw[e];have dq:=nc.mem q (by simp);have hpq:Pos (P-q):=ao q dq;have ppq:d7 n (P-q)=0:=F.pl _ _ hP (hd _ dq);refine⟨λX hX=>?_,λg he=>?_,?_,λX hX z hz=>?_⟩
 ·rcases aAd.mp hX with h|h
  ·exact .inr h
  ·exact .inl (nc.mem X h)
 ·rcases aAd.mp he with h|h
  ·subst h;refine⟨hpq,λX hX=>?_⟩;rcases hX with hX|hX
   ·rcases F.tot X q (hd _ hX) (hd _ dq)with z|z|z
    ·subst z;exact⟨by rw[w8,eG];exact aCn _,λ_=>⟨.inl rfl,.inr hpq⟩⟩
    ·exact⟨hq X hX (.inr z),λ_=>⟨.inr z,.inr (ao X hX)⟩⟩
    ·
     have:0<i8 n (P-q) (X-q):=by
      match r,ht,nc with
      |[],_,nc=>
       rcases nc.last X hX q rfl with y|y
       ·subst y;rw[w8]at z;exact absurd z F.cone.irr
       ·exfalso;have:=F.cone.add y z;have e0:X-q+(q-X)=0:=ext (by simp;lia) (by simp;lia) (by simp;lia);rw[e0]at this;exact F.cone.irr this
      |a::r',ht,nc=>
       have h1:=ht a r' rfl;unfold turn at h1;have da:=nc.mem a (by simp);have ea:=nc.ed (a,q) (by simp[C7]);have hl:=(ea.2 X hX).1;have e1:X-a=(q-a)-(q-X):=ext (by simp;lia) (by simp;lia) (by simp;lia);dsimp only at hl;rw[e1,NZ,B1]at hl;have ig:0<=i8 n (q-X) (q-a):=by rw[l4];lia
       have:=F.cone.tr' (a:=n) z ea.1 hpq (C8 F.nz (F.pl _ _ (hd _ dq)<|hd _ hX) (F.pl _ _ (hd _ dq)<|hd _ da) ppq) ig h1;have e2:X-q=-(q-X):=ext (by simp;lia) (by simp;lia) (by simp;lia);rw[e2,G6,l4];lia
     exact⟨aAO this,λz=>by dsimp only at z;lia⟩
   ·subst hX;exact⟨by rw[B1];exact aCn _,λ_=>⟨.inr hpq,.inl rfl⟩⟩
  ·
   have hed:=nc.ed g h;refine⟨hed.1,λX hX=>?_⟩;rcases hX with hX|hX
   ·exact hed.2 X hX
   ·subst hX;have h1:=F.ac6 hd hpq ppq (q::r) nc.mem (λe he=>(nc.ed e he).1) nc.bend (λb a r' e'=>by injection e' with e1 e2;subst e1;exact ht a r' e2) g h
    have h2:=(hed.2 q dq).1;have:0<i8 n (g.2-g.1) (X-g.1):=by have e1:X-g.1=(q-g.1)+(X-q):=ext (by simp;lia) (by simp;lia) (by simp;lia);rw[e1,aG];lia
    exact⟨aAO this,λz=>by lia⟩
 ·match r,ht,nc with
  |[],_,_=>trivial
  |a::r',ht,nc=>exact⟨ht a r' rfl,nc.bend⟩
 ·rcases hX with hX|hX
  ·exact nc.last X hX z (by rw[aBh]at hz;exact hz)
  ·subst hX;have hz':(q::r).getLast?=some z:=by rw[aBh]at hz;exact hz
   exact .inr (ao z<|nc.mem z<|aEj hz')
end
end G
namespace G
section
variable{n:V} {Pos:V->Prop} {T:V->Prop} (F:Row n Pos T)
include F
theorem ChOk.congr {done done':V->Prop}(ok:ChOk n Pos done c)(h:∀X,done X↔done' X):ChOk n Pos done' c:=
 ⟨λX hX=>(h X).mp (ok.mem X hX),λe he=>⟨(ok.ed e he).1,λX hX=>(ok.ed e he).2 X ((h X).mpr hX)⟩,ok.bend,λX hX=>ok.last X ((h X).mpr hX)⟩
theorem Row.fold:∀(rest:List V) (done:V->Prop) (c:List V),ChOk n Pos done c->c≠[]->(∀X q,c.head?=some q->done X->X=q\/Pos (q-X))->(∀X,done X->T X)->(∀X∈rest,T X)->
  (∀X Y,done X->Y∈rest->Pos (Y-X))->rest.Pairwise (λa b=>Pos (b-a))->
  ChOk n Pos (λX=>done X\/X∈rest) (rest.foldl (λc P=>P::V8 n P c) c)/\rest.foldl (λc P=>P::V8 n P c) c≠[]/\(∀X q,(rest.foldl (λc P=>P::V8 n P c) c).head?=some q->(done X\/X∈rest)->X=q\/Pos (q-X))
 |[],done,c,ok,hc,hh,hd,ht,ao,hs=>⟨ChOk.congr F ok λX=>by simp,hc,λX q hq hX=>by
   rcases hX with hX|hX
   ·exact hh X q hq hX
   ·cases hX⟩
 |P::rest,done,c,ok,hc,hh,hd,ht,ao,hs=>by
  have hP:=ht P (by simp);have nc:=F.push hd hP (λX hX=>ao X P hX (by simp)) ok hc hh;have jn:=aAy.mp hs;obtain⟨h1,h2,h3⟩:=Row.fold rest (λX=>done X\/X=P) (P::V8 n P c) nc (by simp) (λX q hq hX=>by
    have hq':P=q:=Option.some.inj hq;subst hq';rcases hX with hX|hX
    ·exact .inr (ao X P hX (by simp))
    ·exact .inl hX) (λX hX=>by
    rcases hX with hX|hX
    ·exact hd X hX
    ·subst hX;exact hP) (λX hX=>ht X (aAe _ hX)) (λX Y hX hY=>by
    rcases hX with hX|hX
    ·exact ao X Y hX (aAe _ hY)
    ·subst hX;exact jn.1 Y hY) jn.2
  have e:∀X,((done X\/X=P)\/X∈rest)↔(done X\/X∈P::rest):=λX=>by simp[or_assoc]
  exact⟨ChOk.congr F h1 e,h2,λX q hq hX=>h3 X q hq ((e X).mpr hX)⟩
theorem Row.ac5 (ah:ps≠[])(ht:∀X∈ps,T X)(hs:ps.Pairwise (λa b=>Pos (b-a))):
  ChOk n Pos (λX=>X∈ps) (y9 n ps)/\y9 n ps≠[]/\(∀X q,(y9 n ps).head?=some q->X∈ps->X=q\/Pos (q-X)):=by
 match ps,ah with
 |p::rest,_=>
  have jn:=aAy.mp hs;have ok:ChOk n Pos (λX=>X=p) [p]:=⟨λX hX=>by simpa using hX,λe he=>by simp[C7]at he,trivial,λX hX z hz=>by simp at hz;subst hz;exact .inl hX⟩
  obtain⟨h1,h2,h3⟩:=F.fold rest (λX=>X=p) [p] ok (by simp) (λX q hq hX=>by have hq':p=q:=Option.some.inj hq;subst hq';exact .inl hX) (λX hX=>by subst hX;exact ht _ (by simp)) (λX hX=>ht X (aAe _ hX)) (λX Y hX hY=>by subst hX;exact jn.1 Y hY) jn.2
  have e:∀X,(X=p\/X∈rest)↔X∈p::rest:=λX=>by simp
  refine⟨ChOk.congr F h1 e,h2,λX q hq hX=>h3 X q hq ((e X).mpr hX)⟩
end
def l6 (n:V)(ts:List V):List V:=(y9 n ts).reverse.dropLast++(y9 n ts.reverse).reverse.dropLast
def q9:List V->List (V×V)
 |a::b::r=>(a,b)::q9 (b::r)
 |_=>[]
theorem lD:∀(l:List V) (a b:V),q9 (l++[a]++[b])=q9 (l++[a])++[(a,b)]
 |[],a,b=>rfl
 |[x],a,b=>rfl
 |x::y::l,a,b=>by have:=lD (y::l) a b;simp only[aBl,q9]at this⊢;rw[this]
theorem fR:∀c:List V,q9 c.reverse=(C7 c).reverse
 |[]=>rfl
 |[_]=>rfl
 |b::a::r=>by
  have ih:=fR (a::r);rw[aAP,aAP]at*
  rw[lD,ih,C7,aAP]
theorem kS:∀(l:List V) (a:V) (m:List V),q9 (l++a::m)=q9 (l++[a])++q9 (a::m)
 |[],a,m=>by cases m<;>rfl
 |[x],a,m=>rfl
 |x::y::l,a,m=>by have:=kS (y::l) a m;simp only[aBl,q9]at this⊢;rw[this]
def L9 (l:List V):List (V×V):=l.zip (l.tail++l.take 1)
theorem mV:∀(l:List V) (z:V),l.zip (l.tail++[z])=q9 (l++[z])
 |[],z=>rfl
 |[a],z=>rfl
 |a::b::r,z=>by have:=mV (b::r) z;simp only[List.tail_cons,aBl,q9,aBC]at this⊢;rw[this]
def U9:L9 (a::l)=q9 (a::l++[a]):=mV (a::l) a
def JJ (h1:y9 n ts=M::c)(h2:y9 n ts.reverse=m::d)(h3:(M::c).getLast?=some m)(h4:(m::d).getLast?=some M)(hc:c≠[]):
  L9 (l6 n ts)=(C7 (y9 n ts)).reverse++(C7 (y9 n ts.reverse)).reverse:=by
 rw[<-fR,<-fR];unfold l6;rw[h1,h2,aAP,aAP,aBG,aBG];have e1:∃c',c.reverse=m::c':=by
  have:c.getLast?=some m:=by
   match c,hc with
   |x::c,_=>rw[aBh]at h3;exact h3
  rw[<-aEM]at this;match hh:c.reverse,this with
  |x::r,this=>exact⟨r,by rw[show x=m from Option.some.inj this]⟩
 obtain⟨c',e1⟩:=e1;have e2:∃d',d.reverse++[m]=M::d':=by
  have:(m::d).reverse.head?=some M:=by rw[aEM];exact h4
  rw[aAP]at this;match hh:d.reverse++[m],this with
  |x::r,this=>exact⟨r,by rw[show x=M from Option.some.inj this]⟩
 obtain⟨d',e2⟩:=e2;have e3:c.reverse++d.reverse=m::(c'++d.reverse):=by rw[e1];rfl
 rw[e3,U9];have e4:m::(c'++d.reverse)++[m]=c.reverse++(d.reverse++[m]):=by rw[e1];simp
 rw[e4,e2,kS]
end G
namespace G
def p6 (a b:V):-(a-b)=b-a:=ext (by simp;lia) (by simp;lia) (by simp;lia)
def w9:R1 (a-b)↔f6 (b-a):=by unfold R1;rw[p6]
def N4 (h:f6 (a-a)):False:=by rw[w8]at h;exact A8.irr h
def x3 (h:f6 (a-b))(h':f6 (b-a)):False:=by have:=A8.add h h';have e0:a-b+(b-a)=0:=ext (by simp;lia) (by simp;lia) (by simp;lia);rw[e0]at this;exact A8.irr this
def W5 (a b:V):a=b\/f6 (a-b)\/f6 (b-a):=by
 rcases RA (a-b)with h|h|h
 ·exact .inr (.inl h)
 ·refine .inl (ext ?_ ?_ ?_)
  ·have:=congrArg V.x h;simp at this;lia
  ·have:=congrArg V.y h;simp at this;lia
  ·have:=congrArg V.z h;simp at this;lia
 ·exact .inr (.inr (w9.mp h))
def OP (P Q X:V):Prop:=(f6 (Q-P)->(X=P\/f6 (X-P))/\(X=Q\/f6 (Q-X)))/\(f6 (P-Q)->(X=P\/f6 (P-X))/\(X=Q\/f6 (X-Q)))
structure EdgeOf (n:V)(T:V->Prop)(P Q:V):Prop where
 p:T P
 q:T Q
 ne:P≠Q
 left:∀X,T X->0<=i8 n (Q-P) (X-P)
 btw:∀X,T X->i8 n (Q-P) (X-P)=0->OP P Q X
section
variable{n:V} {T:V->Prop}
def EdgeOf.next (h:EdgeOf n T P Q)(h':EdgeOf n T P R):Q=R:=by
 have h1:=h.left R h'.q;have h2:=h'.left Q h.q;rw[l4]at h2;have z1:i8 n (Q-P) (R-P)=0:=by lia
 have z2:i8 n (R-P) (Q-P)=0:=by rw[l4];lia
 have b1:=h.btw R h'.q z1;have b2:=h'.btw Q h.q z2;rcases W5 Q P with e|e|e
 ·exact absurd e.symm h.ne
 ·have c1:=b1.1 e;have c2:f6 (R-P):=c1.1.resolve_left (aBQ h'.ne);rcases c1.2 with q|q
  ·exact q.symm
  ·rcases(b2.1 c2).2 with q'|q'
   ·exact q'
   ·exact(x3 q q').elim
 ·have c1:=b1.2 e;have c2:f6 (P-R):=c1.1.resolve_left (aBQ h'.ne);rcases c1.2 with q|q
  ·exact q.symm
  ·rcases(b2.2 c2).2 with q'|q'
   ·exact q'
   ·exact(x3 q q').elim
def nP (n P Q X:V):i8 n (Q-P) (X-P)=i8 n (Q-P) (X-Q):=by have e:X-P=(X-Q)+(Q-P):=ext (by simp;lia) (by simp;lia) (by simp;lia);rw[e,aG,B1];lia
end
theorem AD {Pos:V->Prop}(X:V):∀(c:List V),(∀Y∈c,X=Y\/Pos (X-Y)\/Pos (Y-X))->(∀q,c.head?=some q->X=q\/Pos (q-X))->(∀z,c.getLast?=some z->X=z\/Pos (X-z))->c≠[]->
  (∀u,Pos u->Pos (-u)->False)->X∈c\/∃a b,(a,b)∈C7 c/\Pos (X-a)/\Pos (b-X)
 |[],_,_,_,h,_=>absurd rfl h
 |[q],_,h1,h2,_,as=>by
  rcases h1 q rfl with e|e
  ·exact .inl (by simp[e])
  ·rcases h2 q rfl with e'|e'
   ·exact .inl (by simp[e'])
   ·exact(as _ e (by rw[p6];exact e')).elim
 |b::a::r,ht,h1,h2,_,as=>by
  rcases h1 b rfl with e|e
  ·exact .inl (by simp[e])
  ·rcases ht a (by simp)with y|y|y
   ·exact .inl (by simp[y])
   ·exact .inr ⟨a,b,by simp[C7],y,e⟩
   ·rcases AD X (a::r) (λY hY=>ht Y (aAe _ hY)) (λq hq=>by have:a=q:=Option.some.inj hq;subst this;exact .inr y) (λz hz=>h2 z (by rw[aBh];exact hz)) (by simp) as with h|⟨a',b',h,h'⟩
    ·exact .inl (aAe _ h)
    ·exact .inr ⟨a',b',M7 h,h'⟩
def Row.ad4 {Pos:V->Prop}{T:V->Prop}(F:Row n Pos T)(ha:T a)(hb:T b)(hP:T P)(hQ:T Q)(h1:Pos (P-a))(h2:Pos (b-P))(h3:Pos (Q-P))(h4:0<=i8 n (b-a) (P-a))(h5:0<i8 n (Q-P) (a-P))(h6:0<=i8 n (Q-P) (b-P)):False:=by
 have e1:i8 n (Q-P) (a-P)=i8 n (P-a) (Q-P):=by have e:a-P=-(P-a):=(p6 _ _).symm;rw[e,G6,l4];lia
 rw[e1]at h5;have:=F.cone.tr h1 h3 h2 (C8 F.nz (F.pl _ _ hP ha) (F.pl _ _ hQ hP)<|F.pl _ _ hb hP) h5 h6;have e2:b-a=(b-P)+(P-a):=ext (by simp;lia) (by simp;lia) (by simp;lia);rw[e2,Z3,B1,l4]at h4
 lia
structure Sheet (n:V)(ts:List V):Prop where
 nz:n≠0
 pl:∀X∈ts,∀Y∈ts,d7 n (X-Y)=0
 ord:ts.Pairwise (λa b=>f6 (b-a))
 two:∃X∈ts,∃Y∈ts,X≠Y
section
variable{n:V} {ts:List V} (S:Sheet n ts)
include S
theorem Sheet.row:Row n f6 (λX=>X∈ts):=⟨A8,S.nz,λX Y hX hY=>S.pl X hX Y hY,λX Y _ _=>W5 X Y⟩
theorem Sheet.ae7:Row n R1 (λX=>X∈ts):=⟨iI,S.nz,λX Y hX hY=>S.pl X hX Y hY,λX Y _ _=>by
 rcases W5 X Y with h|h|h
 ·exact .inl h
 ·exact .inr (.inr (w9.mpr h))
 ·exact .inr (.inl (w9.mpr h))⟩
theorem Sheet.ne:ts≠[]:=by obtain⟨X,hX,_⟩:=S.two;intro e;rw[e]at hX;cases hX
theorem Sheet.ab5:ChOk n f6 (λX=>X∈ts) (y9 n ts)/\y9 n ts≠[]/\(∀X q,(y9 n ts).head?=some q->X∈ts->X=q\/f6 (q-X)):=
 S.row.ac5 S.ne (λ_ h=>h) S.ord
theorem Sheet.ab6:ChOk n R1 (λX=>X∈ts) (y9 n ts.reverse)/\y9 n ts.reverse≠[]/\(∀X q,(y9 n ts.reverse).head?=some q->X∈ts->X=q\/R1 (q-X)):=by
 have h:=S.ae7.ac5 (ps:=ts.reverse) (by simpa using S.ne) (λX h=>by simpa using h) (by rw[aDZ];exact S.ord.imp λh=>w9.mpr h)
 obtain⟨h1,h2,h3⟩:=h;exact⟨ChOk.congr S.ae7 h1 λX=>by simp,h2,λX q hq hX=>h3 X q hq (by simpa using hX)⟩
theorem Sheet.ae9 (h:(a,b)∈C7 (y9 n ts))(ha:a∈ts)(hb:b∈ts):EdgeOf n (λX=>X∈ts) a b/\f6 (b-a):=by obtain⟨e1,e2⟩:=S.ab5.1.ed _ h;dsimp only at e1 e2;refine⟨⟨ha,hb,λe=>by subst e;exact N4 e1,λX hX=>(e2 X hX).1,λX hX z=>⟨λ_=>(e2 X hX).2 z,λy=>(x3 e1 y).elim⟩⟩,e1⟩
theorem Sheet.af0 (h:(a,b)∈C7 (y9 n ts.reverse))(ha:a∈ts)(hb:b∈ts):EdgeOf n (λX=>X∈ts) a b/\f6 (a-b):=by obtain⟨e1,e2⟩:=S.ab6.1.ed _ h;dsimp only at e1 e2;have zu:=w9.mp e1;refine⟨⟨ha,hb,λe=>by subst e;exact N4 zu,λX hX=>(e2 X hX).1,λX hX z=>⟨λy=>(x3 zu y).elim,λ_=>?_⟩⟩,zu⟩;obtain⟨q1,q2⟩:=(e2 X hX).2 z;exact⟨q1.imp id w9.mp,q2.imp id w9.mp⟩
theorem T6 (h:(a,b)∈C7 c):a∈c/\b∈c:=by
 induction c with
 |nil=>cases h
 |cons x c ih=>
  match c,h,ih with
  |[],h,_=>cases h
  |y::r,h,ih=>
   rcases aAd.mp h with e|e
   ·cases e;simp
   ·have:=ih e;exact⟨aAe _ this.1,aAe _ this.2⟩
theorem Sheet.ends:∃m M c d,m∈ts/\M∈ts/\f6 (M-m)/\(∀X∈ts,X=m\/f6 (X-m))/\(∀X∈ts,X=M\/f6 (M-X))/\y9 n ts=M::c/\y9 n ts.reverse=m::d/\(M::c).getLast?=some m/\(m::d).getLast?=some M/\c≠[]/\d≠[]:=by
 obtain⟨o1,n1,h1⟩:=S.ab5;obtain⟨o2,n2,h2⟩:=S.ab6;obtain⟨M,c,e1⟩:=aEC n1;obtain⟨m,d,e2⟩:=aEC n2;have hM:M∈ts:=o1.mem M (by rw[e1];simp);have hm:m∈ts:=o2.mem m (by rw[e2];simp);have lM:∀X∈ts,X=M\/f6 (M-X):=λX hX=>h1 X M (by rw[e1];rfl) hX;have lm:∀X∈ts,X=m\/f6 (X-m):=λX hX=>(h2 X m (by rw[e2];rfl) hX).imp id w9.mp;obtain⟨z,hz⟩:∃z,(M::c).getLast?=some z:=by simp[aEN]
 obtain⟨y,hy⟩:∃z,(m::d).getLast?=some z:=by simp[aEN]
 have zm:z=m:=by
  have zt:z∈ts:=o1.mem z (by rw[e1];exact aEj hz);rcases o1.last m hm z (by rw[e1];exact hz)with e|e
  ·exact e.symm
  ·rcases lm z zt with e'|e'
   ·exact e'
   ·exact(x3 e e').elim
 have yM:y=M:=by
  have yt:y∈ts:=o2.mem y (by rw[e2];exact aEj hy);rcases o2.last M hM y (by rw[e2];exact hy)with e|e
  ·exact e.symm
  ·rcases lM y yt with e'|e'
   ·exact e'
   ·exact(x3 (w9.mp e) e').elim
 subst zm yM;have mM:f6 (y-z):=by
  obtain⟨X,hX,Y,hY,ne⟩:=S.two;rcases lm y hM with e|e
  ·exfalso;subst e;have k:∀W∈ts,W=y:=λW hW=>by
    rcases lm W hW with e|e
    ·exact e
    ·rcases lM W hW with e'|e'
     ·exact e'
     ·exact(x3 e e').elim
   exact ne ((k X hX).trans (k Y hY).symm)
  ·exact e
 refine⟨z,y,c,d,hm,hM,mM,lm,lM,e1,e2,hz,hy,λe=>?_,λe=>?_⟩
 ·subst e;have:y=z:=by simpa using hz
  subst this;exact N4 mM
 ·subst e;have:z=y:=by simpa using hy
  subst this;exact N4 mM
theorem Sheet.pair (h:(P,Q)∈L9 (l6 n ts)):EdgeOf n (λX=>X∈ts) P Q:=by
 obtain⟨m,M,c,d,hm,hM,mM,lm,lM,e1,e2,h3,h4,hc,hd⟩:=S.ends;rw[JJ e1 e2 h3 h4 hc,aAN,aDa,aDa]at h;rcases h with h|h
 ·have:=T6 S h;exact(S.ae9 h (S.ab5.1.mem _ this.1)<|S.ab5.1.mem _ this.2).1
 ·have:=T6 S h;exact(S.af0 h (S.ab6.1.mem _ this.1)<|S.ab6.1.mem _ this.2).1
theorem dI (h:P∈l):∃Q,(P,Q)∈L9 l:=by
 obtain⟨i,hi,e⟩:=aBs h;have hl:l.length=(l.tail++l.take 1).length:=by
  match l,hi with
  |a::l,_=>simp
 refine⟨(l.tail++l.take 1)[i]'(by lia),?_⟩;unfold L9;refine List.mem_of_getElem (i:=i) (h:=by rw[List.length_zip];lia) ?_;rw[List.getElem_zip,e]
theorem Sheet.ac4 (h:EdgeOf n (λX=>X∈ts) P Q):P∈l6 n ts:=by
 obtain⟨m,M,c,d,hm,hM,mM,lm,lM,e1,e2,h3,h4,hc,hd⟩:=S.ends;obtain⟨o1,n1,t1⟩:=S.ab5;obtain⟨o2,n2,t2⟩:=S.ab6;unfold l6;rw[aAN,e1,e2,aAP,aAP,aBG,aBG,aDa,aDa];rcases W5 Q P with e|e|e
 ·exact absurd e.symm h.ne
 ·
  left;rcases AD (Pos:=f6) P (y9 n ts) (λY _=>W5 P Y) (λq hq=>t1 P q hq h.p) (λz hz=>o1.last P h.p z hz) n1 (λu a b=>by have:=A8.add a b;have e0:u+-u=0:=ext (by simp;lia) (by simp;lia) (by simp;lia);rw[e0]at this;exact A8.irr this)with r|⟨a,b,r,r1,r2⟩
  ·rw[e1]at r;rcases aAd.mp r with q|q
   ·subst q;rcases lM Q h.q with y|y
    ·exact absurd y.symm h.ne
    ·exact(x3 e y).elim
   ·exact q
  ·exfalso;have mm:=T6 S r;have ta:=o1.mem _ mm.1;have tb:=o1.mem _ mm.2;have z5:=h.left a ta;have z5':i8 n (Q-P) (a-P)≠0:=λz=>by
    rcases((h.btw a ta z).1 e).1 with y|y
    ·subst y;exact N4 r1
    ·exact x3 r1 y
   exact S.row.ad4 ta tb h.p h.q r1 r2 e ((o1.ed _ r).2 P h.p).1 (by lia) (h.left b tb)
 ·right;rcases AD (Pos:=R1) P (y9 n ts.reverse) (λY _=>S.ae7.tot P Y h.p (by rename_i hY;exact o2.mem Y hY)) (λq hq=>t2 P q hq h.p) (λz hz=>o2.last P h.p z hz) n2 (λu a b=>by have:=iI.add a b;have e0:u+-u=0:=ext (by simp;lia) (by simp;lia) (by simp;lia);rw[e0]at this;exact iI.irr this)with r|⟨a,b,r,r1,r2⟩
  ·rw[e2]at r;rcases aAd.mp r with q|q
   ·subst q;rcases lm Q h.q with y|y
    ·exact absurd y.symm h.ne
    ·exact(x3 e y).elim
   ·exact q
  ·exfalso;have mm:=T6 S r;have ta:=o2.mem _ mm.1;have tb:=o2.mem _ mm.2;have z5:=h.left a ta;have r1':=w9.mp r1;have z5':i8 n (Q-P) (a-P)≠0:=λz=>by
    rcases((h.btw a ta z).2 e).1 with y|y
    ·subst y;exact N4 r1'
    ·exact x3 r1' y
   exact S.ae7.ad4 ta tb h.p h.q r1 r2 (w9.mpr e) ((o2.ed _ r).2 P h.p).1 (by lia) (h.left b tb)
theorem Sheet.aa1:(P,Q)∈L9 (l6 n ts)↔EdgeOf n (λX=>X∈ts) P Q:=by
 refine⟨S.pair,λh=>?_⟩;obtain⟨R,hR⟩:=dI S (S.ac4 h);have:=(S.pair hR).next h
 subst this;exact hR
end
end G
namespace G
theorem L5 {Pos:V->Prop}(C:Cone Pos):∀(c:List V),(∀e∈C7 c,Pos (e.2-e.1))->c.Pairwise (λb a=>Pos (b-a))
 |[],_=>aGj
 |[x],_=>aDM _ _
 |b::a::r,h=>by
  have ih:=L5 C (a::r) (λe he=>h e (M7 he));have h0:=h (a,b) (by simp[C7]);refine aAy.mpr ⟨λy hy=>?_,ih⟩;rcases aAd.mp hy with e|e
  ·subst e;exact h0
  ·have:=(aAy.mp ih).1 y e;have s:=C.add h0 this;have e0:b-a+(a-y)=b-y:=ext (by simp;lia) (by simp;lia) (by simp;lia);dsimp only at s
   rwa [e0]at s
theorem kB:∀{h:V} {c:List V} {X:V},X∈c->∃b,(X,b)∈C7 (h::c)
 |h,[],X,hX=>by cases hX
 |h,a::r,X,hX=>by
  rcases aAd.mp hX with e|e
  ·subst e;exact⟨h,by simp[C7]⟩
  ·obtain⟨b,hb⟩:=kB (h:=a) e;exact⟨b,M7 hb⟩
section
variable{n:V} {ts:List V} (S:Sheet n ts)
include S
theorem Sheet.aa3 (h:X∈l6 n ts):X∈ts:=by obtain⟨Q,hQ⟩:=dI S h;exact(S.pair hQ).p
theorem Sheet.aa4:(l6 n ts).Nodup:=by
 obtain⟨m,M,c,d,hm,hM,mM,lm,lM,e1,e2,h3,h4,hc,hd⟩:=S.ends;obtain⟨o1,n1,t1⟩:=S.ab5;obtain⟨o2,n2,t2⟩:=S.ab6;unfold l6;rw[e1,e2,aAP,aAP,aBG,aBG];have p1:=L5 A8 (y9 n ts) λe he=>(o1.ed e he).1;have p2:=L5 iI (y9 n ts.reverse) λe he=>(o2.ed e he).1;rw[e1]at p1;rw[e2]at p2;have q1:=(aAy.mp p1).2;have q2:=(aAy.mp p2).2;rw[aCS];refine⟨?_,?_,?_⟩
 ·rw[aBY,aDZ];exact q1.imp λ{a b} h e=>by subst e;exact N4 h
 ·rw[aBY,aDZ];exact q2.imp λ{a b} h e=>by subst e;exact N4 (w9.mp h)
 ·intro x hx y hy e;subst e;rw[aDa]at hx hy;obtain⟨b,hb⟩:=kB (h:=M) hx;obtain⟨b',ja⟩:=kB (h:=m) hy;rw[<-e1]at hb;rw[<-e2]at ja;have m1:=T6 S hb;have m2:=T6 S ja;obtain⟨g1,l1⟩:=S.ae9 hb (o1.mem _ m1.1) (o1.mem _ m1.2);obtain⟨g2,l2⟩:=S.af0 ja (o2.mem _ m2.1) (o2.mem _ m2.2);have:=g1.next g2;subst this;exact x3 l1 l2
theorem Sheet.ab2:∃m r,l6 n ts=m::r/\m∈ts/\∀X∈ts,X=m\/f6 (X-m):=by
 obtain⟨m,M,c,d,hm,hM,mM,lm,lM,e1,e2,h3,h4,hc,hd⟩:=S.ends;have e3:∃c',c.reverse=m::c':=by
  have:c.getLast?=some m:=by
   match c,hc with
   |x::c,_=>rw[aBh]at h3;exact h3
  rw[<-aEM]at this;match hh:c.reverse,this with
  |x::r,this=>exact⟨r,by rw[show x=m from Option.some.inj this]⟩
 obtain⟨c',e3⟩:=e3;refine⟨m,c'++d.reverse,?_,hm,lm⟩;unfold l6;rw[e1,e2,aAP,aAP,aBG,aBG,e3];rfl
theorem tK (h:(P,Q)∈L9 l):P∈l/\Q∈l:=by
 have h':=aDK h;refine⟨h'.1,?_⟩;match l,h'.2 with
 |a::r,z=>simpa[or_comm]using z
theorem Sheet.strict (h:EdgeOf n (λX=>X∈ts) P Q)(hX:X∈l6 n ts)(h1:X≠P)(h2:X≠Q):0<i8 n (Q-P) (X-P):=by
 have tX:=S.aa3 hX;have h0:=h.left X tX;by_cases z:i8 n (Q-P) (X-P)=0
 ·exfalso;have b:=h.btw X tX z;obtain⟨Y,hY⟩:=dI S hX;have g:=S.pair hY;have l1:=g.left P h.p;have l2:=g.left Q h.q;rcases W5 Q P with e|e|e
  ·exact h.ne e.symm
  ·have b1:=b.1 e;have c1:=b1.1.resolve_left h1;have c2:=b1.2.resolve_left h2;have zz:i8 n (X-P) (Q-X)=0:=by have e1:Q-P=(Q-X)+(X-P):=ext (by simp;lia) (by simp;lia) (by simp;lia);rw[e1,Z3,B1,l4]at z;lia
   have l1':0<=i8 n (X-P) (Y-X):=by have e1:P-X=-(X-P):=(p6 _ _).symm;rw[e1,G6]at l1;rw[l4];lia
   rcases W5 Y X with y|y|y
   ·exact g.ne y.symm
   ·have w1:=S.row.weak c1 y c2 (S.pl _ tX _ h.p) (S.pl _ g.q _ tX) (S.pl _ h.q _ tX) l1' l2;by_cases p1:0<i8 n (X-P) (Y-X)
    ·have:=A8.tr c1 y c2 (C8 S.nz (S.pl _ tX _ h.p) (S.pl _ g.q _ tX)<|S.pl _ h.q _ tX) p1 l2
     lia
    ·have z1:i8 n (Y-X) (P-X)=0:=by have e1:P-X=-(X-P):=(p6 _ _).symm;rw[e1,G6,l4];lia
     rcases((g.btw P h.p z1).1 y).1 with k|k
     ·exact h1 k.symm
     ·exact x3 k c1
   ·have y':f6 (X-Y):=y;have m1:0<=i8 n (X-Y) (X-P):=by have e1:Y-X=-(X-Y):=(p6 _ _).symm;rw[e1,G6,l4]at l1';lia
    have m2:0<=i8 n (Q-X) (X-Y):=by have e1:Y-X=-(X-Y):=(p6 _ _).symm;rw[e1,Z7,l4]at l2;lia
    by_cases p1:0<i8 n (Q-X) (X-Y)
    ·have:=A8.tr c2 y' c1 (C8 S.nz (S.pl _ h.q _ tX) (S.pl _ tX _ g.q)<|S.pl _ tX _ h.p) p1 m1;rw[l4]at this;lia
    ·have z1:i8 n (Y-X) (Q-X)=0:=by have e1:Y-X=-(X-Y):=(p6 _ _).symm;rw[e1,Z7,l4];lia
     rcases((g.btw Q h.q z1).2 y').1 with k|k
     ·exact h2 k.symm
     ·exact x3 k c2
  ·have b1:=b.2 e;have c1:=b1.1.resolve_left h1;have c2:=b1.2.resolve_left h2;have zz:i8 n (P-X) (X-Q)=0:=by have e1:Q-P=-((P-X)+(X-Q)):=ext (by simp;lia) (by simp;lia) (by simp;lia);have e2:X-P=-(P-X):=(p6 _ _).symm;rw[e1,e2,Z7,G6,Z3,B1,l4]at z;lia
   rcases W5 Y X with y|y|y
   ·exact g.ne y.symm
   ·
    have m2:0<=i8 n (X-Q) (Y-X):=by have e1:Q-X=-(X-Q):=(p6 _ _).symm;rw[e1,G6,l4]at l2;lia
    by_cases p1:0<i8 n (X-Q) (Y-X)
    ·have:=A8.tr c2 y c1 (C8 S.nz (S.pl _ tX _ h.q) (S.pl _ g.q _ tX)<|S.pl _ h.p _ tX) p1 l1;rw[l4]at this;lia
    ·have z1:i8 n (Y-X) (Q-X)=0:=by have e1:Q-X=-(X-Q):=(p6 _ _).symm;rw[e1,G6,l4];lia
     rcases((g.btw Q h.q z1).1 y).1 with k|k
     ·exact h2 k.symm
     ·exact x3 k c2
   ·have y':f6 (X-Y):=y;have m1:0<=i8 n (P-X) (X-Y):=by have e1:Y-X=-(X-Y):=(p6 _ _).symm;rw[e1,Z7,l4]at l1;lia
    have m2:0<=i8 n (X-Y) (X-Q):=by have e1:Y-X=-(X-Y):=(p6 _ _).symm;have e2:Q-X=-(X-Q):=(p6 _ _).symm;rw[e1,e2,Z7,G6]at l2;lia
    by_cases p1:0<i8 n (P-X) (X-Y)
    ·have:=A8.tr c1 y' c2 (C8 S.nz (S.pl _ h.p _ tX) (S.pl _ tX _ g.q)<|S.pl _ tX _ h.q) p1 m2
     lia
    ·have z1:i8 n (Y-X) (P-X)=0:=by have e1:Y-X=-(X-Y):=(p6 _ _).symm;rw[e1,Z7,l4];lia
     rcases((g.btw P h.p z1).2 y').1 with k|k
     ·exact h1 k.symm
     ·exact x3 k c1
 ·lia
end
end G
namespace G
def iQ {a:V}(h:a≠0):a.x≠0\/a.y≠0\/a.z≠0:=by
 by_cases p:a.x=0
 ·by_cases q:a.y=0
  ·by_cases r:a.z=0
   ·exact absurd (ext p q r) h
   ·exact .inr (.inr r)
  ·exact .inr (.inl q)
 ·exact .inl p
def B6 {a w:V}(ha:a≠0)(h:cr a w=0):∃k m:Int,0<k/\k*w=m*a:=by
 have h1:=congrArg V.x h;have h2:=congrArg V.y h;have h3:=congrArg V.z h;simp at h1 h2 h3;have key:∀k m:Int,k≠0->k*w=m*a->∃k m:Int,0<k/\k*w=m*a:=λk m hk e=>by
  by_cases p:0<k
  ·exact⟨k,m,p,e⟩
  ·refine⟨-k,-m,by lia,?_⟩;have q1:=congrArg V.x e;have q2:=congrArg V.y e;have q3:=congrArg V.z e;simp at q1 q2 q3;apply ext<;>simp<;>grind
 rcases iQ ha with p|p|p
 ·exact key a.x w.x p (by apply ext<;>simp<;>grind)
 ·exact key a.y w.y p (by apply ext<;>simp<;>grind)
 ·exact key a.z w.z p (by apply ext<;>simp<;>grind)
def ConeM.ad0 {Pos:V->Prop}(C:ConeM a Pos)(ha:a≠0)(hw:Pos w):cr a w≠0:=λh=>by
 obtain⟨k,m,hk,e⟩:=B6 ha h;have h1:=C.inv (-m) (C.mul hk hw);rw[e]at h1;have e0:m*a+-m*a=0:=by apply ext<;>simp<;>grind
 rw[e0]at h1;exact C.irr h1
def D7 (a A:V):List V->V->V->V×V
 |[],up,out=>(up,out)
 |P::Ps,up,out=>if up=0\/0<d7 up (P-A)then D7 a A Ps (cr a (P-A)) P else D7 a A Ps up out
def SW (a A:V)(Pos:V->Prop)(seen:V->Prop)(up out:V):Prop:=
 (up=0/\∀P,seen P->cr a (P-A)=0)\/(seen out/\Pos (out-A)/\up=cr a (out-A)/\∀P,seen P->i8 a (out-A) (P-A)<=0)
def iK (h:cr a w=0)(u:V):i8 a u w=0:=by
 have e:i8 a u w=-d7 (cr a w) u:=by simp[i8,d7];grind
 rw[e,h];simp[d7]
theorem qQ {Pos:V->Prop}(C:ConeM a Pos)(ha:a≠0):∀(pts:List V) (seen:V->Prop) (up out:V),SW a A Pos seen up out->(∀P,seen P->Pos (P-A)\/cr a (P-A)=0)->(∀P∈pts,Pos (P-A)\/cr a (P-A)=0)->
  SW a A Pos (λP=>seen P\/P∈pts) (D7 a A pts up out).1 (D7 a A pts up out).2
 |[],seen,up,out,h,_,_=>by
  show SW a A Pos _ up out;rcases h with⟨h1,h2⟩|⟨h1,h2,h3,h4⟩
  ·exact .inl ⟨h1,λP hP=>h2 P (by simpa using hP)⟩
  ·exact .inr ⟨.inl h1,h2,h3,λP hP=>h4 P (by simpa using hP)⟩
 |Q::pts,seen,up,out,h,hs,hp=>by
  have hQ:=hp Q (by simp);have stp:SW a A Pos (λP=>seen P\/P=Q) (if up=0\/0<d7 up (Q-A)then(cr a<|Q-A)else up) (if up=0\/0<d7 up (Q-A)then Q else out):=by
   rcases h with⟨h1,h2⟩|⟨h1,h2,h3,h4⟩
   ·rw[if_pos (.inl h1),if_pos (.inl h1)];by_cases z:cr a (Q-A)=0
    ·exact .inl ⟨z,λP hP=>by
      rcases hP with hP|hP
      ·exact h2 P hP
      ·subst hP;exact z⟩
    ·refine .inr ⟨.inr rfl,hQ.resolve_right z,rfl,λP hP=>?_⟩;rcases hP with hP|hP
     ·rw[iK (h2 P hP)];exact aCn _
     ·subst hP;rw[B1];exact aCn _
   ·have ah:up≠0:=by rw[h3];exact C.ad0 ha h2
    have ed:d7 up (Q-A)=i8 a (out-A) (Q-A):=by rw[h3,S7]
    by_cases z:0<d7 up (Q-A)
    ·rw[if_pos (.inr z),if_pos (.inr z)];have hq:Pos (Q-A):=by
      rcases hQ with q|q
      ·exact q
      ·rw[ed,iK q]at z;lia
     refine .inr ⟨.inr rfl,hq,rfl,λP hP=>?_⟩;rcases hP with hP|hP
     ·by_cases zz:i8 a (Q-A) (P-A)<=0
      ·exact zz
      ·exfalso;have qg:Pos (P-A):=by
        rcases hs P hP with q|q
        ·exact q
        ·rw[iK q]at zz;lia
       have:=C.tr h2 hq qg (by rw[<-ed];exact z) (by lia);have:=h4 P hP
       lia
     ·subst hP;rw[B1];exact aCn _
    ·rw[if_neg (by rintro(q|q);exact ah q;exact z q),if_neg (by rintro(q|q);exact ah q;exact z q)];refine .inr ⟨.inl h1,h2,h3,λP hP=>?_⟩;rcases hP with hP|hP
     ·exact h4 P hP
     ·subst hP;rw[<-ed];lia
  have r:=qQ C ha pts (λP=>seen P\/P=Q) _ _ stp (λP hP=>by
   rcases hP with hP|hP
   ·exact hs P hP
   ·subst hP;exact hQ) (λP hP=>hp P (aAe _ hP))
  have e:D7 a A (Q::pts) up out=D7 a A pts (if up=0\/0<d7 up (Q-A)then(cr a<|Q-A)else up) (if up=0\/0<d7 up (Q-A)then Q else out):=by rw[D7];split<;>rfl
  rw[e];have ee:(λP=>(seen P\/P=Q)\/P∈pts)=(λP=>seen P\/P∈Q::pts):=by funext P;simp[or_assoc]
  rw[<-ee];exact r
def MQ {Pos:V->Prop}(C:ConeM a Pos)(ha:a≠0)(hp:∀P∈pts,Pos (P-A)\/cr a (P-A)=0)(hx:∃P∈pts,Pos (P-A)):
  (D7 a A pts 0 A).2∈pts/\Pos ((D7 a A pts 0 A).2-A)/\∀P∈pts,i8 a ((D7 a A pts 0 A).2-A) (P-A)<=0:=by
 have h:=qQ C ha pts (λ_=>False) 0 A (.inl ⟨rfl,λ_ h=>h.elim⟩) (λ_ h=>h.elim) hp;rcases h with⟨h1,h2⟩|⟨h1,h2,h3,h4⟩
 ·obtain⟨P,hP,hq⟩:=hx;exact absurd (h2 P<|.inr hP) (C.ad0 ha hq)
 ·exact⟨by simpa using h1,h2,λP hP=>h4 P (.inr hP)⟩
def u7 (v:V):Nat:=Nat.gcd (Nat.gcd v.x.natAbs v.y.natAbs) v.z.natAbs
def gE (v:V)(g:Int):V:=⟨v.x/g,v.y/g,v.z/g⟩
def S5 (n:V):Prop:=u7 n=1
def gJ (k:Int)(v:V):u7 (k*v)=k.natAbs*u7 v:=by unfold u7;simp[Int.natAbs_mul,Nat.gcd_mul_left]
def HA (h:u7 v=0):v=0:=by unfold u7 at h;have h1:=Nat.gcd_eq_zero_iff.mp h;have h2:=Nat.gcd_eq_zero_iff.mp h1.1;exact ext (aEO.mp h2.1) (aEO.mp h2.2) (aEO.mp h1.2)
def JV (v:V):(u7 v:Int)∣v.x/\(u7 v:Int)∣v.y/\(u7 v:Int)∣v.z:=by
 unfold u7;refine⟨?_,?_,?_⟩
 ·exact aEP.mpr (Nat.dvd_trans (aFo _ _)<|aFo _ _)
 ·exact aEP.mpr (Nat.dvd_trans (aFo _ _)<|Nat.gcd_dvd_right _ _)
 ·exact aEP.mpr (Nat.gcd_dvd_right _ _)
def dG (h:c≠0):0<(u7 c:Int)/\c=(u7 c:Int)*gE c (u7 c)/\S5 (gE c (u7 c)):=by
 have hg:u7 c≠0:=λz=>h (HA z);have hp:0<(u7 c:Int):=by lia
 obtain⟨d1,d2,d3⟩:=JV c;have e:c=(u7 c:Int)*gE c (u7 c):=by
  apply ext
  ·show _=_*(c.x/_);rw[aEk d1]
  ·show _=_*(c.y/_);rw[aEk d2]
  ·show _=_*(c.z/_);rw[aEk d3]
 refine⟨hp,e,?_⟩;have:=congrArg u7 e;rw[gJ]at this;simp only[Int.natAbs_natCast]at this;unfold S5;have h2:u7 c*1=u7 c*u7 (gE c<|u7 c):=by lia
 exact(Nat.eq_of_mul_eq_mul_left (by lia) h2).symm
def S5.ne (h:S5 n):n≠0:=λe=>by subst e;unfold S5 at h;exact absurd h (by decide)
def CP {n m:V}{k l:Int}(hn:S5 n)(hm:S5 m)(hk:0<k)(hl:0<l)(e:k*n=l*m):n=m:=by
 have:=congrArg u7 e;rw[gJ,gJ,hn,hm]at this;have ekl:k=l:=by lia
 subst ekl;have h1:=congrArg V.x e;have h2:=congrArg V.y e;have h3:=congrArg V.z e;simp at h1 h2 h3;exact ext (aBJ (by lia) h1) (aBJ (by lia) h2) (aBJ (by lia) h3)
def j6 (P Q R:V):V×Int:=let n:=gE (cr (Q-P)<|R-P) (u7<|cr (Q-P)<|R-P);(n,d7 n P)
structure IsFace (pts:List V)(n:V)(d:Int):Prop where
 prim:S5 n
 sup:∀X∈pts,d7 n X<=d
 three:∃A∈pts,∃B∈pts,∃C∈pts,d7 n A=d/\d7 n B=d/\d7 n C=d/\cr (B-A) (C-A)≠0
def S4 (hu:d7 n u=0)(hv:d7 n v=0):cr n (cr u v)=0:=by simp[d7]at hu hv;apply ext<;>simp<;>grind
def uG (hc:c≠0)(h1:cr n c=0)(h2:cr m c=0):cr n m=0:=by
 have s1:cr c n=0:=by have:=congrArg V.x h1;have:=congrArg V.y h1;have:=congrArg V.z h1;simp at*;apply ext<;>simp<;>grind
 have s2:cr c m=0:=by have:=congrArg V.x h2;have:=congrArg V.y h2;have:=congrArg V.z h2;simp at*;apply ext<;>simp<;>grind
 obtain⟨k,p,hk,e1⟩:=B6 hc s1;obtain⟨l,q,hl,e2⟩:=B6 hc s2;have e:(k*l)*cr n m=0:=by
  have:(k*l)*cr n m=cr (k*n) (l*m):=by apply ext<;>simp<;>grind
  rw[this,e1,e2];apply ext<;>simp<;>grind
 have hkl:k*l≠0:=λz=>by rcases aAw.mp z with q|q<;>lia
 have h1:=congrArg V.x e;have h2:=congrArg V.y e;have h3:=congrArg V.z e;simp only[OO,NA,JW,X9,X5,Y2]at h1 h2 h3;exact ext ((aAw.mp h1).resolve_left hkl) ((aAw.mp h2).resolve_left hkl) ((aAw.mp h3).resolve_left hkl)
def mF {pts:List V}{n m:V}{d e:Int}(hn:S5 n)(hm:S5 m)(sn:∀X∈pts,d7 n X<=d)(sm:∀X∈pts,d7 m X<=e){A B C Z:V}(hA:d7 n A=d)(hB:d7 n B=d)(hC:d7 n C=d)(hA':d7 m A=e)(hB':d7 m B=e)(hC':d7 m C=e)
  (hc:cr (B-A) (C-A)≠0) (hZ:Z∈pts) (hz:d7 n Z<d):n=m/\d=e:=by
 have n1:cr n (cr (B-A)<|C-A)=0:=S4 (by rw[i9];lia) (by rw[i9];lia);have m1:cr m (cr (B-A)<|C-A)=0:=S4 (by rw[i9];lia) (by rw[i9];lia);have p:=uG hc m1 n1;obtain⟨k,l,hk,e1⟩:=B6 hm.ne p;have hl:0<l:=by
  have q:=congrArg (λv=>d7 v (Z-A)) e1;rw[X0,X0]at q;have q1:d7 n (Z-A)<0:=by rw[i9];lia
  have q2:d7 m (Z-A)<=0:=by rw[i9];have:=sm Z hZ;lia
  have q3:k*d7 n (Z-A)<0:=aBK hk q1;by_cases z:0<l
  ·exact z
  ·exfalso;have:0<=l*d7 m (Z-A):=by
    have:=aCt (show 0<=-l by lia) (show 0<=-d7 m (Z-A)by lia)
    rwa [aFD]at this
   lia
 have e2:=CP hn hm hk hl e1;subst e2;exact⟨rfl,by lia⟩
end G
namespace G
def b8 (A B:V)(pts:List V):V×Int:=j6 A B (D7 (B-A) A pts 0 A).2
def u9 (n:V)(d:Int)(pts:List V):List V:=pts.filter λX=>decide (d7 n X=d)
def d5:X∈u9 n d pts↔X∈pts/\d7 n X=d:=by simp[u9]
def pF (h:cr (Q-P) (R-P)≠0):∃g:Int,0<g/\cr (Q-P) (R-P)=g*(j6 P Q R).1/\S5 (j6 P Q R).1/\(j6 P Q R).2=d7 (j6 P Q R).1 P:=by obtain⟨h1,h2,h3⟩:=dG h;exact⟨_,h1,h2,h3,rfl⟩
def U6 {Pos:V->Prop}(C:ConeM (B-A) Pos)(hAB:B-A≠0)(hp:∀P∈pts,Pos (P-A)\/cr (B-A) (P-A)=0)(hx:∃P∈pts,Pos (P-A)):
  ∃(out:V) (g:Int),out∈pts/\Pos (out-A)/\0<g/\cr (B-A) (out-A)=g*(b8 A B pts).1/\S5 (b8 A B pts).1/\(b8 A B pts).2=d7 (b8 A B pts).1 A/\
   (∀P∈pts,d7 (b8 A B pts).1 P<=(b8 A B pts).2)/\d7 (b8 A B pts).1 B=(b8 A B pts).2/\d7 (b8 A B pts).1 out=(b8 A B pts).2/\
   (∀P∈pts,d7 (b8 A B pts).1 P=(b8 A B pts).2->i8 (B-A) (out-A) (P-A)=0):=by
 obtain⟨h1,h2,h3⟩:=MQ C hAB hp hx;have hc:=C.ad0 hAB h2;obtain⟨g,g0,ge,gp,gd⟩:=pF hc;have key:∀w:V,g*d7 (b8 A B pts).1 w=i8 (B-A) ((D7 (B-A) A pts 0 A).2-A) w:=λw=>by have:d7 (cr (B-A)<|(D7 (B-A) A pts 0 A).2-A) w=i8 (B-A) ((D7 (B-A) A pts 0 A).2-A) w:=S7 _ _ _;rw[<-this,ge,X0];rfl
 have eA:(b8 A B pts).2=d7 (b8 A B pts).1 A:=gd;have z0:∀w:V,i8 (B-A) ((D7 (B-A) A pts 0 A).2-A) w=0->d7 (b8 A B pts).1 w=0:=λw hw=>by have:=key w;rw[hw]at this;exact(aAw.mp this).resolve_left (by lia)
 refine⟨_,g,h1,h2,g0,ge,gp,gd,λP hP=>?_,?_,?_,λP hP e=>?_⟩
 ·have h:=h3 P hP;rw[<-key]at h;have:d7 (b8 A B pts).1 (P-A)<=0:=by
   by_cases z:d7 (b8 A B pts).1 (P-A)<=0
   ·exact z
   ·have:=aBe g0 (show 0<d7 (b8 A B pts).1 (P-A)by lia)
    lia
  rw[i9]at this
  lia
 ·have:=z0 (B-A) (by simp[i8,d7];grind);rw[i9]at this;lia
 ·have:=z0 ((D7 (B-A) A pts 0 A).2-A) (B1 _ _);rw[i9]at this;lia
 ·rw[<-key,i9];have:d7 (b8 A B pts).1 P-d7 (b8 A B pts).1 A=0:=by lia
  rw[this];simp
def xE {Pos:V->Prop}(C:ConeM a Pos)(ha:a≠0)(ho:Pos o)(hw:Pos w)(h:i8 a o w=0):0<d7 (cr a o) (cr a w):=by
 by_cases z:0<d7 (cr a o) (cr a w)
 ·exact z
 ·exfalso;have ah:=C.ad0 ha ho;have qr:=x5 ah;have h1:Pos (d7 (cr a o) (cr a o)*w+(-d7 (cr a o) (cr a w))*o):=C.comb qr (by lia) hw ho;refine C.ad0 ha h1 ?_;have hx:cr (cr a o) (cr a w)=i8 a o w*a:=by simp[i8,d7];apply ext<;>simp<;>grind
  rw[h,u8]at hx;have e1:cr a (d7 (cr a o) (cr a o)*w+(-d7 (cr a o) (cr a w))*o)=d7 (cr a o) (cr a o)*cr a w+(-d7 (cr a o) (cr a w))*cr a o:=by apply ext<;>simp<;>grind
  rw[e1];have e2:∀p q:V,d7 p p*q+(-d7 p q)*p=cr p (cr q p):=λp q=>by simp[d7];apply ext<;>simp<;>grind
  rw[e2];have e3:cr (cr a w) (cr a o)=0:=by have q1:=congrArg V.x hx;have q2:=congrArg V.y hx;have q3:=congrArg V.z hx;simp only[RV,RM,UC,X9,X5,Y2]at q1 q2 q3;apply ext<;>simp only[RV,RM,UC,X9,X5,Y2]<;>grind
  rw[e3];apply ext<;>simp
def OP.symm (h:OP P Q X):OP Q P X:=⟨λa=>⟨(h.2 a).2,(h.2 a).1⟩,λa=>⟨(h.1 a).2,(h.1 a).1⟩⟩
def rF (hn:n≠0)(hab:d7 n (a-b)=0):ConeM (a-b) (λw=>d7 n w<0\/(d7 n w=0/\0<i8 n (b-a) w))where
 add:=λ{u v} h1 h2=>by
  rw[aT,aG]
  lia
 mul:=λ{k u} hk h=>by
  rw[t8,yS];rcases h with h|⟨h,h'⟩
  ·exact .inl (aBK hk h)
  ·exact .inr ⟨by rw[h];simp,aBe hk h'⟩
 irr:=by rw[P7,eG];lia
 inv:=λ{u} k h=>by
  have e:i8 n (b-a) (a-b)=0:=by have:a-b=-(b-a):=(p6 _ _).symm;rw[this,G6,B1];rfl
  rw[aT,aG,t8,yS,hab,e];simpa using h
def bM (hn:n≠0)(hu:d7 n u=0)(hw:d7 n w=0)(h:i8 n u w=0):cr u w=0:=by
 have h1:cr n (cr u w)=0:=S4 hu hw;obtain⟨k,m,hk,e⟩:=B6 hn h1;have q:=congrArg (d7 n) e;rw[t8,t8]at q;have:d7 n (cr u w)=0:=h;rw[this]at q;have hm:m=0:=by
  have:=x5 hn;have q':m*d7 n n=0:=by lia
  rcases aAw.mp q' with z|z
  ·exact z
  ·lia
 rw[hm,u8]at e;have q1:=congrArg V.x e;have q2:=congrArg V.y e;have q3:=congrArg V.z e;simp only[OO,NA,JW,X9,X5,Y2]at q1 q2 q3;exact ext ((aAw.mp q1).resolve_left (by lia)) ((aAw.mp q2).resolve_left (by lia)) ((aAw.mp q3).resolve_left (by lia))
def yC (h:cr u w=0):cr (-u) w=0:=by have q1:=congrArg V.x h;have q2:=congrArg V.y h;have q3:=congrArg V.z h;simp only[RV,RM,UC,X9,X5,Y2]at q1 q2 q3;apply ext<;>simp<;>grind
def rC (hn:n≠0)(hs:∀X∈pts,d7 n X<=d)(hz:∃Z∈pts,d7 n Z<d)(h:EdgeOf n (λX=>X∈u9 n d pts) a b):
  IsFace pts (b8 b a pts).1 (b8 b a pts).2/\EdgeOf (b8 b a pts).1 (λX=>X∈u9 (b8 b a pts).1 (b8 b a pts).2 pts) b a:=by
 obtain⟨pa,da⟩:=d5.mp h.p;obtain⟨pb,db⟩:=d5.mp h.q;have hab:d7 n (a-b)=0:=by rw[i9];lia
 have hba:d7 n (b-a)=0:=by rw[i9];lia
 have C:=rF (n:=n) hn hab;have ah:a-b≠0:=λe=>h.ne (by have q1:=congrArg V.x e;have q2:=congrArg V.y e;have q3:=congrArg V.z e;simp at q1 q2 q3;exact ext (by lia) (by lia) (by lia))
 have hp:∀P∈pts,(d7 n (P-b)<0\/(d7 n (P-b)=0/\0<i8 n (b-a) (P-b)))\/cr (a-b) (P-b)=0:=λP hP=>by
  have h1:=hs P hP;by_cases z:d7 n P<d
  ·exact .inl (.inl (by rw[i9];lia))
  ·have e:d7 n P=d:=by lia
   have tP:P∈u9 n d pts:=d5.mpr ⟨hP,e⟩;have l:=h.left P tP;rw[nP]at l;have e0:d7 n (P-b)=0:=by rw[i9];lia
   by_cases y:0<i8 n (b-a) (P-b)
   ·exact .inl (.inr ⟨e0,y⟩)
   ·have y0:i8 n (b-a) (P-b)=0:=by lia
    have:=yC (bM hn hba e0 y0);rw[p6]at this;exact .inr this
 obtain⟨Z,hZ,hz⟩:=hz;obtain⟨out,g,o1,o2,g0,ge,gp,gd,sup,sB,sO,sP⟩:=U6 C ah hp ⟨Z,hZ,.inl (by rw[i9];lia)⟩;refine⟨⟨gp,sup,b,pb,a,pa,out,o1,gd.symm,sB,sO,C.ad0 ah o2⟩,⟨d5.mpr ⟨pb,gd.symm⟩,d5.mpr ⟨pa,sB⟩,λe=>h.ne e.symm,λX hX=>?_,λX hX e=>?_⟩⟩
 ·obtain⟨pX,eX⟩:=d5.mp hX;have z:=sP X pX eX;have e1:g*i8 (b8 b a pts).1 (a-b) (X-b)=d7 (cr (a-b)<|out-b) (cr (a-b)<|X-b):=by rw[ge];unfold i8;rw[X0]
  have:0<=d7 (cr (a-b)<|out-b) (cr (a-b)<|X-b):=by
   rcases hp X pX with q|q
   ·exact aAO (xE C ah o2 q z)
   ·rw[q,P7];exact aCn _
  rw[<-e1]at this;by_cases zz:0<=i8 (b8 b a pts).1 (a-b) (X-b)
  ·exact zz
  ·have:=aBK g0 (show i8 (b8 b a pts).1 (a-b) (X-b)<0 by lia)
   lia
 ·obtain⟨pX,eX⟩:=d5.mp hX;have z:=sP X pX eX;have e1:g*i8 (b8 b a pts).1 (a-b) (X-b)=d7 (cr (a-b)<|out-b) (cr (a-b)<|X-b):=by rw[ge];unfold i8;rw[X0]
  rw[e]at e1;rcases hp X pX with q|q
  ·have:=xE C ah o2 q z;rw[<-e1]at this;simp at this
  ·
   have dX:d7 n X=d:=by obtain⟨k,m,hk,e⟩:=B6 ah q;have q:=congrArg (d7 n) e;rw[t8,t8,hab]at q;have:d7 n (X-b)=0:=(aAw.mp (show k*d7 n (X-b)=0 by lia)).resolve_left (by lia);rw[i9]at this;lia
   refine(h.btw X (d5.mpr ⟨pX,dX⟩) ?_).symm;rw[nP];have:cr (b-a) (X-b)=0:=by
    have:=yC q
    rwa [p6]at this
   unfold i8;rw[this,P7]
end G
namespace G
def z7:List V->Option V
 |[]=>none
 |w::ws=>if w≠0 then some w else z7 ws
def u4 (h:z7 ws=some w):w∈ws/\w≠0:=by
 induction ws with
 |nil=>cases h
 |cons v ws ih=>
  unfold z7 at h;split at h
  ·rename_i hv;cases h;exact⟨by simp,hv⟩
  ·have:=ih h;exact⟨aAe _ this.1,this.2⟩
def K8 (h:z7 ws=none):∀w∈ws,w=0:=by
 induction ws with
 |nil=>intro w hw;cases hw
 |cons v ws ih=>
  unfold z7 at h;split at h
  ·cases h
  ·rename_i hv;intro w hw;rcases aAd.mp hw with e|e
   ·subst e;exact Decidable.not_not.mp hv
   ·exact ih h w e
def R7:List V->Nat
 |[]=>0
 |p::ps=>
  let ways:=(p::ps).map (· -p)
  match z7 ways with
  |none=>0
  |some along=>match z7 (ways.map<|cr along)with
   |none=>1
   |some up=>if ways.any (λw=>decide (d7 up w≠0))then 3 else 2
def j9 (pts:List V):Prop:=∃A∈pts,∃B∈pts,∃C∈pts,∃D∈pts,i8 (B-A) (C-A) (D-A)≠0
def HQ (h:R7 pts=3):j9 pts:=by
 match pts,h with
 |p::ps,h=>
  unfold R7 at h;dsimp only at h;split at h
  ·cases h
  ·rename_i along h1;split at h
   ·cases h
   ·rename_i up h2;split at h
    ·rename_i h3;obtain⟨m1,n1⟩:=u4 h1;obtain⟨m2,n2⟩:=u4 h2;obtain⟨w2,m2,e2⟩:=aAi.mp m2;rw[aEf]at h3;obtain⟨w3,m3,e3⟩:=h3;obtain⟨B,hB,eB⟩:=aAi.mp m1;obtain⟨C,hC,eC⟩:=aAi.mp m2;obtain⟨D,hD,eD⟩:=aAi.mp m3;refine⟨p,by simp,B,hB,C,hC,D,hD,?_⟩;rw[eB,eC,eD];have e3':d7 up w3≠0:=by simpa using e3
     rw[<-e2,S7]at e3';exact e3'
    ·cases h
def JK (h:R7 pts≠3):¬j9 pts:=by
 rintro⟨A,hA,B,hB,C,hC,D,hD,hd⟩;match pts,h,hA,hB,hC,hD with
 |p::ps,h,hA,hB,hC,hD=>
  unfold R7 at h;dsimp only at h;have mm:∀X∈p::ps,X-p∈(p::ps).map (· -p):=λX hX=>aAi.mpr ⟨X,hX,rfl⟩;have fin:∀n:V,n≠0->(∀X∈p::ps,d7 n (X-p)=0)->False:=λn hn hz=>by
   have q:∀X∈p::ps,d7 n (X-A)=0:=λX hX=>by have h1:=hz X hX;have h2:=hz A hA;rw[i9]at*;lia
   exact hd (C8 hn (q B hB) (q C hC)<|q D hD)
  split at h
  ·rename_i h1;have z:=K8 h1;refine fin ⟨1,0,0⟩ (λe=>by have:=congrArg V.x e;simp at this) λX hX=>?_;rw[z _ (mm X hX)];exact P7 _
  ·rename_i along h1;obtain⟨m1,n1⟩:=u4 h1;split at h
   ·rename_i h2;have z:=K8 h2;have z':∀X∈p::ps,cr along (X-p)=0:=λX hX=>z _ (aAi.mpr ⟨_,mm X hX,rfl⟩);obtain⟨u,hu,av⟩:∃u:V,cr along u≠0/\True:=by
     rcases iQ n1 with q|q|q
     ·exact⟨⟨0,1,0⟩,λe=>q (by have:=congrArg V.z e;simpa using this),trivial⟩
     ·exact⟨⟨1,0,0⟩,λe=>q (by have:=congrArg V.z e;simpa using this),trivial⟩
     ·exact⟨⟨0,1,0⟩,λe=>q (by have:=congrArg V.x e;simpa using this),trivial⟩
    refine fin (cr along u) hu λX hX=>?_;rw[S7,iK (z' X hX)]
   ·rename_i up h2;obtain⟨m2,n2⟩:=u4 h2;split at h
    ·exact h rfl
    ·rename_i h3;refine fin up n2 λX hX=>?_;by_cases z:d7 up (X-p)=0
     ·exact z
     ·exact absurd (aEf.mpr ⟨X-p,mm X hX,by simpa using z⟩) h3
def JB (h:R7 pts<2):∀X∈pts,∀Y∈pts,∀Z∈pts,cr (Y-X) (Z-X)=0:=by
 match pts,h with
 |[],_=>intro X hX;cases hX
 |p::ps,h=>
  unfold R7 at h;dsimp only at h;have mm:∀X∈p::ps,X-p∈(p::ps).map (· -p):=λX hX=>aAi.mpr ⟨X,hX,rfl⟩;intro X hX Y hY Z hZ;split at h
  ·rename_i h1;have z:=K8 h1;have e:∀W∈p::ps,W=p:=λW hW=>by have:=z _ (mm W hW);have q1:=congrArg V.x this;have q2:=congrArg V.y this;have q3:=congrArg V.z this;simp at q1 q2 q3;exact ext (by lia) (by lia) (by lia)
   rw[e X hX,e Y hY,w8];apply ext<;>simp
  ·rename_i along h1;obtain⟨m1,n1⟩:=u4 h1;split at h
   ·rename_i h2;have z:=K8 h2;have z':∀X∈p::ps,cr along (X-p)=0:=λX hX=>z _ (aAi.mpr ⟨_,mm X hX,rfl⟩);have k:∀U∈p::ps,∀W∈p::ps,cr (U-W) along=0:=λU hU W hW=>by have q1:=z' U hU;have q2:=z' W hW;have a1:=congrArg V.x q1;have a2:=congrArg V.y q1;have a3:=congrArg V.z q1;have b1:=congrArg V.x q2;have b2:=congrArg V.y q2;have b3:=congrArg V.z q2;simp at a1 a2 a3 b1 b2 b3;apply ext<;>simp<;>grind
    exact uG n1 (k Y hY X hX) (k Z hZ X hX)
   ·split at h<;>lia
def FB (h:2<=R7 pts):∃X∈pts,∃Y∈pts,∃Z∈pts,cr (Y-X) (Z-X)≠0:=by
 match pts,h with
 |[],h=>exact absurd h (by simp[R7])
 |p::ps,h=>
  unfold R7 at h;dsimp only at h;split at h
  ·lia
  ·rename_i along h1;obtain⟨m1,n1⟩:=u4 h1;split at h
   ·lia
   ·rename_i up h2;obtain⟨m2,n2⟩:=u4 h2;obtain⟨w2,m2,e2⟩:=aAi.mp m2;obtain⟨B,hB,eB⟩:=aAi.mp m1;obtain⟨C,hC,eC⟩:=aAi.mp m2;exact⟨p,by simp,B,hB,C,hC,by rw[eB,eC,e2];exact n2⟩
def j9.off (h:j9 pts)(hn:n≠0):∃Z∈pts,d7 n Z≠d:=by
 obtain⟨A,hA,B,hB,C,hC,D,hD,hd⟩:=h;by_cases a:d7 n A=d
 ·by_cases b:d7 n B=d
  ·by_cases c:d7 n C=d
   ·by_cases e:d7 n D=d
    ·exact absurd (C8 hn (by rw[i9];lia) (by rw[i9];lia) (by rw[i9];lia)) hd
    ·exact⟨D,hD,e⟩
   ·exact⟨C,hC,c⟩
  ·exact⟨B,hB,b⟩
 ·exact⟨A,hA,a⟩
def j9.below (h:j9 pts)(hn:n≠0)(hs:∀X∈pts,d7 n X<=d):∃Z∈pts,d7 n Z<d:=by obtain⟨Z,hZ,e⟩:=h.off (d:=d) hn;exact⟨Z,hZ,by have:=hs Z hZ;lia⟩
def kk:V:=⟨0,0,1⟩
def e9 (m:V)(pts:List V):V×V:=
 let u:=b8 m (m+kk) pts
 let touched:=u9 u.1 u.2 pts
 if R7 touched=2 then(m,m+kk)else(touched.getD 0 0,touched.getD 1 0)
def EN:ConeM kk (λw=>0<w.x\/(w.x=0/\0<w.y))where
 add:=λ{u v} h1 h2=>by simp;lia
 mul:=λ{k u} hk h=>by
  simp;rcases h with h|⟨h,h'⟩
  ·exact .inl (aBe hk h)
  ·exact .inr ⟨by rw[h];simp,aBe hk h'⟩
 irr:=by simp
 inv:=λ{u} k h=>by simpa[kk]using h
def BK (h:d7 n a=0):ConeM a (λw=>d7 n w<0)where
 add:=λ{u v} h1 h2=>by rw[aT];lia
 mul:=λ{k u} hk h=>by rw[t8];exact aBK hk h
 irr:=by rw[P7];lia
 inv:=λ{u} k h'=>by rw[aT,t8,h];simpa using h'
def K0 (m k:V):m+k-m=k:=ext (by simp;lia) (by simp;lia) (by simp;lia)
def fX (hs:j9 pts)(ho:pts.Pairwise (λa b=>f6 (b-a)))(hm:m∈pts)(hl:∀X∈pts,X=m\/f6 (X-m)):
  IsFace pts (b8 (e9 m pts).1 (e9 m pts).2 pts).1 (b8 (e9 m pts).1 (e9 m pts).2 pts).2:=by
 have C:ConeM (m+kk-m) (λw=>0<w.x\/(w.x=0/\0<w.y)):=by rw[K0];exact EN
 have ah:m+kk-m≠0:=by rw[K0];intro e;have:=congrArg V.z e;simp[kk]at this
 have hp:∀P∈pts,(0<(P-m).x\/((P-m).x=0/\0<(P-m).y))\/cr (m+kk-m) (P-m)=0:=λP hP=>by
  rw[K0];rcases hl P hP with e|e
  ·right;subst e;rw[w8];apply ext<;>simp
  ·unfold f6 at e;rcases e with e|⟨e1,e|⟨e2,e3⟩⟩
   ·exact .inl (.inl e)
   ·exact .inl (.inr ⟨e1,e⟩)
   ·right;apply ext
    ·simp[kk];simp at e2;lia
    ·simp[kk];simp at e1;lia
    ·simp[kk]
 have hx:∃P∈pts,0<(P-m).x\/((P-m).x=0/\0<(P-m).y):=by
  by_cases z:∃P∈pts,0<(P-m).x\/((P-m).x=0/\0<(P-m).y)
  ·exact z
  ·exfalso;obtain⟨Z,hZ,e⟩:=hs.off (n:=⟨1,0,0⟩) (d:=m.x) (λe=>by have:=congrArg V.x e;simp at this);have w:=(hp Z hZ).resolve_left λq=>z ⟨Z,hZ,q⟩;rw[K0]at w;have:=congrArg V.y w;simp[kk]at this;simp[d7]at e
   lia
 obtain⟨out,g,o1,o2,g0,ge,gp,gd,sup,sB,sO,sP⟩:=U6 C ah hp hx;have tm:m∈u9 (b8 m (m+kk) pts).1 (b8 m (m+kk) pts).2 pts:=d5.mpr ⟨hm,gd.symm⟩;have to:out∈u9 (b8 m (m+kk) pts).1 (b8 m (m+kk) pts).2 pts:=d5.mpr ⟨o1,sO⟩;have hmo:m≠out:=λe=>by subst e;rw[w8]at o2;simp at o2
 by_cases h2:R7 (u9 (b8 m (m+kk) pts).1 (b8 m (m+kk) pts).2 pts)=2
 ·have e:e9 m pts=(m,m+kk):=by unfold e9;simp only[h2,if_true]
  rw[e];obtain⟨X,hX,Y,hY,Z,hZ,hc⟩:=FB (pts:=u9 (b8 m (m+kk) pts).1 (b8 m (m+kk) pts).2 pts) (by lia);have hX:=d5.mp hX;have hY:=d5.mp hY;have hZ:=d5.mp hZ;exact⟨gp,sup,X,hX.1,Y,hY.1,Z,hZ.1,hX.2,hY.2,hZ.2,hc⟩
 ·
  have h1:R7 (u9 (b8 m (m+kk) pts).1 (b8 m (m+kk) pts).2 pts)≠3:=λz=>by obtain⟨A,hA,B,hB,C,hC,D,hD,hd⟩:=HQ z;have hA:=d5.mp hA;have hB:=d5.mp hB;have hC:=d5.mp hC;have hD:=d5.mp hD;exact hd (C8 gp.ne (by rw[i9];lia) (by rw[i9];lia) (by rw[i9];lia))
  have ao:R7 (u9 (b8 m (m+kk) pts).1 (b8 m (m+kk) pts).2 pts)<2:=by
   have:R7 (u9 (b8 m (m+kk) pts).1 (b8 m (m+kk) pts).2 pts)<=3:=by
    generalize u9 (b8 m (m+kk) pts).1 (b8 m (m+kk) pts).2 pts=t;unfold R7;split
    ·lia
    ·dsimp only;split
     ·lia
     ·split
      ·lia
      ·split<;>lia
   lia
  have line:=JB ao;have e:e9 m pts=((u9 (b8 m (m+kk) pts).1 (b8 m (m+kk) pts).2 pts).getD 0 0,(u9 (b8 m (m+kk) pts).1 (b8 m (m+kk) pts).2 pts).getD 1 0):=by unfold e9;simp only[h2,if_false]
  rw[e];have ord:(u9 (b8 m (m+kk) pts).1 (b8 m (m+kk) pts).2 pts).Pairwise (λa b=>f6 (b-a)):=aFP _ ho;have onm:∀X,X∈u9 (b8 m (m+kk) pts).1 (b8 m (m+kk) pts).2 pts↔X∈pts/\d7 (b8 m (m+kk) pts).1 X=(b8 m (m+kk) pts).2:=λX=>d5;generalize u9 (b8 m (m+kk) pts).1 (b8 m (m+kk) pts).2 pts=t at*
  match t,tm,to with
  |[],tm,_=>cases tm
  |[x],tm,to=>simp at tm to;exact absurd (tm.trans to.symm) hmo
  |x::y::r,tm,to=>
   dsimp only[List.getD_cons_zero,List.getD_cons_succ];have hxy:f6 (y-x):=(aAy.mp ord).1 y (by simp);have ox:=(onm x).mp (by simp);have oy:=(onm y).mp (by simp);have xi:y-x≠0:=λz=>by rw[z]at hxy;exact A8.irr hxy
   have na:d7 (b8 m (m+kk) pts).1 (y-x)=0:=by rw[i9];lia
   have C2:=BK na;obtain⟨Z,hZ,hz⟩:=hs.below gp.ne sup;obtain⟨out2,g2,p1,p2,p0,pe,pp,pd,sup2,sB2,sO2,sP2⟩:=U6 C2 xi (pts:=pts) (λP hP=>by
    have:=sup P hP;by_cases q:d7 (b8 m (m+kk) pts).1 P<(b8 m (m+kk) pts).2
    ·exact .inl (by rw[i9];lia)
    ·exact .inr (line x (by simp) y (by simp) P ((onm P).mpr ⟨hP,by lia⟩))) ⟨Z,hZ,by rw[i9];lia⟩
   exact⟨pp,sup2,x,ox.1,y,oy.1,out2,p1,pd.symm,sB2,sO2,C2.ad0 xi p2⟩
end G
namespace DL
open PySem PySem.Spec L2
open PyProof.Rows hiding St
theorem aD:∀{ns:List Int} {us:List Value},m6 (ns.map V.int) us->IntsAre us ns
 |[],_,.nil=>.nil
 |n::ns,_,.cons r t=>by obtain⟨tk,rfl⟩:=r;exact .cons n tk (aD t)
section
def nD:List D->Option (List Int)
 |[]=>some []
 |.int i::r=>(nD r).map (i::·)
 |_=>none
theorem sD:∀{ds:List D} {ns:List Int},nD ds=some ns->ds=ns.map D.int
 |[],ns,h=>by cases h;rfl
 |.int i::r,ns,h=>by simp only[nD,aDd]at h;obtain⟨m,h1,rfl⟩:=h;rw[sD h1];rfl
 |.non::_,_,h=>by cases h
 |.bl _::_,_,h=>by cases h
 |.str _::_,_,h=>by cases h
 |.tup _::_,_,h=>by cases h
 |.lst _::_,_,h=>by cases h
 |.dct::_,_,h=>by cases h
theorem wZ:∀ns:List Int,nD (ns.map D.int)=some ns
 |[]=>rfl
 |n::ns=>by simp[nD,wZ ns]
theorem sF {K:PySem.W.Frag}{H:Hp}{O:Addr->Prop}:∀{vs:List V} {ns:List Int},Reps K H O vs (ns.map D.int)->vs=ns.map V.int
 |[],[],_=>rfl
 |v::vs,n::ns,.cons h t=>by cases h;rw[sF t];rfl
variable [Tabs]in
end
theorem qX (Iv:List D->Ev->Prop)(ht:∀d ds ρ,Iv (d::ds) ρ->∃ρ2,V2 G F d ρ=.ok (.nx ρ2)/\Iv ds ρ2):∀{ds:List D} {ρ:Ev},Iv ds ρ->∃ar,P1 G F ds ρ=.ok (.nx ar)/\Iv [] ar
 |[],ρ,h=>⟨ρ,rfl,h⟩
 |d::ds,ρ,h=>by
  obtain⟨ρ2,e,h2⟩:=ht d ds ρ h;obtain⟨ar,e',h'⟩:=qX Iv ht h2;unfold V2 at e;cases e1:G d ρ with
  |ok ρ1=>rw[e1]at e;exact⟨ar,by rw[P1,e1];dsimp only at e⊢;rw[e];exact e',h'⟩
  |ex x=>rw[e1]at e;cases e
  |bad=>rw[e1]at e;cases e
def cA (Iv:List D->Ev->Prop)(ht:∀d ds ρ,Iv (d::ds) ρ->∃ρ2,V2 G F d ρ=.ok (.nx ρ2)/\Iv ds ρ2)(h0:Iv ds ρ)(h2:∀ar,Iv [] ar->K7 (F2 ar)=.ok d):
  K7 (C1 (P1 G F ds ρ) F2)=.ok d:=by
 obtain⟨ar,e,h⟩:=qX Iv ht h0;rw[e];exact h2 ar h
def wS {Post:Ev->Prop}(Iv:Nat->Ev->Prop)(ht:∀n ρ,Iv (n+1) ρ->c ρ=.ok false\/(c ρ=.ok true/\∃ρ2,F ρ=.ok (.nx ρ2)/\Iv n ρ2))(h00:∀ρ,¬Iv 0 ρ)(h0:Iv n ρ)(hp:∀m ar,Iv m ar->c ar=.ok false->Post ar):∃ρ2,Q8 c F n ρ=.ok (.nx ρ2)/\Post ρ2:=by obtain⟨m,ar,e,h,hc⟩:=fW Iv ht h00 n ρ h0;exact⟨ar,e,hp m ar h hc⟩
end DL
namespace M
open PySem L2 DL
abbrev pT (n:G.V)(d:Int):D:=.tup [.int n.x,.int n.y,.int n.z,.int d]
def B5:List D->R D
 |[.tup [.int a,.int b,.int c]]=>.ok (.int (G.u7 ⟨a,b,c⟩))
 |_=>.bad
def yZ (v:G.V):B5 [vd v]=.ok (.int (G.u7 v)):=rfl
def Sz3 (P Q R:G.V):Prop:=Sz 1000 P/\Sz 1000 Q/\Sz 1000 R
open Classical in
def R0:List D->R D:=v1 λa b c=>v1 λd e f=>v1 λg h i=>uW (
 if Sz3 ⟨a,b,c⟩ ⟨d,e,f⟩ ⟨g,h,i⟩/\G.cr ((⟨d,e,f⟩:G.V)-⟨a,b,c⟩) ((⟨g,h,i⟩:G.V)-⟨a,b,c⟩)≠0 then .ok (pT (G.j6 ⟨a,b,c⟩ ⟨d,e,f⟩ ⟨g,h,i⟩).1 (G.j6 ⟨a,b,c⟩ ⟨d,e,f⟩ ⟨g,h,i⟩).2)else .bad)
def OA {P Q R:G.V}(h:Sz3 P Q R)(hc:G.cr (Q-P) (R-P)≠0):R0 [vd P,vd Q,vd R]=.ok (pT (G.j6 P Q R).1 (G.j6 P Q R).2):=if_pos ⟨h,hc⟩
def GL (h:Sz n v):bits (G.u7 v:Nat)<=n:=by
 have e:((G.u7 v:Nat):Int)=aGk (aGk v.x v.y:Nat) v.z:=by simp[G.u7,aGk]
 rw[e];exact xB (xB h.1 h.2.1) h.2.2
def oU {a g:Int}(h:0<g):a.fdiv g=a/g:=Int.fdiv_eq_ediv_of_nonneg a (aAO h)
end M
namespace ST
open PySem PySem.SetTable
def HL (xs:Array Nat):Prop:=∀(i k:Nat) (hi:i<xs.size) (hk:k<xs.size),i<k->xs[i]<xs[k]
theorem sW (xs:Array Nat)(j:Nat)(ha:HL xs):∀(fuel lo hi:Nat),lo<=hi->hi<=xs.size->hi-lo<=fuel->(∀i (h:i<xs.size),i<lo->xs[i]<j)->(∀i (h:i<xs.size),hi<=i->j<=xs[i])->
  below.go xs j fuel lo hi<=xs.size/\(∀i (h:i<xs.size),i<below.go xs j fuel lo hi->xs[i]<j)/\(∀i (h:i<xs.size),below.go xs j fuel lo hi<=i->j<=xs[i])
 |0,lo,hi,h1,h2,h3,h4,h5=>by
  have:lo=hi:=by lia
  subst this;unfold below.go;exact⟨h2,h4,h5⟩
 |fuel+1,lo,hi,h1,h2,h3,h4,h5=>by
  unfold below.go;by_cases ao:lo<hi
  ·rw[if_pos ao];have hm:(lo+hi)/2<xs.size:=by lia
   have e:xs.getD ((lo+hi)/2) j=xs[(lo+hi)/2]:=by simp[aFf,hm]
   dsimp only;rw[e];by_cases hc:xs[(lo+hi)/2]<j
   ·rw[if_pos hc];refine sW xs j ha fuel _ _ (by lia) h2 (by lia) (λi h fg=>?_) h5;by_cases q:i=(lo+hi)/2
    ·subst q;exact hc
    ·exact aGm (ha i _ h hm (by lia)) hc
   ·rw[if_neg hc];refine sW xs j ha fuel _ _ (by lia) (by lia) (by lia) h4 (λi h fg=>?_);by_cases q:i=(lo+hi)/2
    ·subst q;lia
    ·have:=ha _ i hm h (by lia);lia
  ·rw[if_neg ao];have:lo=hi:=by lia
   subst this;exact⟨h2,h4,h5⟩
def bB (ha:HL xs)(j:Nat):below xs j<=xs.size/\(∀i (h:i<xs.size),i<below xs j->xs[i]<j)/\(∀i (h:i<xs.size),below xs j<=i->j<=xs[i]):=
 sW xs j ha xs.size 0 xs.size (aBc _) (aAg _) (by lia) (λi h hi=>by lia) (λi h hi=>by lia)
def ND (ha:HL xs)(h:xs[i]?=some j):below xs j=i:=by
 obtain⟨hi,e⟩:=aBZ.mp h;obtain⟨b1,b2,b3⟩:=bB ha j;rcases Nat.lt_trichotomy (below xs j) i with q|q|q
 ·have hb:below xs j<xs.size:=by lia
  have h1:=b3 _ hb (aAg _);have h2:=ha _ _ hb hi q
  lia
 ·exact q
 ·have:=b2 i hi q;lia
structure Tab (t:SetTable):Prop where
 asc:HL t.place
 le:∀j∈t.place.toList,j<=t.mask
 nod:t.dummies=#[]
def K1 (T:Tab t)(h:t.place[i]?=some j):t.slot j=.live i:=by unfold slot;rw[ND T.asc h];dsimp only;rw[h];simp
def BP (T:Tab t)(h:j∉t.place.toList):t.slot j=.empty:=by
 unfold slot;have h1:¬(t.place[below t.place j]?==some j)=true:=λz=>h (by have:=beq_iff_eq.mp z;obtain⟨hi,e⟩:=aBZ.mp this;rw[<-e];simp)
 dsimp only;rw[if_neg h1,T.nod];rw[if_neg (by unfold has;simp)]
def zU (T:Tab t)(j:Nat):(t.slot j=.empty/\j∉t.place.toList)\/∃i,t.slot j=.live i/\t.place[i]?=some j:=by
 by_cases h:j∈t.place.toList
 ·obtain⟨i,hi,e⟩:=aBs h;have:t.place[i]?=some j:=by rw[<-aAA,aAh hi,e]
  exact .inr ⟨i,K1 T this,this⟩
 ·exact .inl ⟨BP T h,h⟩
def OR (mask:Nat)(p:Probe):Probe:=if p.more>0 then{p with j:=p.j+1,more:=p.more-1}else{p with j:=(leap mask p.i p.perturb).1,more:=runEnd mask (leap mask p.i p.perturb).1-(leap mask p.i p.perturb).1,i:=(leap mask p.i p.perturb).1,perturb:=(leap mask p.i p.perturb).2}
def nC (t:SetTable)(p:Probe):t.advance p=OR t.mask p:=rfl
def start (mask:Nat)(h:Int):Probe:={j:=bits h%(mask+1),more:=runEnd mask (bits h%(mask+1))-bits h%(mask+1),i:=bits h%(mask+1),perturb:=bits h,dummy:=none}
def m9 (mask:Nat)(h:Int):Nat->Probe
 |0=>start mask h
 |n+1=>OR mask (m9 mask h n)
theorem mW (mask:Nat)(h:Int):∀n,(m9 mask h n).dummy=none
 |0=>rfl
 |n+1=>by have:=mW mask h n;show(OR mask _).dummy=none;unfold OR;split<;>exact this
def C4 (mask:Nat)(h:Int):Nat->Nat×Nat
 |0=>(bits h%(mask+1),bits h)
 |k+1=>leap mask (C4 mask h k).1 (C4 mask h k).2
def len (mask i:Nat):Nat:=runEnd mask i-i
def ZA (mask i:Nat):len mask i<=9:=by unfold len runEnd;split<;>lia
def off (mask:Nat)(h:Int):Nat->Nat
 |0=>0
 |k+1=>off mask h k+len mask (C4 mask h k).1+1
theorem LL (mask:Nat)(h:Int):∀k,off mask h k<=10*k
 |0=>aAg _
 |k+1=>by have:=LL mask h k;have:=ZA mask (C4 mask h k).1;show off mask h k+_+1<=_;lia
theorem V7 (mask:Nat)(h:Int):∀k r,r<=len mask (C4 mask h k).1->
  m9 mask h (off mask h k+r)={j:=(C4 mask h k).1+r,more:=len mask (C4 mask h k).1-r,i:=(C4 mask h k).1,perturb:=(C4 mask h k).2,dummy:=none}
 |0,0,_=>rfl
 |0,r+1,hr=>by
  have ih:=V7 mask h 0 r (by lia);have e:off mask h 0+(r+1)=(off mask h 0+r)+1:=by lia
  rw[e,m9,ih];unfold OR;rw[if_pos (show len mask (C4 mask h 0).1-r>0 by lia)];simp
  lia
 |k+1,0,_=>by have ih:=V7 mask h k (len mask (C4 mask h k).1) (aAg _);have e:off mask h (k+1)+0=(off mask h k+len mask (C4 mask h k).1)+1:=rfl;rw[e,m9,ih];unfold OR;rw[if_neg (by simp)];simp[C4,len]
 |k+1,r+1,hr=>by
  have ih:=V7 mask h (k+1) r (by lia);have e:off mask h (k+1)+(r+1)=(off mask h (k+1)+r)+1:=by lia
  rw[e,m9,ih];unfold OR;rw[if_pos (show len mask (C4 mask h<|k+1).1-r>0 by lia)];simp
  lia
def JP (mask:Nat)(h:Int)(k:Nat):(m9 mask h (off mask h k)).j=(C4 mask h k).1:=by have:=V7 mask h k 0 (aBc _);rw[Nat.add_zero]at this;rw[this];rfl
theorem gO (mask:Nat)(h:Int):∀k,(C4 mask h k).2<2^64/32^k+1
 |0=>by
  show bits h<_;unfold bits;have:=Int.emod_lt_of_pos h (show(0:Int)<2^64 by decide)
  lia
 |k+1=>by
  have ih:=gO mask h k;show(C4 mask h k).2/32<_;have e:∀N,N/32^(k+1)=N/32^k/32:=λN=>by rw[Nat.div_div_eq_div_mul];rfl
  rw[e]
  lia
theorem qK (mask:Nat)(h:Int):∀k,(C4 mask h (13+k)).2=0
 |0=>by have:=gO mask h 13;simp at this;exact this
 |k+1=>by have:=qK mask h k;show(C4 mask h<|13+k).2/32=0;rw[this]
def qx (m:Nat)(i:Nat):Nat:=(i*5+1)%m
def z9 (m:Nat):Nat->Nat->Nat
 |0,i=>i
 |n+1,i=>qx m (z9 m n i)
theorem nN (mask:Nat)(h:Int):∀k,(C4 mask h (13+k)).1=z9 (mask+1) k (C4 mask h 13).1
 |0=>rfl
 |k+1=>by have ih:=nN mask h k;show((C4 mask h<|13+k).1*5+1+(C4 mask h<|13+k).2/32)%(mask+1)=_;rw[qK,ih];rfl
theorem iA (m:Nat):∀a b i,z9 m (a+b) i=z9 m a (z9 m b i)
 |0,b,i=>by rw[aEQ];rfl
 |a+1,b,i=>by rw[show a+1+b=(a+b)+1 by lia];show qx m _=qx m _;rw[iA m a b i]
def lK (m:Nat):Prop:=z9 m m 0=0/\∀j<m,∃n<m,z9 m n 0=j
def qZ (F:lK m)(hi:i<m)(hj:j<m):∃n<m,z9 m n i=j:=by
 obtain⟨a,ha,ea⟩:=F.2 i hi;obtain⟨b,hb,eb⟩:=F.2 j hj;by_cases h:a<=b
 ·exact⟨b-a,by lia,by rw[<-ea,<-iA,show b-a+a=b by lia,eb]⟩
 ·refine⟨b+(m-a),by lia,?_⟩;rw[<-ea,<-iA,show b+(m-a)+a=b+m by lia,iA,F.1,eb]
instance(m:Nat):Decidable (lK m):=inferInstanceAs (Decidable<|_/\_)
def mj:lK 8:=by decide+kernel
def WX:lK 32:=by decide+kernel
def PC:lK 128:=by decide+kernel
theorem ER (mask:Nat)(h:Int):∀k,(C4 mask h k).1<mask+1
 |0=>aDT _ (by lia)
 |k+1=>aDT _ (by lia)
def AN {mask:Nat}(F:lK (mask+1))(h:Int){j:Nat}(hj:j<=mask):∃n,n<=10*(mask+14)/\(m9 mask h n).j=j:=by
 obtain⟨k,hk,e⟩:=qZ F (ER mask h 13) (show j<mask+1 by lia);refine⟨off mask h (13+k),?_,?_⟩
 ·have:=LL mask h (13+k);lia
 ·rw[JP,nN,e]
end ST
namespace ST
open PySem PySem.SetTable
def tM {α β:Type}{l:List α}{m:List β}{p:Nat}{a:α×β}(h:a∈(l.take p).zip (m.take p)):a∈l.zip m:=by
 obtain⟨i,hi⟩:=aDp.mp h;rw[aBA]at hi;refine aAt (i:=i) ?_;rw[aBA];have q:∀{γ:Type} {l:List γ} {c:γ},(l.take p)[i]?=some c->l[i]?=some c:=λ{γ l c} h=>by
  rw[List.getElem?_take]at h;split at h
  ·exact h
  ·cases h
 exact⟨q hi.1,q hi.2⟩
def sJ {α β:Type}{l:List α}{m:List β}{p:Nat}{a:α×β}(h:a∈(l.drop p).zip (m.drop p)):a∈l.zip m:=by obtain⟨i,hi⟩:=aDp.mp h;rw[aBA,List.getElem?_drop,List.getElem?_drop]at hi;refine aAt (i:=p+i) ?_;rw[aBA];exact hi
theorem DK (mask:Nat)(h:Int):∀n,(m9 mask h n).j+(m9 mask h n).more<=mask
 |0=>by have:=aDT (bits h) (show 0<mask+1 by lia);show bits h%(mask+1)+(runEnd mask (bits h%(mask+1))-bits h%(mask+1))<=mask;unfold runEnd;split<;>lia
 |n+1=>by
  have ih:=DK mask h n;show(OR mask<|m9 mask h n).j+(OR mask<|m9 mask h n).more<=mask;unfold OR;split
  ·dsimp only;lia
  ·dsimp only;have:(leap mask (m9 mask h n).i (m9 mask h n).perturb).1<mask+1:=aDT _ (by lia);unfold runEnd;split<;>lia
def sM (mask:Nat)(h:Int)(n:Nat):(m9 mask h n).j<=mask:=by have:=DK mask h n;lia
theorem N2 {α:Type}[DecidableEq α]:∀{l m:List α},l.Nodup->(∀x∈l,x∈m)->l.length<=m.length
 |[],_,_,_=>aBc _
 |x::l,m,h,hs=>by
  have hx:=hs x (by simp);have h':=aAE.mp h;have:=N2 (l:=l) (m:=m.erase x) h'.2 (λy hy=>by
   have ne:y≠x:=λe=>by subst e;exact h'.1 hy
   exact(aFQ ne).mpr (hs y<|aAe _ hy))
  rw[aFg hx]at this;have:0<m.length:=aDR hx;simp only[aAu]
  lia
def IC {t:SetTable}(h:t.place.size<=t.mask):∃j≤t.mask,j∉t.place.toList:=by
 by_cases z:∃j≤t.mask,j∉t.place.toList
 ·exact z
 ·exfalso;have:=N2 (l:=aBy (t.mask+1)) (m:=t.place.toList) List.nodup_range (λj hj=>by
   by_cases q:j∈t.place.toList
   ·exact q
   ·exact absurd ⟨j,by have:=aCr.mp hj;lia,q⟩ z)
  simp at this
  lia
theorem least {P:Nat->Prop}[DecidablePred P]:∀n,P n->∃m≤n,P m/\∀k<m,¬P k
 |0,h=>⟨0,aAg _,h,λk hk=>by lia⟩
 |n+1,h=>by
  by_cases z:∃k≤n,P k
  ·obtain⟨k,hk,hp⟩:=z;obtain⟨m,h1,h2,h3⟩:=least k hp;exact⟨m,by lia,h2,h3⟩
  ·exact⟨n+1,aAg _,h,λk hk hp=>z ⟨k,by lia,hp⟩⟩
termination_by n=>n
def T4 (t:SetTable)(h:Int)(n0:Nat):Prop:=n0<=10*(t.mask+14)/\(m9 t.mask h n0).j∉t.place.toList/\∀m<n0,(m9 t.mask h m).j∈t.place.toList
def zC {t:SetTable}(F:lK (t.mask+1))(hs:t.place.size<=t.mask)(h:Int):∃n0,T4 t h n0:=by obtain⟨j,hj,hn⟩:=IC hs;obtain⟨n,h1,h2⟩:=AN F h hj;obtain⟨m,h3,h4,h5⟩:=least (P:=λn=>(m9 t.mask h n).j∉t.place.toList) n (by rw[h2];exact hn);exact⟨m,by lia,h4,λk hk=>by have:=h5 k hk;simpa using this⟩
theorem yA (T:Tab t)(hashAt:Nat->Int)(h:Int)(hf:T4 t h n0):∀(fuel n:Nat),n<=n0->n0-n<fuel->
  ∃n',n<=n'/\n'<=n0/\(∀m,n<=m->m<n'->∃i,t.place[i]?=some (m9 t.mask h m).j/\hashAt i≠h)/\
   ((n'=n0/\probe.go t hashAt h fuel (m9 t.mask h n)=some (.empty (m9 t.mask h n0).j none))\/
    (n'<n0/\∃i,t.place[i]?=some (m9 t.mask h n').j/\hashAt i=h/\probe.go t hashAt h fuel (m9 t.mask h n)=some (.candidate (m9 t.mask h n').j i (m9 t.mask h (n'+1)))))
 |0,n,_,h2=>by lia
 |fuel+1,n,h1,h2=>by
  unfold probe.go;rcases zU T (m9 t.mask h n).j with⟨e,hn⟩|⟨i,e,hi⟩
  ·have:n=n0:=by
     by_cases q:n<n0
     ·exact absurd (hf.2.2 n q) hn
     ·lia
   subst this;refine⟨n,aAg _,aAg _,λm a b=>by lia,.inl ⟨rfl,?_⟩⟩;rw[e];dsimp only;rw[mW]
  ·have ah:n≠n0:=λq=>by subst q;refine hf.2.1 ?_;rw[<-aAA]at hi;exact aAt hi
   rw[e];dsimp only;by_cases hh:hashAt i=h
   · refine⟨n,aAg _,by lia,λm a b=>by lia,.inr ⟨by lia,i,hi,hh,?_⟩⟩
     rw[if_pos (by simpa using hh),nC];rfl
   · rw[if_neg (by simpa using hh),nC]
     obtain⟨n',a1,a2,a3,a4⟩:=yA T hashAt h hf fuel (n+1) (by lia) (by lia);refine⟨n',by lia,a2,λm b1 b2=>?_,a4⟩;by_cases q:m=n
     ·subst q;exact⟨i,hi,hh⟩
     ·exact a3 m (by lia) b2
def OL (T:Tab t)(hashAt:Nat->Int)(h:Int)(hf:T4 t h n0)(n:Nat)(h1:n<=n0):
  ∃n',n<=n'/\n'<=n0/\(∀m,n<=m->m<n'->∃i,t.place[i]?=some (m9 t.mask h m).j/\hashAt i≠h)/\
   ((n'=n0/\t.probe hashAt h (m9 t.mask h n)=some (.empty (m9 t.mask h n0).j none))\/
    (n'<n0/\∃i,t.place[i]?=some (m9 t.mask h n').j/\hashAt i=h/\t.probe hashAt h (m9 t.mask h n)=some (.candidate (m9 t.mask h n').j i (m9 t.mask h (n'+1))))):=
 yA T hashAt h hf _ n h1 (by have:=hf.1;unfold turns;lia)
def Reach (mask:Nat)(occ:Nat->Prop)(h:Int)(j:Nat):Prop:=∃n,(m9 mask h n).j=j/\∀m<n,occ (m9 mask h m).j
def Reach.mono {mask:Nat}{o o':Nat->Prop}{h:Int}{j:Nat}(r:Reach mask o h j)(i:∀k,o k->o' k):Reach mask o' h j:=by obtain⟨n,e,q⟩:=r;exact⟨n,e,λm hm=>i _ (q m hm)⟩
def Reach.before (hf:T4 t h n0)(hj:j∈t.place.toList)(r:Reach t.mask (λk=>k∈t.place.toList) h j):∃n<n0,(m9 t.mask h n).j=j:=by
 obtain⟨n,e,q⟩:=r;refine⟨n,?_,e⟩;by_cases z:n<n0
 ·exact z
 ·exfalso;by_cases y:n=n0
  ·subst y;exact hf.2.1 (by rw[e];exact hj)
  ·exact hf.2.1 (q n0 (by lia))
def fH {α:Type}(xs:Array α)(p:Nat)(x:α):(insertAt xs p x).toList=xs.toList.take p++x::xs.toList.drop p:=by
 unfold insertAt;simp[Array.toList_extract,List.extract_eq_drop_take];have:xs.size-p=(xs.toList.drop p).length:=by simp
 rw[this,List.take_length]
def vL (t:SetTable)(es:List (Int×Value)):List (Nat×Int×Value):=t.place.toList.zip es
structure SOk (t:SetTable)(es:List (Int×Value)):Prop where
 tab:Tab t
 full:lK (t.mask+1)
 len:t.place.size=es.length
 room:t.place.size<=t.mask
 reach:∀e∈vL t es,Reach t.mask (λk=>k∈t.place.toList) e.2.1 e.1
def QJ {t:SetTable}{es:List (Int×Value)}(hl:t.place.size=es.length){i:Nat}{e:Int×Value}(h:es[i]?=some e):∃j,t.place[i]?=some j/\(j,e)∈vL t es:=by
 have hi:i<es.length:=(aAC.mp h).1;have fg:i<t.place.toList.length:=by simpa[hl]using hi
 refine⟨t.place.toList[i],by rw[<-aAA,aAh fg],?_⟩;unfold vL;refine aAt (i:=i) ?_;rw[aBA];exact⟨aAh fg,h⟩
def YH {t:SetTable}{es:List (Int×Value)}(S:SOk t es){h:Int}{x:Value}{n0:Nat}(hf:T4 t h n0)(hr:t.place.size+1<=t.mask):
  SOk (t.put (m9 t.mask h n0).j).1 (es.take (t.put (m9 t.mask h n0).j).2++(h,x)::es.drop (t.put (m9 t.mask h n0).j).2):=by
 have hj:=sM t.mask h n0;obtain⟨b1,b2,b3⟩:=bB S.tab.asc (m9 t.mask h n0).j;generalize hJ:(m9 t.mask h n0).j=J at*
 have hf2:J∉t.place.toList:=by rw[<-hJ];exact hf.2.1
 have ep:(t.put J).2=below t.place J:=rfl;have em:(t.put J).1.mask=t.mask:=rfl;have epl:(t.put J).1.place=insertAt t.place (below t.place J) J:=rfl;have lpl:=fH t.place (below t.place J) J;have mem:∀k,k∈(t.put J).1.place.toList↔k∈t.place.toList\/k=J:=λk=>by
  rw[epl,lpl,aAN,aAd];constructor
  ·rintro(q|q|q)
   ·exact .inl (aEm q)
   ·exact .inr q
   ·exact .inl (aDu q)
  ·rintro(q|q)
   ·rw[<-aFE (below t.place J) t.place.toList,aAN]at q;rcases q with q|q
    ·exact .inl q
    ·exact .inr (.inr q)
   ·exact .inr (.inl q)
 have hsz:(t.put J).1.place.size=t.place.size+1:=by
  rw[<-aAU,epl,lpl,aAz,aBM,aAu,aDA,aAU]
  lia
 refine⟨⟨?_,λj uo=>?_,?_⟩,S.full,?_,by rw[hsz];exact hr,λe he=>?_⟩
 ·
  have asc:t.place.toList.Pairwise (· <·):=by rw[aCe];intro i j hi hj jm;simpa using S.tab.asc i j (by simpa using hi) (by simpa using hj) jm
  have lt1:∀a∈t.place.toList.take (below t.place J),a<J:=λa ha=>by
   obtain⟨i,hi,e⟩:=aBs ha;rw[aBM]at hi;rw[List.getElem_take]at e;have:=b2 i (by simp at hi;lia) (by lia);simp at e
   lia
  have gt1:∀a∈t.place.toList.drop (below t.place J),J<a:=λa ha=>by
   obtain⟨i,hi,e⟩:=aBs ha;rw[aDA]at hi;rw[List.getElem_drop]at e;have h1:=b3 (below t.place J+i) (by simp at hi;lia) (by lia);simp at e;have h2:J≠a:=λq=>hf2 (by rw[q];exact aDu ha)
   lia
  have pw:(t.put J).1.place.toList.Pairwise (· <·):=by
   rw[epl,lpl,List.pairwise_append];refine⟨asc.sublist (List.take_sublist _ _),aAy.mpr ⟨gt1,asc.sublist (List.drop_sublist _ _)⟩,λa ha b hb=>?_⟩;rcases aAd.mp hb with q|q
   ·subst q;exact lt1 a ha
   ·exact aGm (lt1 a ha) (gt1 b q)
  intro i k hi hk hik;have:=aCe.mp pw i k (by simpa using hi) (by simpa using hk) hik;simpa using this
 ·rcases(mem j).mp uo with q|q
  ·exact S.tab.le j q
  ·subst q;exact hj
 ·show(if has t.dummies J then _ else t.dummies)=#[];rw[S.tab.nod,if_neg (by unfold has;simp)]
 ·rw[hsz,ep,aAz,aBM,aAu,aDA];have:=S.len
  lia
 ·have xn:e∈vL t es\/e=(J,h,x):=by
   unfold vL at he;rw[epl,lpl,ep]at he;rw[List.zip_append (by rw[aBM,aBM,aAU,S.len])]at he;rcases aAN.mp he with q|q
   ·left;unfold vL;exact tM q
   ·rw[aBC]at q;rcases aAd.mp q with q|q
    ·exact .inr q
    ·left;unfold vL;exact sJ q
  rcases xn with q|q
  ·exact(S.reach e q).mono λk hk=>(mem k).mpr (.inl hk)
  ·subst q;exact⟨n0,hJ,λm hm=>(mem _).mpr (.inl (hf.2.2 m hm))⟩
end ST
namespace ST
open PySem PySem.SetTable
def Q1 (owner:Array (Option Nat))(j:Nat):Prop:=(owner.getD j<|some 0).isNone=false
theorem rR {mask:Nat}(h:Int)(owner:Array (Option Nat)):∀(fuel k:Nat),(∃kk,k<=kk/\kk<k+fuel/\¬Q1 owner (C4 mask h kk).1)->
  ∃n,off mask h k<=n/\layClean.free mask owner fuel (C4 mask h k).1 (C4 mask h k).2=some (m9 mask h n).j/\¬Q1 owner (m9 mask h n).j/\∀m,off mask h k<=m->m<n->Q1 owner (m9 mask h m).j
 |0,k,⟨kk,h1,h2,_⟩=>by lia
 |fuel+1,k,⟨kk,h1,h2,h3⟩=>by
  have eL:runEnd mask (C4 mask h k).1+1-(C4 mask h k).1=len mask (C4 mask h k).1+1:=by unfold len runEnd;split<;>lia
  unfold layClean.free;rw[eL];cases e:(aBy<|len mask (C4 mask h k).1+1).find? λr=>(owner.getD ((C4 mask h k).1+r)<|some 0).isNone with
  |some r=>
   have q:=List.find?_some e;have hr:r<len mask (C4 mask h k).1+1:=aCr.mp (List.mem_of_find?_eq_some e);have ej:(m9 mask h<|off mask h k+r).j=(C4 mask h k).1+r:=by rw[V7 mask h k r (by lia)]
   refine⟨off mask h k+r,by lia,by rw[ej],by rw[ej];unfold Q1;rw[q];simp,λm a b=>?_⟩;have em:(m9 mask h m).j=(C4 mask h k).1+(m-off mask h k):=by have:=V7 mask h k (m-off mask h k) (by lia);rw[show off mask h k+(m-off mask h k)=m by lia]at this;rw[this]
   rw[em];unfold Q1;rw[List.find?_range_eq_some]at e;have:=e.2.2 (m-off mask h k) (by lia);simpa using this
  |none=>
   have all:∀r<len mask (C4 mask h k).1+1,Q1 owner ((C4 mask h k).1+r):=λr hr=>by have:=List.find?_eq_none.mp e r (aCr.mpr hr);unfold Q1;exact Bool.not_eq_true _▸this
   have hk:kk≠k:=λq=>by subst q;have:=all 0 (by lia);rw[Nat.add_zero]at this;exact h3 this
   obtain⟨n,a1,a2,a3,a4⟩:=rR h owner fuel (k+1) ⟨kk,by lia,by lia,h3⟩;have eo:off mask h (k+1)=off mask h k+len mask (C4 mask h k).1+1:=rfl;refine⟨n,by lia,a2,a3,λm b1 b2=>?_⟩;by_cases q:off mask h (k+1)<=m
   ·exact a4 m q b2
   ·have em:(m9 mask h m).j=(C4 mask h k).1+(m-off mask h k):=by have:=V7 mask h k (m-off mask h k) (by lia);rw[show off mask h k+(m-off mask h k)=m by lia]at this;rw[this]
    rw[em];exact all _ (by lia)
def mI {mask:Nat}(F:lK (mask+1))(h:Int)(owner:Array (Option Nat)){j:Nat}(hj:j<=mask)(hn:¬Q1 owner j):
  ∃n,layClean.free mask owner (turns mask) (aDN h%(mask+1)) (aDN h)=some (m9 mask h n).j/\¬Q1 owner (m9 mask h n).j/\∀m<n,Q1 owner (m9 mask h m).j:=by
 obtain⟨k,hk,e⟩:=qZ F (ER mask h 13) (show j<mask+1 by lia);obtain⟨n,a1,a2,a3,a4⟩:=rR h owner (turns mask) 0 ⟨13+k,aBc _,by unfold turns;lia,by rw[nN,e];exact hn⟩;exact⟨n,a2,a3,λm hm=>a4 m (aBc _) hm⟩
structure Laid (mask:Nat)(hs:List Int)(owner:Array (Option Nat))(k:Nat):Prop where
 size:owner.size=mask+1
 lt:∀(j i:Nat),owner[j]?=some (some i)->i<k
 inj:∀(j j' i:Nat),owner[j]?=some (some i)->owner[j']?=some (some i)->j=j'
 sur:∀i<k,∃j:Nat,owner[j]?=some (some i)
 reach:∀(j i:Nat) (h:Int),owner[j]?=some (some i)->hs[i]?=some h->Reach mask (λl=>∃i,owner[l]?=some (some i)) h j
def iV {owner:Array (Option Nat)}{mask j:Nat}(hs:owner.size=mask+1)(hj:j<=mask):Q1 owner j↔∃i,owner[j]?=some (some i):=by
 unfold Q1;have ao:j<owner.size:=by lia
 have e:owner.getD j (some 0)=owner[j]:=by simp[aFf,ao]
 rw[e,aAH ao];cases owner[j]with
 |none=>simp
 |some i=>simp
def Laid.room {mask k:Nat}{hs:List Int}{owner:Array (Option Nat)}(L:Laid mask hs owner k)(hk:k<=mask):∃j≤mask,¬Q1 owner j:=by
 by_cases z:∃j≤mask,¬Q1 owner j
 ·exact z
 ·exfalso;have all:∀j≤mask,∃i,owner[j]?=some (some i):=λj hj=>by
   by_cases q:Q1 owner j
   ·exact(iV L.size hj).mp q
   ·exact absurd ⟨j,hj,q⟩ z
  have key:∀n,n<=mask+1->∃l:List Nat,l.length=n/\l.Nodup/\(∀i∈l,i<k)/\∀i∈l,∃j<n,owner[j]?=some (some i):=λn=>by
   induction n with
   |zero=>exactλ_=>⟨[],rfl,aCK,by simp,by simp⟩
   |succ n ih=>
    intro hn;obtain⟨l,h1,h2,h3,h4⟩:=ih (by lia);obtain⟨i,hi⟩:=all n (by lia);refine⟨i::l,by simp[h1],aAE.mpr ⟨λq=>?_,h2⟩,λx hx=>?_,λx hx=>?_⟩
    ·obtain⟨j,hj,e⟩:=h4 i q;have:=L.inj j n i e hi
     lia
    ·rcases aAd.mp hx with q|q
     ·subst q;exact L.lt _ _ hi
     ·exact h3 x q
    ·rcases aAd.mp hx with q|q
     ·subst q;exact⟨n,by lia,hi⟩
     ·obtain⟨j,hj,e⟩:=h4 x q;exact⟨j,by lia,e⟩
  obtain⟨l,h1,h2,h3,_⟩:=key (mask+1) (aAg _);have:=N2 (m:=aBy k) h2 (λx hx=>aCr.mpr (h3 x hx));simp at this
  lia
def zD (mask:Nat)(hs:List Int):Laid mask hs (aEt (mask+1) none) 0:=by
 have no:∀(j i:Nat),(aEt (mask+1) (none:Option Nat))[j]?=some (some i)->False:=λj i h=>by rw[Array.getElem?_replicate]at h;split at h<;>cases h
 exact⟨by simp,λj i h=>(no j i h).elim,λj j' i h=>(no j i h).elim,λi hi=>by lia,λj i _ h=>(no j i h).elim⟩
def Laid.step {mask k:Nat}{hs:List Int}{owner:Array (Option Nat)}(L:Laid mask hs owner k){h:Int}(hk:hs[k]?=some h){n:Nat}(h2:¬Q1 owner (m9 mask h n).j)(h3:∀m<n,Q1 owner (m9 mask h m).j):
  Laid mask hs (owner.setIfInBounds (m9 mask h n).j (some k)) (k+1):=by
 have hJ:=sM mask h n;have hJ':(m9 mask h n).j<owner.size:=by rw[L.size];lia
 have get:∀(j i:Nat),(owner.setIfInBounds (m9 mask h n).j (some k))[j]?=some (some i)↔(j=(m9 mask h n).j/\i=k)\/(j≠(m9 mask h n).j/\owner[j]?=some (some i)):=λj i=>by
  rw[Array.getElem?_setIfInBounds];by_cases q:(m9 mask h n).j=j
  ·rw[if_pos q,if_pos hJ'];simp[q,eq_comm]
  ·rw[if_neg q];constructor
   ·intro z;exact .inr ⟨λy=>q y.symm,z⟩
   ·rintro(⟨z,_⟩|⟨_,z⟩)
    ·exact absurd z.symm q
    ·exact z
 have fr:∀i,owner[(m9 mask h n).j]?≠some (some i):=λi z=>h2 ((iV L.size hJ).mpr ⟨i,z⟩);have grow:∀l:Nat,(∃i:Nat,owner[l]?=some (some i))->∃i:Nat,(owner.setIfInBounds (m9 mask h n).j (some k))[l]?=some (some i):=λl hl=>by
  obtain⟨i,z⟩:=hl;by_cases q:l=(m9 mask h n).j
  ·exact⟨k,(get l k).mpr (.inl ⟨q,rfl⟩)⟩
  ·exact⟨i,(get l i).mpr (.inr ⟨q,z⟩)⟩
 refine⟨by simp[L.size],λj i z=>?_,λj j' i z z'=>?_,λi hi=>?_,λj i h' z e=>?_⟩
 ·rcases(get j i).mp z with⟨_,q⟩|⟨_,q⟩
  ·lia
  ·have:=L.lt j i q;lia
 ·rcases(get j i).mp z with⟨q1,q2⟩|⟨q1,q2⟩
  ·rcases(get j' i).mp z' with⟨r1,r2⟩|⟨r1,r2⟩
   ·rw[q1,r1]
   ·subst q2;have:=L.lt _ _ r2;lia
  ·rcases(get j' i).mp z' with⟨r1,r2⟩|⟨r1,r2⟩
   ·subst r2;have:=L.lt _ _ q2;lia
   ·exact L.inj j j' i q2 r2
 ·by_cases q:i=k
  ·subst q;exact⟨_,(get _ _).mpr (.inl ⟨rfl,rfl⟩)⟩
  ·obtain⟨j,z⟩:=L.sur i (by lia);exact⟨j,(get j i).mpr (.inr ⟨λy=>by subst y;exact fr i z,z⟩)⟩
 ·rcases(get j i).mp z with⟨q1,q2⟩|⟨q1,q2⟩
  ·subst q1 q2;have:h'=h:=Option.some.inj (e.symm.trans hk);subst this;exact⟨n,rfl,λm hm=>grow _ ((iV L.size<|sM mask h' m).mp (h3 m hm))⟩
  ·exact(L.reach j i h' q2 e).mono grow
def yP {mask:Nat}(F:lK (mask+1))(hs:Array Int)(hl:hs.size<=mask):∃owner,layClean mask hs=some owner/\Laid mask hs.toList owner hs.size:=by
 have go:∀(post pre:List Int) (owner:Array (Option Nat)),hs.toList=pre++post->Laid mask hs.toList owner pre.length->
   ∃ng,post.foldl (λacc h=>do
    let(owner,k)<-acc
    let j<-layClean.free mask owner (turns mask) (aDN h%(mask+1)) (aDN h)
    pure (owner.setIfInBounds j (some k),k+1)) (some (owner,pre.length))=some (ng,hs.size)/\Laid mask hs.toList ng hs.size:=λpost=>by
  induction post with
  |nil=>
   intro pre owner e L;have:pre.length=hs.size:=by rw[<-aAU,e];simp
   exact⟨owner,by rw[List.foldl_nil,this],by rw[<-this];exact L⟩
  |cons h post ih=>
   intro pre owner e L;have hlen:pre.length<hs.size:=by rw[<-aAU,e];simp
   obtain⟨j,hj,hn⟩:=L.room (by lia);obtain⟨n,f1,f2,f3⟩:=mI F h owner hj hn;have hk:hs.toList[pre.length]?=some h:=by rw[e];simp
   have L':=L.step hk f2 f3;rw[aEu];have e2:hs.toList=(pre++[h])++post:=by rw[e];simp
   obtain⟨ng,g1,g2⟩:=ih (pre++[h]) _ e2 (by rw[aAz];exact L');refine⟨ng,?_,g2⟩;rw[<-g1];congr 1;simp[f1]
 obtain⟨owner,h1,h2⟩:=go hs.toList [] (aEt (mask+1) none) rfl (zD mask hs.toList);refine⟨owner,?_,h2⟩;unfold layClean;rw[<-Array.foldl_toList];have qf:List.foldl (λacc h=>do
    let(owner,k)<-acc
    let j<-layClean.free mask owner (turns mask) (aDN h%(mask+1)) (aDN h)
    pure (owner.setIfInBounds j (some k),k+1)) (some (aEt (mask+1) none,0)) hs.toList=some (owner,hs.size):=h1
 rw[qf];rfl
end ST
namespace ST
open PySem PySem.SetTable
def D4 (mask:Nat)(owner:Array (Option Nat)):List (Nat×Nat):=(aBy<|mask+1).filterMap λj=>(owner.getD j none).map (j,·)
def Q3 {mask:Nat}{owner:Array (Option Nat)}(hs:owner.size=mask+1){j i:Nat}:(j,i)∈D4 mask owner↔owner[j]?=some (some i):=by
 unfold D4;rw[aBR];constructor
 ·rintro⟨l,hl,e⟩;have ig:l<owner.size:=by rw[hs];exact aCr.mp hl
  have eg:owner.getD l none=owner[l]:=by simp[aFf,ig]
  rw[eg,aDd]at e;obtain⟨i',e1,e2⟩:=e;cases e2;rw[aAH ig,e1]
 ·intro e;obtain⟨hl,e1⟩:=aBZ.mp e;have eg:owner.getD j none=owner[j]:=by simp[aFf,hl]
  exact⟨j,aCr.mpr (by lia),by rw[eg,e1];rfl⟩
def yR (mask:Nat)(owner:Array (Option Nat)):((D4 mask owner).map (·.1)).Pairwise (· <·):=by unfold D4;rw[aBg];have:(aBy<|mask+1).Pairwise (· <·):=List.pairwise_lt_range;refine List.Pairwise.filterMap _ (R:=(· <·)) ?_ this;intro a a' ao b hb b' ja;rw[aDd]at hb ja;obtain⟨_,_,rfl⟩:=hb;obtain⟨_,_,rfl⟩:=ja;exact ao
def LC {mask finger moves:Nat}{led plain:Bool}(F:lK (mask+1))(es:Array (Int×Value))(hl:es.size<=mask):
  ∃t' order,laid mask finger moves led plain (es.map (·.1))=some (t',order)/\(order.filterMap (es[·]?)).size=es.size/\(order.filterMap (es[·]?)).toList.Perm es.toList/\SOk t' (order.filterMap (es[·]?)).toList/\
   t'.mask=mask/\t'.dummies=#[]/\t'.led=led/\t'.plain=plain/\t'.moves=moves:=by
 obtain⟨owner,h1,L⟩:=yP F (es.map (·.1)) (by simpa using hl);have hk:(es.map (·.1)).size=es.size:=by simp
 rw[hk]at L;refine⟨{mask,place:=((D4 mask owner).map (·.1)).toArray,dummies:=#[],finger,led,moves,plain},((D4 mask owner).map (·.2)).toArray,?_,?_⟩
 ·unfold laid;rw[h1];rfl
 have nd1:(D4 mask owner).Nodup:=by have:=yR mask owner;rw[aBg]at this;exact aBY.mpr (this.imp λ{a b} h e=>by subst e;exact aAX _ h)
 have ndo:((D4 mask owner).map (·.2)).Nodup:=by rw[aBY,aBg];refine List.Pairwise.imp_of_mem (R:=(· ≠·)) ?_ (aBY.mp nd1);rintro⟨j,i⟩ ⟨j',i'⟩ ha hb ah e;dsimp only at e;subst e;have:=L.inj j j' i ((Q3 L.size).mp ha) ((Q3 L.size).mp hb);subst this;exact ah rfl
 have po:((D4 mask owner).map (·.2)).Perm (aBy es.size):=by
  rw[aCa ndo List.nodup_range];intro i;rw[aCr,aAi];constructor
  ·rintro⟨⟨j,i'⟩,h,rfl⟩;exact L.lt _ _ ((Q3 L.size).mp h)
  ·intro hi;obtain⟨j,hj⟩:=L.sur i hi;exact⟨(j,i),(Q3 L.size).mpr hj,rfl⟩
 have ee:(((D4 mask owner).map (·.2)).toArray.filterMap (es[·]?)).toList=(D4 mask owner).filterMap (λx=>es[x.2]?):=by rw[Array.toList_filterMap,aDf];rfl
 have pe:((D4 mask owner).filterMap (λx=>es[x.2]?)).Perm es.toList:=by
  have h2:(D4 mask owner).filterMap (λx=>es[x.2]?)=((D4 mask owner).map (·.2)).filterMap (λi=>es[i]?):=by rw[aDf];rfl
  rw[h2];refine(po.filterMap _).trans (List.Perm.of_eq ?_);apply aDU;intro i;have:(aBy es.size).filterMap (λi=>es[i]?)=es.toList:=by
   have q:∀l:List (Int×Value),(aBy l.length).filterMap (λi=>l[i]?)=l:=λl=>by
    induction l with
    |nil=>rfl
    |cons a l ih=>
     rw[aAu,aFw,aCv];simp only[aCU];rw[aDf];have:((λi=>(a::l)[i]?)∘Nat.succ)=λi=>l[i]?:=by funext i;simp
     rw[this,ih]
   have:=q es.toList;simpa using this
  rw[this]
 have zp:∀l:List (Nat×Nat),(∀x∈l,x.2<es.size)->(l.map (·.1)).zip (l.filterMap<|λx=>es[x.2]?)=l.filterMap (λx=>es[x.2]?.map (x.1,·))/\(l.filterMap<|λx=>es[x.2]?).length=l.length:=λl=>by
  induction l with
  |nil=>intro _;exact⟨rfl,rfl⟩
  |cons x l ih=>intro h;obtain⟨i1,i2⟩:=ih (λy hy=>h y (aAe _ hy));have hx:=h x (by simp);have e:es[x.2]?=some es[x.2]:=aAH hx;rw[aAv,aCv,e];dsimp only;rw[aCv,e];dsimp only[Option.map_some];rw[aBC,i1];exact⟨rfl,by simp[i2]⟩
 obtain⟨z1,z2⟩:=zp (D4 mask owner) (λx hx=>L.lt x.1 x.2 ((Q3 L.size).mp hx));have hsz:(D4 mask owner).length=es.size:=by have:=po.length_eq;simpa using this
 rw[ee];refine⟨by rw[<-aAU,ee,z2,hsz],pe,⟨⟨?_,λj hj=>?_,rfl⟩,F,?_,?_,λe he=>?_⟩,rfl,rfl,rfl,rfl,rfl⟩
 ·intro i k hi hk hik;have:=aCe.mp (yR mask owner) i k (by simpa using hi) (by simpa using hk) hik;simpa using this
 ·have uo:j∈(D4 mask owner).map (·.1):=by simpa using hj
  obtain⟨⟨j',i⟩,h,rfl⟩:=aAi.mp uo;have:=(aBZ.mp<|(Q3 L.size).mp h).1;rw[L.size]at this;show j'<=mask
  lia
 ·rw[z2];simp
 ·simp only[aAm,aAl,hsz];exact hl
 ·unfold vL at he;dsimp only at he;rw[z1,aBR]at he;obtain⟨⟨j,i⟩,h,e1⟩:=he;rw[aDd]at e1;obtain⟨⟨hh,v⟩,e2,rfl⟩:=e1;have ho:=(Q3 L.size).mp h;have:=L.reach j i hh ho (by rw[aAA,Array.getElem?_map,e2];rfl);refine this.mono λl ⟨i',fg⟩=>?_;show l∈(D4 mask owner).map (·.1);exact aAi.mpr ⟨(l,i'),(Q3 L.size).mpr fg,rfl⟩
end ST
namespace DL
open PySem PySem.Spec L2
open PyProof.Rows hiding St
variable [Tabs]
mutual
inductive HV (h:Heap):Value->D->Prop
 |int (i:Int) (t:Tok):HV h (.int i t) (.int i)
 |tup {a:Addr} {items:Array Value} {ds:List D} (p:IsTup h a items) (r:HVs h items.toList ds):HV h (.ref a) (.tup ds)
inductive HVs (h:Heap):List Value->List D->Prop
 |nil:HVs h [] []
 |cons {v:Value} {d:D} {vs:List Value} {ds:List D} (r:HV h v d) (t:HVs h vs ds):HVs h (v::vs) (d::ds)
end
mutual
def mJ:D->Bool
 |.int _=>true
 |.tup xs=>eS xs
 |_=>false
def eS:List D->Bool
 |[]=>true
 |x::xs=>mJ x&&eS xs
end
theorem fJ:∀xs:List D,uC xs=xs.map n8
 |[]=>rfl
 |x::xs=>by rw[uC,fJ xs];rfl
section
mutual
theorem HV.keeps (k:∀b o,h.get? b=some o->o.cls=.type "tuple"->h'.get? b=some o):∀{v:Value} {d:D},HV h v d->HV h' v d
 |_,_,.int i t=>.int i t
 |_,_,.tup p r=>.tup (by obtain⟨o,e,c,n,d⟩:=p;exact⟨o,k _ _ e c,c,n,d⟩) (HVs.keeps k r)
theorem HVs.keeps (k:∀b o,h.get? b=some o->o.cls=.type "tuple"->h'.get? b=some o):∀{v:List Value} {d:List D},HVs h v d->HVs h' v d
 |_,_,.nil=>.nil
 |_,_,.cons r t=>.cons (HV.keeps k r) (HVs.keeps k t)
end
mutual
theorem HV.inj:∀{v:Value} {d d':D},HV h v d->HV h v d'->d=d'
 |_,_,_,.int i t,.int _ _=>rfl
 |_,_,_,.tup p r,.tup p' r'=>by obtain⟨o,e,c,n,dd⟩:=p;obtain⟨o',e',c',n',yr⟩:=p';rw[e]at e';cases e';rw[dd]at yr;injection yr with q _;subst q;rw[HVs.inj r r']
theorem HVs.inj:∀{v:List Value} {d d':List D},HVs h v d->HVs h v d'->d=d'
 |_,_,_,.nil,.nil=>rfl
 |_,_,_,.cons r t,.cons r' t'=>by rw[HV.inj r r',HVs.inj t t']
end
theorem HVs.length:∀{v:List Value} {d:List D},HVs h v d->v.length=d.length
 |_,_,.nil=>rfl
 |_,_,.cons _ t=>by simp[HVs.length t]
end
section
variable{prog:Program} {w:World}
def PH (prog:Program)(w:World)(h:Heap)(v:Value)(d:D):Prop:=∀(A:Around) (E:A3) (s:Shared) (Q:Int->Shared->Prop),s.heap=h->A.units+8*B7 d<cLine->(∀tk,s.toks<=tk->Q (n8 d) {s with toks:=tk})->wpAny (model prog w) A (pyHash v) Q E s
mutual
theorem VR:∀{v:Value} {d:D},HV h v d->PH prog w h v d
 |_,_,.int i t=>λA E s Q hs hu q=>by exact(intKind prog w).pyHash (k:=i) (intKind_is _ _ _ _) (q _<|Nat.le_succ _)
 |_,_,.tup (a:=a) (items:=items) (ds:=ds) p r=>λA E s Q hs hu q=>by
  have fs:=MT r;subst hs;obtain⟨o,ho,hc,n,hd⟩:=p;have hT:s.TypeIs (.ref a) "tuple":=⟨o,ho,hc⟩;have hu0:A.units<cLine:=by lia
  rw[B7]at hu;unfold pyHash;first|unfold pyHashByItsType|skip
  first|refine aAa (wpAny_cRoomFor_or (.inr hu0) ?_)|skip
  refine aAa (aBw hT PySem.F.slot_tuple_hash.lookup ?_);show wpAny _ _ (if(some (aGd "tuple.__hash__")==some Value.none)=true then _ else _) Q E s;rw[if_neg (by rw[aFp];exact aAT)];refine aAa (aBw hT PySem.F.slot_tuple_hash.lookup ?_);show wpAny _ _ (callSpecialIfBoundUnlessNone? (.ref a) "__hash__" _>>=_) Q E s;refine aAa (aDj hT PySem.F.slot_tuple_hash<|aBv PySem.F.slot_tuple_hash hT PySem.F.entry_tuple_hash ?_ (PySem.F.args_tuple_hash_1 _));show wpAny _ _ (aDt (.ref a)>>=_) _ _ s;refine aAa (wpAny_tupleItemsOf ho hd ?_);refine aAa ?_;rw[<-aCm];refine aBX _
   (λrest (b:Array Int) s'=>∃done left tk,ds=done++left/\Paired (PH prog w s.heap) rest left/\b.toList=done.map n8/\s.toks<=tk/\s'={s with toks:=tk})
   _ ?_ ?_ _ _ ⟨[],ds,s.toks,rfl,fs,rfl,aAg _,rfl⟩
  ·rintro x rest b s' ⟨done,left,tk,e1,hl,hb,vt,rfl⟩;cases hl with
   |@cons _ d _ left' h1 ig=>
    refine aAa (h1 _ _ _ _ rfl ?_ λxo htk'=>?_)
    ·have:B7 d<=B8 ds:=by rw[e1];exact tW (j:=done.length) (by simp)
     rw[t7];lia
    first
     |exact aAb ⟨done++[d],left',xo,by simp[e1],ig,by simp[hb],by(have:tk<=xo:=htk');lia,rfl⟩
     |exact aAa (aAb (aAb ⟨done++[d],left',xo,by simp[e1],ig,by simp[hb],by(have:tk<=xo:=htk';lia),rfl⟩))
  ·rintro b s' ⟨done,left,tk,e1,hl,hb,vt,rfl⟩;cases hl;rw[aCg]at e1;subst e1;show wpAny _ _ (retInt<|aAL b.toList) _ _ _;rw[hb];refine wpAny_ret_mkInt ?_;show wpAny _ _ (if(decide (-(2:Int)^63<=aAL (ds.map n8))&&decide (aAL (ds.map n8)<2^63))=true then _ else _) Q E _;have q':=q (tk+1) (by lia);rw[n8,fJ]at q';unfold reduceHash at q';by_cases hr:(decide (-(2:Int)^63<=aAL (ds.map n8))&&decide (aAL (ds.map n8)<2^63))=true
   ·rw[if_pos hr];rw[if_pos hr]at q';exact aAb q'
   ·rw[if_neg hr];rw[if_neg hr]at q';exact aAa (aDr<|aAb q')
theorem MT:∀{v:List Value} {d:List D},HVs h v d->Paired (PH prog w h) v d
 |_,_,.nil=>.nil
 |_,_,.cons r t=>.cons (VR r) (MT t)
end
mutual
theorem rD:∀{v u:Value} {d e:D} {A:Around},HV s.heap v d->HV s.heap u e->A.units+B7 d<cLine->SeqAt.EqAt A s v u (u6 d e)
 |_,_,_,_,A,.int i t,.int j t',_=>by simp only[u6];exact aEJ _ _ _ _
 |_,_,_,_,A,.int i t,.tup p r,hu=>by simp only[u6];exact aFN _ _ p (by lia)
 |_,_,_,_,A,.tup p r,.int j t',hu=>by simp only[u6];exact aFO _ _ p (by lia)
 |_,_,_,_,A,.tup (a:=a) (ds:=ds) p r,.tup (a:=a') (ds:=au) p' r',hu=>by
  by_cases e:a=a'
  ·subst e;have:=HV.inj (.tup p r) (.tup p' r');rw[this,P8];exact aDL _
  ·simp only[u6];rw[B7]at hu;exact aEL e (kE (by simpa using p) (by simpa using p') r.length r'.length (by lia) (LY r r' (by rw[t7];lia))).1
theorem LY:∀{vs us:List Value} {ds es:List D} {A:Around},HVs s.heap vs ds->HVs s.heap us es->A.in1.units+B8 ds<cLine->mC A s vs us ds es
 |_,_,_,_,A,.nil,_,_=>λj u w h1 h2=>by simp at h1
 |_,_,_,_,A,.cons r t,.nil,_=>λj u w h1 h2=>by simp at h2
 |_,_,_,_,A,.cons (d:=d) (ds:=ds) r t,.cons (d:=d') (ds:=au) r' t',hu=>λj u w h1 h2=>by
  rw[B8]at hu;match j,h1,h2 with
  |0,h1,h2=>simp only[aCU,aGi]at h1 h2;subst h1 h2;exact rD r r' (by lia)
  |j+1,h1,h2=>simp only[aCV]at h1 h2;exact LY t t' (by lia) j u w h1 h2
end
mutual
theorem bH:∀{d e:D},mJ d=true->mJ e=true->u6 d e=true->d=e
 |.int i,.int j,_,_,h=>by simp[u6]at h;rw[h]
 |.tup xs,.tup ys,h1,h2,h=>by rw[mJ]at h1 h2;rw[u6]at h;rw[xR h1 h2 h]
 |.int _,.tup _,_,_,h=>by simp[u6]at h
 |.tup _,.int _,_,_,h=>by simp[u6]at h
 |.non,_,h,_,_=>by simp[mJ]at h
 |.bl _,_,h,_,_=>by simp[mJ]at h
 |.str _,_,h,_,_=>by simp[mJ]at h
 |.lst _,_,h,_,_=>by simp[mJ]at h
 |_,.non,_,h,_=>by simp[mJ]at h
 |_,.bl _,_,h,_=>by simp[mJ]at h
 |_,.str _,_,h,_=>by simp[mJ]at h
 |_,.lst _,_,h,_=>by simp[mJ]at h
theorem xR:∀{d e:List D},eS d=true->eS e=true->V9 d e=true->d=e
 |[],[],_,_,_=>rfl
 |[],_::_,_,_,h=>by simp[V9]at h
 |_::_,[],_,_,h=>by simp[V9]at h
 |x::xs,y::ys,h1,h2,h=>by rw[eS,aAI]at h1 h2;rw[V9,aAI]at h;rw[bH h1.1 h2.1 h.1,xR h1.2 h2.2 h.2]
end
mutual
theorem HV.ok:∀{v:Value} {d:D},HV h v d->mJ d=true
 |_,_,.int i t=>rfl
 |_,_,.tup p r=>by rw[mJ];exact HVs.ok r
theorem HVs.ok:∀{v:List Value} {d:List D},HVs h v d->eS d=true
 |_,_,.nil=>rfl
 |_,_,.cons r t=>by rw[eS,HV.ok r,HVs.ok t];rfl
end
mutual
theorem iR:∀{v:Value} {d:D} (k:Nat),HV h v d->B7 d<k->∀(M:Model) (A:Around) (E:A3) (s:Shared) (Q:uX),s.heap=h->Q true s->wpAny M A (eqIsQuiet k v) Q E s
 |_,_,k,.int i t,_=>λM A E s Q hs q=>by unfold eqIsQuiet;exact aAb q
 |_,_,k,.tup (a:=a) (items:=items) (ds:=ds) p r,hk=>λM A E s Q hs q=>by
  subst hs;obtain⟨o,ho,hc,n,hd⟩:=p;have hT:s.TypeIs (.ref a) "tuple":=⟨o,ho,hc⟩;match k,hk with
  |k+1,hk=>
   rw[B7]at hk;unfold eqIsQuiet;refine aAa (aBw hT PySem.F.slot_tuple_eq.lookup ?_);show wpAny _ _ (isInstance (.ref a) (.type "tuple")>>=_) _ _ s;refine aAa (aDB hT isSubtype_tuple_tuple ?_);simp only[aCW,aAs,if_false];refine aAa (aBp ho hd ?_);refine aAa ?_;show wpAny _ _ (forIn items _ _) _ _ s;rw[<-aCm];refine aBX _ (λrest r s'=>r.1=none/\s'=s/\∃au,HVs s.heap rest au/\B8 au<k) _ ?_ ?_ _ _ ⟨rfl,rfl,ds,r,by lia⟩
   ·rintro v rest r s' ⟨hr,rfl,au,hv,hdp⟩;cases hv with
    |@cons _ d _ jo hv ht=>rw[B8]at hdp;refine aAa (iR k hv (by lia) M A E s' _ rfl ?_);simp only[aCW,aAs,if_false];exact aAb ⟨rfl,rfl,jo,ht,by lia⟩
   ·rintro⟨r1,r2⟩ s' ⟨hr,rfl,_⟩;simp only at hr;subst hr;exact aAb q
end
mutual
theorem fV:∀{v:Value} {d:D} (k:Nat),HV h v d->B7 d<k->∀(M:Model) (A:Around) (E:A3) (s:Shared) (Q:uX),s.heap=h->Q false s->wpAny M A (ofAClassStatement k v) Q E s
 |_,_,k,.int i t,_=>λM A E s Q hs q=>by unfold ofAClassStatement;exact aAb q
 |_,_,k,.tup (a:=a) (items:=items) (ds:=ds) p r,hk=>λM A E s Q hs q=>by
  subst hs;obtain⟨o,ho,hc,n,hd⟩:=p;have hT:s.TypeIs (.ref a) "tuple":=⟨o,ho,hc⟩;match k,hk with
  |k+1,hk=>
   rw[B7]at hk;unfold ofAClassStatement;refine aAa (aDG hT ?_);dsimp only;rw[if_pos (by decide)];refine aAa (aAb ?_);simp only[aCW,aAs,if_false];refine aAa (aBp ho hd ?_);dsimp only;refine aAa ?_;show wpAny _ _ (forIn items _ _) _ _ s;rw[<-aCm];refine aBX _ (λrest r s'=>r.1=none/\s'=s/\∃au,HVs s.heap rest au/\B8 au<k) _ ?_ ?_ _ _ ⟨rfl,rfl,ds,r,by lia⟩
   ·rintro v rest r s' ⟨hr,rfl,au,hv,hdp⟩;cases hv with
    |@cons _ d _ jo hv ht=>rw[B8]at hdp;refine aAa (fV k hv (by lia) M A E s' _ rfl ?_);simp only[aAs,if_false];exact aAb ⟨rfl,rfl,jo,ht,by lia⟩
   ·rintro⟨r1,r2⟩ s' ⟨hr,rfl,_⟩;simp only at hr;subst hr;exact aAb q
end
mutual
theorem nI:∀{v:Value} {d:D} (k:Nat),HV h v d->B7 d<k->∀(M:Model) (A:Around) (E:A3) (s:Shared) (Q:uX),s.heap=h->Q true s->wpAny M A (hashByValue k v) Q E s
 |_,_,k,.int i t,_=>λM A E s Q hs q=>by unfold hashByValue;exact aAb q
 |_,_,k,.tup (a:=a) (items:=items) (ds:=ds) p r,hk=>λM A E s Q hs q=>by
  subst hs;obtain⟨o,ho,hc,n,hd⟩:=p;have hT:s.TypeIs (.ref a) "tuple":=⟨o,ho,hc⟩;match k,hk with
  |k+1,hk=>
   rw[B7]at hk;unfold hashByValue;refine aAa (aBw hT PySem.F.slot_tuple_hash.lookup ?_);dsimp only;refine aAa (aBp ho hd ?_);refine aAa ?_;show wpAny _ _ (forIn items _ _) _ _ s;rw[<-aCm];refine aBX _ (λrest r s'=>r.1=none/\s'=s/\∃au,HVs s.heap rest au/\B8 au<k) _ ?_ ?_ _ _ ⟨rfl,rfl,ds,r,by lia⟩
   ·rintro v rest r s' ⟨hr,rfl,au,hv,hdp⟩;cases hv with
    |@cons _ d _ jo hv ht=>rw[B8]at hdp;refine aAa (nI k hv (by lia) M A E s' _ rfl ?_);simp only[aCW,aAs,if_false];exact aAb ⟨rfl,rfl,jo,ht,by lia⟩
   ·rintro⟨r1,r2⟩ s' ⟨hr,rfl,_⟩;simp only at hr;subst hr;exact aAb q
end
def jL {α:Type}{M:Model}{A:Around}{E:A3}{s:Shared}{Q:α->Shared->Prop}{c:Prop}[Decidable c]{a b:Sem α}(h1:c->wpAny M A a Q E s)(h2:¬c->wpAny M A b Q E s):wpAny M A (if c then a else b) Q E s:=by
 by_cases h:c
 ·rw[if_pos h];exact h1 h
 ·rw[if_neg h];exact h2 h
def WD {M:Model}{A:Around}{E:A3}{s:Shared}{Q:uX}{x:Value}{d:D}(hx:HV s.heap x d)(hd:B7 d<8)(ys:List Value)(hy:∀y∈ys,∃e,HV s.heap y e/\B7 e<8)(q:Q false s):wpAny M A (searchCouldBeSeen x ys) Q E s:=by
 unfold searchCouldBeSeen;refine aAa ?_;refine aBX _ (λrest r s'=>r.1=none/\s'=s/\∀y∈rest,y∈ys) _ ?_ ?_ _ _ ⟨rfl,rfl,λy h=>h⟩
 ·rintro y rest r s' ⟨hr,rfl,hm⟩;obtain⟨e,he,hde⟩:=hy y (hm y (by simp));dsimp only;refine jL (λ_=>?_) (λ_=>?_)
  ·exact aAb ⟨rfl,rfl,λz hz=>hm z (aAe _ hz)⟩
  ·refine aAa (iR 8 hx hd M A E s' _ rfl ?_);simp only[aCW,aAs,if_false];refine aAa (iR 8 he hde M A E s' _ rfl ?_);simp only[aCW,aAs,if_false];refine aAa (fV 8 hx hd M A E s' _ rfl ?_);simp only[aAs,if_false];refine aAa (fV 8 he hde M A E s' _ rfl ?_);simp only[aAs,if_false];exact aAb ⟨rfl,rfl,λz hz=>hm z (aAe _ hz)⟩
 ·rintro⟨r1,r2⟩ s' ⟨hr,rfl,_⟩;simp only at hr;subst hr;exact aAb q
end
end DL
namespace DL
open PySem PySem.Spec L2
open PyProof.Rows hiding St
variable [Tabs]
def EV (h:Heap)(e:Int×Value)(d:D):Prop:=HV h e.2 d/\e.1=n8 d
theorem A4 {α β:Type}{F:α->β->Prop}:∀{l:List α} {m:List β} {i:Nat} {a:α},Paired F l m->l[i]?=some a->∃b,m[i]?=some b/\F a b
 |_,_,_,_,.nil,h=>by simp at h
 |_,_,0,_,.cons r _,h=>by simp at h;subst h;exact⟨_,rfl,r⟩
 |_,_,i+1,a,.cons _ t,h=>by obtain⟨b,h1,h2⟩:=A4 (i:=i) t (by simpa using h);exact⟨b,by simpa using h1,h2⟩
theorem dA {α β:Type}{F:α->β->Prop}:∀{l:List α} {m:List β} {i:Nat} {b:β},Paired F l m->m[i]?=some b->∃a,l[i]?=some a/\F a b
 |_,_,_,_,.nil,h=>by simp at h
 |_,_,0,_,.cons r _,h=>by simp at h;subst h;exact⟨_,rfl,r⟩
 |_,_,i+1,a,.cons _ t,h=>by obtain⟨b,h1,h2⟩:=dA (i:=i) t (by simpa using h);exact⟨b,by simpa using h1,h2⟩
theorem fT {α β:Type}{F:α->β->Prop}:∀{l:List α} {m:List β},Paired F l m->l.length=m.length
 |_,_,.nil=>rfl
 |_,_,.cons _ t=>by simp[fT t]
section
variable{es:Array (Int×Value)}
def gZ (K:ST.SOk t es.toList):t.fits es.size=true:=by
 have h1:=K.len;have h2:=K.room;have h3:=K.tab.nod;unfold aGe SetTable.fill;rw[h3];simp at h1⊢
 lia
theorem kQ (ho:s.heap.get? S=some o)(hd:o.data=.set es ep t)(K:ST.SOk t es.toList)(hodd:t.mask%2=1)(P:Paired (EV s.heap) es.toList ds)(hx:HV s.heap (.ref x) (.tup xs))(hdx:B7 (.tup xs)<8)(xl:∀e∈ds,B7 e<8)(hT:∀e∈ds,∃ys,e=.tup ys)
  (hu:A.units+16<cLine) (hf:ST.T4 t (n8 (.tup xs)) n0) {Q:SetFound->Shared->Prop} (q1:D.tup xs∈ds->Q (.there none) s) (q2:D.tup xs∉ds->Q (.free (ST.m9 t.mask (n8 (.tup xs)) n0).j false) s):
  ∀(fuel n:Nat) (uc:Option SetTable.Probe),uc.getD (t.probeStart (n8 (.tup xs)))=ST.m9 t.mask (n8 (.tup xs)) n->n<=n0->n0-n<fuel->
   (∀m<n,∀(i:Nat),t.place[i]?=some (ST.m9 t.mask (n8 (.tup xs)) m).j->ds[i]?≠some (.tup xs))->wpAny (model prog w) A (setSearchFrom S (.ref x) (n8 (.tup xs)) true fuel uc) Q E s
 |0,n,uc,_,_,h,_=>by lia
 |fuel+1,n,uc,gr,hn,hfu,hno=>by
  unfold setSearchFrom;refine aAa (aCc ho hd (gZ K) ?_);dsimp only;refine jL (λz=>?_) (λ_=>?_)
  ·unfold SetTable.gaveWay at z;simp at z;lia
  rw[gr];obtain⟨n',a1,a2,a3,a4⟩:=ST.OL K.tab (λi=>(es[i]?.map (·.1)).getD 0) (n8<|.tup xs) hf n hn;generalize hg:t.probe _ (n8<|.tup xs) (ST.m9 t.mask (n8<|.tup xs) n)=pm;rcases a4 with⟨en,e⟩|⟨ao,i,hi,hh,e⟩
  ·have ep:pm=_:=hg.symm.trans e;rw[ep];dsimp only;refine aAb (q2 λhm=>?_);obtain⟨i,hi⟩:=aDp.mp hm;obtain⟨⟨hv,v⟩,he,h1,h2⟩:=dA P hi;obtain⟨j,hj,qt⟩:=ST.QJ K.len he;dsimp only at h2;have hr:=K.reach _ qt;dsimp only at hr;rw[h2]at hr;obtain⟨m,hm,em⟩:=ST.Reach.before hf (by rw[<-aAA]at hj;exact aAt hj) hr;by_cases z:m<n
   ·exact hno m z i (by rw[em];exact hj) hi
   ·obtain⟨i',fg,ah⟩:=a3 m (by lia) (by lia);have:i'=i:=by have q1:=ST.K1 K.tab fg;have q2:=ST.K1 K.tab hj;rw[em]at q1;rw[q1]at q2;injection q2
    subst this;refine ah ?_;show(es[i']?.map (·.1)).getD 0=_;rw[<-aAA,he];exact h2
  ·have ep:pm=_:=hg.symm.trans e;rw[ep];dsimp only;have hidx:i<es.size:=by
    have:=(aBZ.mp hi).1;have h1:=K.len;simp at h1
    lia
   have hes:es[i]?=some es[i]:=aAH hidx;obtain⟨di,hdi,hv,hhash⟩:=A4 P (show es.toList[i]?=some es[i]by rw[aAA];exact hes);obtain⟨ys,rfl⟩:=hT di (aAt hdi);have go:wpAny (model prog w) A (do
     let some (_,y):=es[i]?|unsupported "internal:set-entry"
     let equal<-holding [y] (eqBool y<|.ref x)
     let(es',_,t')<-setState S
     if true&&equal then return .there none
     let some same:=t'.sameMemory t.moves t.mask|unsupported "set.changed-during-lookup:is-the-new-block-at-the-old-address"
     let UZ<-match(if same then t'.slot (ST.m9 t.mask (n8<|.tup xs) n').j else .empty)with
      |.live i'=>match es'[i']? with
       |some (_,y')=>do pure (if<-isSame y' y then some i' else none)
       |none=>pure none
      |_=>pure none
     match UZ with
     |none=>rule "set.search.anew";setSearchFrom S (.ref x) (n8<|.tup xs) true fuel none
     |some i'=>if equal then return .there (some i')else setSearchFrom S (.ref x) (n8<|.tup xs) true fuel (some<|ST.m9 t.mask (n8<|.tup xs)<|n'+1)) Q E s:=by
    rw[hes];generalize he:es[i]=en at*
    obtain⟨hn,y⟩:=en;dsimp only at hv hhash⊢;refine aAa (aAK (rD hv hx (by have:=xl _ (aAt hdi);lia) prog w E _ ?_));refine aAa (aCc ho hd (gZ K) ?_);dsimp only;cases hq:u6 (.tup ys) (.tup xs)with
    |true=>rw[if_pos (show(true&&true)=true from rfl)];have:D.tup ys=.tup xs:=bH hv.ok hx.ok hq;rw[this]at hdi;exact aAb (q1<|aAt hdi)
    |false=>
     rw[if_neg (by simp)];have hsm:t.sameMemory t.moves t.mask=some true:=by unfold SetTable.sameMemory;rw[if_pos (by simp)]
     rw[hsm];dsimp only;rw[if_pos rfl,ST.K1 K.tab hi];dsimp only;rw[hes];dsimp only;cases hv with
     |tup p r=>
      refine aAa (wpAny_isSame_ref_self ?_);refine aAa (aAb ?_);rw[if_pos rfl];dsimp only;rw[if_neg (by simp)];refine kQ ho hd K hodd P hx hdx xl hT hu hf q1 q2 fuel (n'+1) _ rfl (by lia) (by lia) λm hm i2 yu hz=>?_;by_cases z:m<n
      ·exact hno m z i2 yu hz
      ·by_cases z2:m=n'
       ·subst z2;have:i2=i:=by have q1:=ST.K1 K.tab yu;have q2:=ST.K1 K.tab hi;rw[q1]at q2;injection q2
        subst this;rw[hdi]at hz;have:D.tup ys=.tup xs:=Option.some.inj hz;rw[this,P8]at hq;cases hq
       ·obtain⟨i',fg,ah⟩:=a3 m (by lia) (by lia);have:i'=i2:=by have q1:=ST.K1 K.tab fg;have q2:=ST.K1 K.tab yu;rw[q1]at q2;injection q2
        subst this;obtain⟨⟨h0,v0⟩,he0,hv0,hh0⟩:=dA P hz;refine ah ?_;show(es[i']?.map (·.1)).getD 0=_;rw[<-aAA,he0];exact hh0
   refine jL (λ_=>?_) (λ_=>go);refine aAa (WD hx hdx _ (λy hy=>?_) ?_)
   ·obtain⟨e',xn,rfl⟩:=aAi.mp hy;rw[Array.toList_filter]at xn;have hm:=(aDk.mp xn).1;obtain⟨k,hk⟩:=aDp.mp hm;obtain⟨dk,hdk,hvk,_⟩:=A4 P hk;exact⟨dk,hvk,xl _ (aAt hdk)⟩
   ·rw[if_neg (by simp)];exact go
def tN (m n:Nat):Prop:=(m=7/\n<=4)\/(m=31/\n<=18)\/(m=127/\n<=76)
def tN.odd (h:tN m n):m%2=1:=by rcases h with⟨rfl,_⟩|⟨rfl,_⟩|⟨rfl,_⟩<;>rfl
def Keeps (h0 h:Heap):Prop:=∀b o,h0.get? b=some o->h.get? b=some o
structure SetAt (L:Bool)(h0 h:Heap)(S:Addr)(ds:List D):Prop where
 ex:∃(o:Obj) (es:Array (Int×Value)) (ep:Nat) (t:SetTable),h.get? S=some o/\o.cls=.type "set"/\o.dict=none/\o.slots=#[]/\o.data=.set es ep t/\ST.SOk t es.toList/\tN t.mask es.size/\Paired (EV h0) es.toList ds/\t.led=L/\t.plain=true
 nd:ds.Nodup
def O7 {α β:Type}{F:α->β->Prop}:∀{l l':List α} {m:List β},l'.Perm l->Paired F l m->∃m',m'.Perm m/\Paired F l' m':=λ{l l' m} p=>by
 induction p generalizing m with
 |nil=>intro h;exact⟨m,.refl _,h⟩
 |cons x _ ih=>
  intro h;cases h with
  |cons r t=>obtain⟨m',p',q'⟩:=ih t;exact⟨_::m',p'.cons _,.cons r q'⟩
 |swap x y l=>
  intro h;cases h with
  |cons r t=>
   cases t with
   |cons r' t'=>exact⟨_,.swap _ _ _,.cons r' (.cons r t')⟩
 |trans _ _ ih1 ih2=>intro h;obtain⟨m1,p1,q1⟩:=ih2 h;obtain⟨m2,p2,q2⟩:=ih1 q1;exact⟨m2,p2.trans p1,q2⟩
theorem cK {α β:Type}{F G:α->β->Prop}(i:∀a b,F a b->G a b):∀{l:List α} {m:List β},Paired F l m->Paired G l m
 |_,_,.nil=>.nil
 |_,_,.cons r t=>.cons (i _ _ r) (cK i t)
theorem nW {α β:Type}{F:α->β->Prop}{a:α}{b:β}(r:F a b):∀{l:List α} {m:List β} (p:Nat),Paired F l m->Paired F (l.take p++a::l.drop p) (m.take p++b::m.drop p)
 |_,_,0,h=>.cons r h
 |_,_,p+1,.nil=>.cons r .nil
 |_,_,p+1,.cons r' t=>.cons r' (nW r p t)
def KT {α:Type}(a:α)(l:List α)(p:Nat):(l.take p++a::l.drop p).Perm (a::l):=by have h:=List.perm_middle (a:=a) (l₁:=l.take p) (l₂:=l.drop p);rw[aFE]at h;exact h
def xV {α β:Type}{M:Model}{Q:α->Shared->Prop}{c:Prop}[Decidable c]{a:Sem β}{k:β->Sem α}(b:β)(h1:∀Q':β->Shared->Prop,Q' b s->wpAny M A a Q' E s)(h:wpAny M A (k b) Q E s):wpAny M A (if c then a>>=k else pure b>>=k) Q E s:=
 jL (λ_=>aAa (h1 _ h)) (λ_=>aAa (aAb h))
def kO (h:Heap)(S:Addr)(f:Obj->Obj):Heap.SameBut S h (h.update S f):=⟨by simp[Heap.size_update],λb hb=>aAr _ _ (aBQ hb)⟩
def sG {h:Heap}{S:Addr}{o:Obj}{es es':Array (Int×Value)}{ep:Nat}{t t':SetTable}(ho:h.get? S=some o)(hd:o.data=.set es ep t):(h.update S (aEq es' t')).get? S=some {o with data:=.set es' (ep+1) t'}:=by
 have e:aEq es' t' o={o with data:=.set es' (ep+1) t'}:=by obtain⟨c,d,dt,sl⟩:=o;cases dt<;>simp at hd;obtain⟨rfl,rfl,rfl⟩:=hd;rfl
 rw[aAS _ ho (by rw[e];rfl),e]
def YZ {L:Bool}{h0:Heap}{Q:uX}(hS:SetAt L h0 s.heap S ds)(kp:Keeps h0 s.heap)(hx0:HV h0 (.ref x) (.tup xs))(hdx:B7 (.tup xs)<8)(xl:∀e∈ds,B7 e<8)(hT:∀e∈ds,∃ys,e=.tup ys)(hu:A.units+128<cLine)(hn:ds.length<76)
  (q1:D.tup xs∈ds->∀tk,s.toks<=tk->Q false {s with toks:=tk})
  (q2:D.tup xs∉ds->∀h' tk au,s.toks<=tk->Heap.SameBut S s.heap h'->SetAt L h0 h' S au->au.Perm (.tup xs::ds)->Q true {s with heap:=h',toks:=tk}):wpAny (model prog w) A (setAdd S (.ref x)) Q E s:=by
 obtain⟨⟨o,es,ep,t,ho,hc,yv,xp,hd,K,mk,P0,lp0⟩,nd⟩:=hS;have hx:HV s.heap (.ref x) (.tup xs):=hx0.keeps λb o e _=>kp b o e;have P:Paired (EV s.heap) es.toList ds:=cK (λe d r=>⟨r.1.keeps λb o e _=>kp b o e,r.2⟩) P0;have hsz:es.size=ds.length:=by have:=fT P;simpa using this
 unfold setAdd;refine aAK (aAa (VR hx A E s _ rfl (by lia) λtk vt=>?_));unfold setAddHashed setAddHashedIn;refine aAK (aAa<|aCc (s:={s with toks:=tk}) ho hd (gZ K) ?_);dsimp only;rw[show byScan (.ref x) es=false from rfl];simp only[aAs,if_false];obtain⟨n0,hf⟩:=ST.zC K.full K.room (n8<|.tup xs);refine aAa (kQ (s:={s with toks:=tk}) (n0:=n0) ho hd K mk.odd P hx hdx xl hT (by lia) hf (λhm=>?_) (λhm=>?_) 100000 0 none rfl (aBc _) ?_ (λm hm=>by lia))
 ·dsimp only;exact aAb (q1 hm tk vt)
 ·dsimp only;refine aAa (aCc (s:={s with toks:=tk}) ho hd (gZ K) ?_);dsimp only;refine xV true (λQ' q=>nI 8 hx hdx _ _ _ _ _ rfl q) ?_;rw[if_pos rfl];have ou:t.place.size+1<=t.mask:=by have:=K.len;simp at this;rcases mk with⟨m1,m2⟩|⟨m1,m2⟩|⟨m1,m2⟩<;>lia
  have K2:=ST.YH K (x:=.ref x) hf ou;have el:=ST.fH es (t.put (ST.m9 t.mask (n8<|.tup xs) n0).j).2 (n8 (.tup xs),aDv x);have lp:(t.put (ST.m9 t.mask (n8<|.tup xs) n0).j).1.led=L/\(t.put (ST.m9 t.mask (n8<|.tup xs) n0).j).1.plain=true:=lp0;have em:(t.put (ST.m9 t.mask (n8<|.tup xs) n0).j).1.mask=t.mask:=rfl;rw[<-el]at K2;have P2:Paired (EV h0) (aGl es (t.put (ST.m9 t.mask (n8<|.tup xs) n0).j).2 (n8 (.tup xs),aDv x)).toList (ds.take (t.put (ST.m9 t.mask (n8<|.tup xs) n0).j).2++.tup xs::ds.drop (t.put (ST.m9 t.mask (n8<|.tup xs) n0).j).2):=by rw[el];exact nW ⟨hx0,rfl⟩ _ P0
  have pm:=KT (D.tup xs) ds (t.put (ST.m9 t.mask (n8<|.tup xs) n0).j).2;generalize hds2:ds.take (t.put (ST.m9 t.mask (n8<|.tup xs) n0).j).2++.tup xs::ds.drop (t.put (ST.m9 t.mask (n8<|.tup xs) n0).j).2=jo at P2 pm;generalize hes2:aGl es (t.put (ST.m9 t.mask (n8<|.tup xs) n0).j).2 (n8 (.tup xs),aDv x)=qh at K2 P2⊢;generalize ht2:(t.put (ST.m9 t.mask (n8<|.tup xs) n0).j).1=t2 at K2 em lp⊢;have pf:jo.Nodup:=pm.nodup_iff.mpr (aAE.mpr ⟨hm,nd⟩);have sz2:qh.size=es.size+1:=by
   have h1:=fT P2;have h2:=pm.length_eq;simp at h1 h2
   lia
  have cp:qh.size<=sizeLine:=by rw[sz2,aFj];lia
  refine aAa (wpAny_storeSet_of (s:={s with toks:=tk}) ho hd ?_ cp);have jg:=sG (es':=qh) (t':=t2) ho hd;have sb2:=kO s.heap S (aEq qh t2);have hfill:t2.fill=qh.size:=by have h1:=K2.len;have h2:=K2.tab.nod;unfold SetTable.fill;rw[h2];simp at h1⊢;lia
  refine jL (λvv=>?_) (λvv=>?_)
  ·
   have qu:t2.fill*5>=t2.mask*3:=by
    have:t2.tooFull=true:=by simpa using vv
    simpa[aGq]using this
   rw[hfill,em,sz2]at qu;obtain⟨M,hM,hM1,hM2⟩:∃M,SetTable.sizeAbove (SetTable.grown<|es.size+1)=M+1/\ST.lK (M+1)/\tN M (es.size+1):=by
    rcases mk with⟨m1,m2⟩|⟨m1,m2⟩|⟨m1,m2⟩
    ·have:es.size=4:=by lia
     rw[this];exact⟨31,by decide,ST.WX,.inr (.inl ⟨rfl,by lia⟩)⟩
    ·have:es.size=18:=by lia
     rw[this];exact⟨127,by decide,ST.PC,.inr (.inr ⟨rfl,by lia⟩)⟩
    ·lia
   unfold setRelay;refine aAa (aAa<|aCc (s:={s with heap:=s.heap.update S (aEq qh t2),toks:=tk}) jg rfl (gZ K2) ?_);dsimp only;rw[hM];refine jL (λz=>?_) (λ_=>?_)
   ·exfalso;rcases hM2 with⟨m1,_⟩|⟨m1,_⟩|⟨m1,_⟩<;>(subst m1;exact absurd z (by rw[aFj];decide))
   obtain⟨t3,order,r1,r2,r3,r4,r5,r6,r7,r8,r9⟩:=ST.LC (finger:=t2.finger) (moves:=t2.movedTo M) (led:=t2.led) (plain:=t2.plain) hM1 qh (by rw[sz2];rcases hM2 with⟨m1,m2⟩|⟨m1,m2⟩|⟨m1,m2⟩<;>lia);have er:t2.relaid (qh.map (·.1)) (SetTable.grown<|es.size+1)=some (t3,order):=by unfold SetTable.relaid;rw[hM];exact r1
   rw[er];have hre:∀{Q':Array (Int×Value)×SetTable->Shared->Prop} {s':Shared},Q' (order.filterMap (qh[·]?),t3) s'->wpAny (model prog w) A (do
     let es':=order.filterMap (qh[·]?)
     if es'.size !=qh.size then unsupported "internal:set-table-lost-an-element"
     pure (es',t3)) Q' E s':=λ{Q' s'} qq=>by
    dsimp only;rw[if_neg (by simp[r2])];exact aAb qq
   refine aAa (hre ?_);dsimp only;generalize hes3:order.filterMap (qh[·]?)=es3 at r2 r3 r4⊢;refine wpAny_storeSet_of (s:={s with heap:=s.heap.update S (aEq qh t2),toks:=tk}) jg rfl ?_ (by rw[r2];exact cp);refine aAb ?_;have ho3:=sG (es':=es3) (t':=t3) jg rfl;have sb3:=kO (s.heap.update S<|aEq qh t2) S (aEq es3 t3);obtain⟨ds3,p3,P5⟩:=O7 r3 P2;exact q2 hm _ tk ds3 vt (sb2.trans sb3) ⟨⟨_,es3,_,t3,ho3,hc,yv,xp,rfl,r4,by rw[r5,r2,sz2];exact hM2,P5,by rw[r7];exact lp.1,by rw[r8];exact lp.2⟩,p3.nodup_iff.mpr pf⟩ (p3.trans pm)
  ·refine aAb ?_;refine q2 hm _ tk jo vt sb2 ⟨⟨_,qh,_,t2,jg,hc,yv,xp,rfl,K2,?_,P2,lp⟩,pf⟩ pm;have qu:¬t2.fill*5>=t2.mask*3:=λz=>vv (by simp[aGq,z]);rw[hfill,em,sz2]at qu;rw[em,sz2];rcases mk with⟨m1,m2⟩|⟨m1,m2⟩|⟨m1,m2⟩
   ·exact .inl ⟨m1,by lia⟩
   ·exact .inr (.inl ⟨m1,by lia⟩)
   ·exact .inr (.inr ⟨m1,by lia⟩)
 ·have:=hf.1;have hm:t.mask<=127:=by rcases mk with⟨m1,_⟩|⟨m1,_⟩|⟨m1,_⟩<;>lia
  lia
end
section
variable{prog:Program} {w:World} {A:Around} {R:Result->Shared->Prop} {I:Addr} {fp wr:List Addr} {G:Array GenState->Array GenState->Prop} {n:Nat} {P:Nat->Value->Prop} {St:Nat->Shared->Prop} {h0:Heap}
def ZE (h0:Heap)(v:Value)(d:D):Prop:=∃a xs,v=.ref a/\d=.tup xs/\B7 d<8/\HV h0 v d
def MP {L:Bool}(W:WalksS prog w A.in1 I fp wr G n P St)(S:Addr)(ji:S∉fp)(hS0:h0.get? S=none)(hw0:∀b∈wr,h0.get? b=none)
  (val:Nat->D) (hval:∀i v,P i v->ZE h0 v (val i)) (kh:∀i<n,B7 (val i)<8/\∃ys,val i=.tup ys) {U:List D} (hU:∀i<n,val i∈U) (hb:U.length<=75) (hu:A.units+200<cLine):
  ∀(k i:Nat) (s:Shared),n-i=k->i<=n->St i s->Keeps h0 s.heap->(∃ds,SetAt L h0 s.heap S ds/\∀d,d∈ds↔∃j<i,val j=d)->
   (∀s',Moved (S::wr) G s s'->(∃ds,SetAt L h0 s'.heap S ds/\∀d,d∈ds↔∃j<n,val j=d)->R (.ok (.ret .none)) s')->
   codeAny (model prog w) A (.builtin "set.update.loop" ⟨[.ref S,.ref I],[]⟩) R s:=by
 have ur:S∉wr:=λh=>ji (W.sub _ h);have fu:∀b∈wr,b∈S::wr:=λb hb=>aAe _ hb;intro k;induction k with
 |zero=>
  intro i s hk hi gr hkp hS hR;have lh:i=n:=by omega
  subst lh;refine aBn F.entry_set_update_loop ?_;rw[aAQ F.plain_set_update_loop _];show wpAny _ A.in1 (pyNext (.ref I)>>=_) _ _ s;refine aAa (W.done s _ _ gr λs' hm=>?_);show wpAny _ A.in1 (ret Value.none) _ _ s';refine aAb (hR s' (hm.mono fu) ?_);obtain⟨ds,⟨⟨o,es,ep,t,ho,r⟩,nd⟩,jr⟩:=hS;exact⟨ds,⟨⟨o,es,ep,t,hm.heap S _ ur ho,r⟩,nd⟩,jr⟩
 |succ k ih=>
  intro i s hk hi gr hkp hS hR;have ao:i<n:=by omega
  refine aBn F.entry_set_update_loop ?_;rw[aAQ F.plain_set_update_loop _];show wpAny _ A.in1 (pyNext (.ref I)>>=_) _ _ s;refine aAa (W.item i s _ _ ao gr λv s' hP gu hm=>?_);obtain⟨ds,⟨⟨o,es,ep,t,ho,r⟩,nd⟩,jr⟩:=hS;have gc:SetAt L h0 s'.heap S ds:=⟨⟨o,es,ep,t,hm.heap S _ ur ho,r⟩,nd⟩;have kp':Keeps h0 s'.heap:=λb ob e=>hm.heap b ob (λz=>by rw[hw0 b z]at e;cases e) (hkp b ob e);obtain⟨a,xs,rfl,qd,hdp,hv⟩:=hval i v hP;rw[qd]at hdp hv;show wpAny _ A.in1 (holding [aDv a] (setAdd S<|.ref a)>>=_) _ _ s';have tups:∀e∈ds,B7 e<8/\∃ys,e=.tup ys:=λe he=>by obtain⟨j,hj,ej⟩:=(jr e).mp he;rw[<-ej];exact kh j (by omega)
  refine aAa (aAK (YZ gc kp' hv hdp (λe he=>(tups e he).1) (λe he=>(tups e he).2) (by rw[t7];omega) (by letI:DecidableEq D:=λa b=>aCX _;have:=ST.N2 (m:=U) nd (λd hd=>by obtain⟨j,hj,e⟩:=(jr d).mp hd;rw[<-e];exact hU j (by omega));omega) (λlh tk vt=>?_)<|λhni h' tk au vt hsb hS2 pm=>?_))
  ·
   refine aAb ⟨aBt F.plain_set_update_loop _,ih (i+1) _ (by omega) ao (W.frame _ s' _ _ gu vt λb hb o e=>e) kp' ⟨ds,gc,λd=>?_⟩ λs'' ic wc=>?_⟩
   ·rw[jr];constructor
    ·rintro⟨j,hj,e⟩;exact⟨j,by omega,e⟩
    ·rintro⟨j,hj,e⟩;by_cases z:j=i
     ·subst z;rw[qd]at e;rw[e]at lh;exact(jr d).mp lh
     ·exact⟨j,by omega,e⟩
   ·exact hR s'' (aDC W.gtrans ((hm.mono fu).then_heap vt λb o hb e=>e) ic) wc
  ·have hbS:∀b,b≠S->h'.get? b=s'.heap.get? b:=λb hb=>hsb.2 b hb;refine aAb ⟨aBt F.plain_set_update_loop _,ih (i+1) _ (by omega) ao (W.frame _ s' _ _ gu vt λb hb o e=>?_) (λb o e=>?_) ⟨au,hS2,λd=>?_⟩ λs'' ic wc=>?_⟩
   ·rw[hbS b (λz:b=S=>ji (by rw[<-z];exact hb))];exact e
   ·show h'.get? b=some o;rw[hbS b (λz=>by subst z;rw[hS0]at e;cases e)];exact kp' b o e
   ·rw[pm.mem_iff,aAd,jr];constructor
    ·rintro(rfl|⟨j,hj,e⟩)
     ·exact⟨i,by omega,qd⟩
     ·exact⟨j,by omega,e⟩
    ·rintro⟨j,hj,e⟩;by_cases z:j=i
     ·subst z;rw[qd]at e;exact .inl e.symm
     ·exact .inr ⟨j,by omega,e⟩
   ·refine hR s'' (aDC W.gtrans ((hm.mono fu).then_heap vt λb o hb e=>?_) ic) wc;rw[hbS b (λz:b=S=>hb (by rw[z];exact aAJ))];exact e
end
section
variable{prog:Program} {w:World} {A:Around} {E:A3} {s:Shared}
abbrev lI (led:Bool):Obj:={cls:=.type "set",dict:=none,data:=.set #[] 0 (.fresh 0 0 led)}
def FS (h0 h:Heap)(S:Addr)(led:Bool)(e:h.get? S=some (lI led)):SetAt led h0 h S []:=by
 refine⟨⟨_,#[],0,.fresh 0 0 led,e,rfl,rfl,rfl,rfl,⟨⟨λi k hi=>?_,λj hj=>?_,rfl⟩,ST.mj,rfl,?_,λe he=>?_⟩,.inl ⟨rfl,aBc _⟩,.nil,rfl,rfl⟩,aCK⟩
 ·exact absurd hi (by show¬i<0;omega)
 ·exact absurd hj (by show¬j∈[];simp)
 ·show 0<=7;omega
 ·exact absurd he (by show¬e∈[];simp)
def yL (a:Value){Q₁:A3}(h:Q₁ (.ref s.heap.objs.size) {s with heap:=s.heap.push (lI (!w.params.followText "set-order"))}):
  codeAny (model prog w) A (.call (.builtin "set.__new__") ⟨[.type "set",a],[]⟩) (wants Q₁ E) s:=by
 refine codeAny_of_tree ?_;show wpAny _ A.in1 (do checkBuiltinCall "set.__new__" ⟨[.type "set",a],[]⟩;again (.builtin "set.__new__" ⟨[.type "set",a],[]⟩)) _ _ s;refine aAa (aFW (F.newCall_set_1 a)<|aAb ⟨aBt F.plain_set_new _,aBn F.entry_set_new ?_⟩);rw[aAQ F.plain_set_new _];unfold Builtin.«set.__new__» Builtin.Frozenset.newClass;have fu:=sub_set_self;obtain⟨hp,g,d,tk,os⟩:=s;dsimp only
 wp_walk
 refine aFq (aAb ?_);dsimp only;simp only[newObj];exact aAa (wpAny_alloc<|aAb<|aAb h)
def xP {h0:Heap}(kp0:Keeps h0 s.heap){l:Addr}{its:Array Value}{val:Nat->D}{Q:A3}(hh:A.handled=none)(hl:s.heap.IsList l its)
  (hval:∀(i:Nat) (v:Value),its[i]?=some v->ZE h0 v (val i)) (kh:∀i<its.size,B7 (val i)<8/\∃ys,val i=.tup ys) {U:List D} (hU:∀i<its.size,val i∈U) (hb:U.length<=75) (hu:A.units+300<cLine)
  (h:∀(h':Heap) (tk:Nat) (ds:List D),SetAt (!w.params.followText "set-order") h0 h' s.heap.objs.size ds->(∀d,d∈ds↔∃j<its.size,val j=d)->Keeps s.heap h'->Q (.ref s.heap.objs.size) {s with heap:=h',toks:=tk}):
  wpAny (model prog w) A (call (.type "set") [.ref l]) Q E s:=by
 obtain⟨c,tl,hmro⟩:=PySem.F.called_set.mro;have hmade:=PySem.F.called_set.made;have fu:=PySem.F.called_set.sub;refine wpAny_call (codeAny_of_tree ?_);show wpAny _ _ (callAny (.type "set") _) _ _ _;refine aAb ⟨Code.quiet_builtin _ (by decide+kernel),aBn PySem.F.entry_type_call ?_⟩;rw[Around.under_plain (weight_type_call_type "set" [.ref l] []) rfl];have h1:=PySem.F.called_set.notType;have h2:=PySem.F.called_set.canCreate;have hct:=PySem.F.typeCall_set_1 (.ref l);repeat(any_goals(first|assumption|wp_step))
 refine aDF (yL (.ref l) (E:=E) (Q₁:=λob aa=>∃led:Bool,led=!w.params.followText "set-order"/\ob=.ref s.heap.objs.size/\aa={s with heap:=s.heap.push (lI led)}) ⟨_,rfl,rfl,rfl⟩) λr aa hr=>?_;cases r with
 |error e=>exact hr
 |ok fl=>
  cases fl with
  |next=>exact hr.elim
  |brk=>exact hr.elim
  |cont=>exact hr.elim
  |ret ob=>
   obtain⟨led,eL,rfl,rfl⟩:=hr;have hS:(s.heap.push<|lI led).get? s.heap.objs.size=some (lI led):=aAp _ rfl;have hT:Shared.TypeIs {s with heap:=s.heap.push (lI led)} (.ref s.heap.objs.size) "set":=⟨_,hS,rfl⟩;have hli:=PySem.F.called_set.init.lookup;have hbi:=PySem.F.called_set.init.bind (.ref s.heap.objs.size);repeat(any_goals(first|assumption|wp_step))
   refine aDF (codeAny_call_builtin (R:=wants (λr bc=>r=.none/\∃h' tk ds,bc={s with heap:=h',toks:=tk}/\SetAt (!w.params.followText "set-order") h0 h' s.heap.objs.size ds/\(∀d,d∈ds↔∃j<its.size,val j=d)/\Keeps s.heap h') E) PySem.F.called_set.init.plain PySem.F.entry_set_init<|check_set_init_1 hT ?_) λr0 bc hr0=>?_
   ·obtain⟨ol,hol,xr,nl,hdl⟩:=hl;obtain⟨ocls,odict,odata,oslots⟩:=ol;simp only at xr hdl;subst xr;subst hdl;have hol':(s.heap.push<|lI led).get? l=some {cls:=.type "list",dict:=odict,data:=.seq its nl,slots:=oslots}:=aAc _ hol;have hsls:=PySem.F.sub_list_set;have hslf:=PySem.F.sub_list_frozenset;have ah:(aCl "list"==aCl "dict")=false:=by decide
    have rf:(s.heap.push<|lI led).IsList l its:=⟨_,hol',rfl,nl,rfl⟩;unfold Builtin.«set.__init__» noKeywords Builtin.Frozenset.updateFrom;generalize hPI:pyIter=PI
    wp_walk
    subst hPI;refine aDs rf (aAa<|wpAny_runValue ?_);have hlS:l<s.heap.objs.size:=aAf hol;have hh3:A.in1.in1.in1.handled=none:=by simp[hh]
    have hneI:l≠(s.heap.push<|lI led).objs.size:=by rw[aBo];exact aAj (aBf hlS)
    have ji:s.heap.objs.size∉[(s.heap.push<|lI led).objs.size,l]:=by rw[aBo];simp only[aAd,aAB,or_false,not_or];exact⟨aAj (aCZ _),aCD hlS⟩
    have pg:∀b,s.heap.objs.size<=b->h0.get? b=none:=λb hb=>by
     cases e:h0.get? b with
     |none=>rfl
     |some o=>have:=kp0 b o e;rw[aEi hb]at this;cases this
    refine MP (h0:=h0) ((Walks.list hh3 _ l hneI its).toS) s.heap.objs.size ji (pg _<|aAg _) (λb hb=>?hw) val hval kh hU hb (by show A.units+1+1+200<cLine;omega) (its.size-0) 0 _ (by omega) (aBc _) ⟨⟨_,aAp _ rfl,rfl,rfl⟩,(rf.push _)⟩ (λb o e=>aAc _ (aAc _<|kp0 b o e)) ⟨[],FS _ _ _ led (aAc _ hS),λd=>?he⟩ ?hR
    case he=>exact⟨λz=>(by cases z),λ⟨j,hj,_⟩=>(by omega)⟩
    case hw=>
     have ja:b=(s.heap.push<|lI led).objs.size:=by simpa using hb
     subst ja;rw[aBo];exact pg _ (Nat.le_succ _)
    case hR=>
     rintro⟨h',g',d',xo,os'⟩ hm ⟨ds,gc,qt⟩;have eg:g'=s.gens:=hm.gens;have ed:d'=s.drawn:=hm.drawn;have eo:os'=s.os:=hm.os;subst eg;subst ed;subst eo;refine aAb ?_;show wpAny _ _ (ret Value.none) _ _ _;refine aAb ⟨rfl,h',xo,ds,rfl,(eL▸gc),qt,λb o e=>?_⟩;have hb:=aAf e;have hb2:b≠(s.heap.push<|lI led).objs.size:=by rw[aBo];exact aAj (aBf hb)
     exact hm.heap b o (by simp only[aAd,aAB,or_false,not_or];exact⟨aAj hb,hb2⟩) (aAc _<|aAc _ e)
   ·cases r0 with
    |error e=>exact hr0
    |ok fl0=>
     cases fl0 with
     |next=>exact hr0.elim
     |brk=>exact hr0.elim
     |cont=>exact hr0.elim
     |ret r=>
      obtain⟨rfl,h',tk,ds,rfl,gc,qt,kr⟩:=hr0;repeat(any_goals(first|assumption|wp_step))
      exact h _ _ _ gc qt kr
end
end DL
namespace SI
open PySem
theorem CG {α:Type}(next:Nat->Nat):∀(fuel k:Nat) (left:List α) (out:Array α),left.length=fuel->(aGn next fuel k left out).toList.Perm (out.toList++left)
 |0,k,left,out,h=>by have:left=[]:=aDb h;subst this;simp[aGn]
 |fuel+1,k,left,out,h=>by
  unfold aGn;have hp:0<left.length:=by lia
  have hi:next k%left.length<left.length:=aDT _ hp
  rw[aAh hi];dsimp only;refine(CG next fuel (k+1) _ _ (by rw[List.length_eraseIdx_of_lt hi];lia)).trans ?_;rw[Array.toList_push,aFd];refine List.Perm.append_left _ ?_;have:∀(l:List α) (i:Nat) (h:i<l.length),(l[i]::l.eraseIdx i).Perm l:=by
   intro l;induction l with
   |nil=>intro i h;simp at h
   |cons x l ih=>
    intro i h;cases i with
    |zero=>simp
    |succ i=>
     have h':i<l.length:=by simpa using h
     rw[aFk,List.getElem_cons_succ];exact(List.Perm.swap _ _ _).trans ((ih i h').cons _)
  exact this left _ hi
def qN {α:Type}(next:Nat->Nat)(xs:Array α):(pickOrder next xs).toList.Perm xs.toList:=by unfold pickOrder;simpa using CG next xs.size 0 xs.toList #[] (by simp)
def walkL (w:World)(S:Addr)(es:Array (Int×Value))(ep:Nat):List (Int×Value):=if w.params.followText "set-order"=true then(pickOrder (w.params.setOrder S ep) es).toList else es.toList
def walkL_perm (w:World)(S:Addr)(es:Array (Int×Value))(ep:Nat):(walkL w S es ep).Perm es.toList:=by
 unfold walkL;split
 ·exact qN _ _
 ·exact List.Perm.refl _
def slotAt (w:World)(t:SetTable):Nat->Nat
 |0=>0
 |i+1=>if w.params.followText "set-order"=true then 0 else t.place.getD i 0+1
def M8 (h:Heap)(w:World)(it S:Addr)(t:SetTable)(i n ep:Nat):Prop:=
 h.get? it=some {cls:=.type "set_iterator",dict:=none,data:=.fields #[rawInt (slotAt w t i),rawInt i,.ref S,rawInt n,rawInt ep],slots:=#[]}
def IsSet (h:Heap)(S:Addr)(es:Array (Int×Value))(ep:Nat)(t:SetTable):Prop:=∃o,h.get? S=some o/\o.cls=.type "set"/\o.data=.set es ep t
namespace F
def entry_set_iter:entryFor table "set.__iter__"=some Builtin.«frozenset.__iter__»:=entryFor_alias (id':= "frozenset.__iter__") (by kernel_rfl) rfl (by decide+kernel) (by kernel_rfl)
def slot_seti_next:Slot "set_iterator" "__next__" "set_iterator.__next__":=
 .of (owner:= "set_iterator") (n:= "__next__") (by rw[aDq,aCj];kernel_rfl) (by decide+kernel) (by decide+kernel) (by decide+kernel)
  (by first|exact .inl (by decide+kernel)|exact .inr (by decide+kernel)) (by rw[aET];kernel_rfl)
def entry_seti_next:entryFor table "set_iterator.__next__"=some Builtin.«set_iterator.__next__»:=entryFor_of_tree (by kernel_rfl)
def args_seti_next (a:Value):argsOk "set_iterator.__next__" ⟨[a],[]⟩:=by unfold argsOk;kernel_rfl
def slot_seti_iter:Slot "set_iterator" "__iter__" "set_iterator.__iter__":=
 .of (owner:= "set_iterator") (n:= "__iter__") (by rw[aDq,aCj];kernel_rfl) (by decide+kernel) (by decide+kernel) (by decide+kernel)
  (by first|exact .inl (by decide+kernel)|exact .inr (by decide+kernel)) (by rw[aET];kernel_rfl)
def entry_seti_iter:entryFor table "set_iterator.__iter__"=some Builtin.«dict_keyiterator.__iter__»:=entryFor_alias (id':= "dict_keyiterator.__iter__") (by kernel_rfl) rfl (by decide+kernel) (by kernel_rfl)
def args_seti_iter (a:Value):argsOk "set_iterator.__iter__" ⟨[a],[]⟩:=by unfold argsOk;kernel_rfl
end F
section
variable{s:Shared} {t:SetTable}
def FP {α:Type}{M:Model}{Q:α->Shared->Prop}{c:Prop}[Decidable c]{a b:Sem α}(h:c)(k:wpAny M A a Q E s):wpAny M A (if c then a else b) Q E s:=by rw[if_pos h];exact k
def xY (es:Array (Int×Value))(hp:t.plain=true):(!t.plain&&decide (es.size>1))=false:=by rw[hp];rfl
def zF {Q:uX}(h:Q (w.params.followText "set-order") s):wpAny (model prog w) A setsByText Q E s:=by unfold setsByText;exact aAa (aFq<|aAb h)
def NQ {Q:A3}(hS:IsSet s.heap S es ep t)(hf:t.fits es.size=true)(hp:t.plain=true)
  (h:Q (.ref s.heap.objs.size) {s with heap:=s.heap.push {cls:=.type "set_iterator",dict:=none,data:=.fields #[rawInt (slotAt w t 0),rawInt (0:Nat),.ref S,rawInt es.size,rawInt ep],slots:=#[]}}):
  wpAny (model prog w) A (pyIter (.ref S)) Q E s:=by
 obtain⟨o,ho,hc,hd⟩:=hS;have hT:s.TypeIs (.ref S) "set":=⟨o,ho,hc⟩;refine aFh hT PySem.F.slot_set_iter (aBv PySem.F.slot_set_iter hT F.entry_set_iter ?_ (PySem.F.args_set_iter_1 _));unfold Builtin.«frozenset.__iter__»;show wpAny _ _ (aFl "__iter__" ⟨[.ref S],[]⟩>>=_) _ _ s;have e0:aFl "__iter__" ⟨[.ref S],[]⟩=pure S:=rfl;rw[e0];refine aAa (aAb ?_);unfold Builtin.Frozenset.sizeOf;refine aAa (aAa<|aEv ho hd hf<|aAb ?_);refine aAa ?_;unfold setDrawn;refine aAa (aCc ho hd hf<|aAa<|zF<|aAb ?_);show wpAny _ _ (if(!w.params.followText "set-order"&&(!t.plain&&decide (es.size>1)))=true then _ else _) _ _ s;rw[xY es hp,aFS];simp only[aAs,if_false];refine aAa (aAb<|aAa<|wpAny_setEpoch_of ho hd hf ?_);refine aAa (aBm<|aAb ⟨_,rfl, "set_iterator",_,⟨_,aAp _ rfl,rfl⟩,F.slot_seti_next.lookup,?_⟩);simpa[slotAt]using h
def BV (ha:ST.HL xs):aDy xs 0=0:=by
 obtain⟨b1,b2,b3⟩:=ST.bB ha 0;by_cases h:aDy xs 0=0
 ·exact h
 ·exact absurd (b2 0 (by lia) (by lia)) (by lia)
def AR (ha:ST.HL xs)(hi:i<xs.size):aDy xs (xs.getD i 0+1)=i+1:=by
 have e:xs.getD i 0=xs[i]:=by simp[aFf,hi]
 rw[e];obtain⟨b1,b2,b3⟩:=ST.bB ha (xs[i]+1);rcases Nat.lt_trichotomy (aDy xs<|xs[i]+1) (i+1)with q|q|q
 ·have:=b3 i hi (by lia);lia
 ·exact q
 ·have h1:i+1<xs.size:=by lia
  have:=b2 (i+1) h1 q;have:=ha i (i+1) hi h1 (by lia)
  lia
def AH (t:SetTable)(ha:ST.HL t.place)(hb:¬w.params.followText "set-order"=true)(hi:i<=t.place.size):aDy t.place (slotAt w t i)=i:=by
 cases i with
 |zero=>exact BV ha
 |succ i=>show aDy t.place (if w.params.followText "set-order"=true then 0 else t.place.getD i 0+1)=i+1;rw[if_neg hb];exact AR ha (by lia)
def vT {Q:Option (Value×Nat)->Shared->Prop}(hS:IsSet s.heap S es ep t)(hf:t.fits es.size=true)(hp:t.plain=true)(hl:¬w.params.followText "set-order"=true->t.led=true)(ha:ST.HL t.place)(hi:i<=es.size)(h1:∀e,(walkL w S es ep)[i]?=some e->Q (some (e.2,slotAt w t (i+1))) s)(h2:i=es.size->Q none s):wpAny (model prog w) A (setNext S (slotAt w t i) i ep) Q E s:=by
 obtain⟨o,ho,hc,hd⟩:=hS;have hsz:t.place.size=es.size:=by simp only[aGe,aAI,beq_iff_eq,decide_eq_true_eq]at hf;exact hf.1
 unfold setNext;refine aAa (aCc ho hd hf ?_);refine aAa (zF ?_);by_cases hb:w.params.followText "set-order"=true
 ·rw[if_pos hb,if_neg (by simp)];unfold setWalk;refine aAa (aAa<|aCc ho hd hf<|aAa<|zF ?_);rw[if_pos hb];refine aAa (aFq<|aAb ?_);refine aAb ?_;have ew:(walkL w S es ep)=(pickOrder (w.params.setOrder S ep) es).toList:=by unfold walkL;rw[if_pos hb]
  have es0:slotAt w t i=slotAt w t (i+1):=by
   cases i with
   |zero=>show 0=if w.params.followText "set-order"=true then 0 else _;rw[if_pos hb]
   |succ i=>show(if w.params.followText "set-order"=true then 0 else _)=if w.params.followText "set-order"=true then 0 else _;rw[if_pos hb,if_pos hb]
  rw[ew,aAA]at h1;show Q (((pickOrder (w.params.setOrder S ep) es)[i]?).map λe=>(e.2,slotAt w t i)) s;cases e:(pickOrder (w.params.setOrder S ep) es)[i]? with
  |some x=>rw[es0];exact h1 x e
  |none=>
   have hsz2:(pickOrder (w.params.setOrder S ep) es).size=es.size:=by have:=(qN (w.params.setOrder S ep) es).length_eq;simpa using this
   have:=Array.getElem?_eq_none_iff.mp e;exact h2 (by lia)
 ·rw[if_neg hb];have d0:¬(!t.plain&&decide (es.size>1))=true:=by rw[hp];simp
  show wpAny _ _ (if(!t.plain&&decide (es.size>1))=true then _ else _) _ _ s;rw[if_neg d0];show wpAny _ _ ((if(!t.led&&!es.isEmpty)=true then _ else _)>>=_) _ _ s;rw[if_neg (by rw[hl hb];simp)];refine aAa (aAb<|aAb ?_);rw[AH t ha hb (by lia)];have ew:(walkL w S es ep)=es.toList:=by unfold walkL;rw[if_neg hb]
  rw[ew,aAA]at h1;by_cases ao:i<es.size
  ·have e1:es[i]?=some es[i]:=aAH ao;have hlt':i<t.place.size:=by lia
   have e2:t.place[i]?=some t.place[i]:=aAH hlt';have:=h1 _ e1;rw[e1,e2];have e3:slotAt w t (i+1)=t.place[i]+1:=by show(if w.params.followText "set-order"=true then 0 else t.place.getD i 0+1)=_;rw[if_neg hb];simp[aFf,hlt']
   rw[e3]at this;exact this
  ·have e1:es[i]?=none:=aCz (by lia);rw[e1];exact h2 (by lia)
def P9 (h:M8 s.heap w it S t i n ep):s.TypeIs (.ref it) "set_iterator":=⟨_,h,rfl⟩
def IU {Q:Option Value->Shared->Prop}(hit:M8 s.heap w it S t i es.size ep)(hS:IsSet s.heap S es ep t)(hf:t.fits es.size=true)(hp:t.plain=true)(hl:¬w.params.followText "set-order"=true->t.led=true)(ha:ST.HL t.place)(hi:i<es.size)(h:∀e h',(walkL w S es ep)[i]?=some e->M8 h' w it S t (i+1) es.size ep->Heap.SameBut it s.heap h'->Q (some e.2) {s with heap:=h'}):wpAny (model prog w) A (pyNext (.ref it)) Q E s:=by
 have hT:=P9 hit;obtain⟨o,ho,hc,hd⟩:=id hS;unfold pyNext;refine aAa (aEo (aCp (name:=aDn "__next__") hT F.slot_seti_next
  (aBv F.slot_seti_next hT F.entry_seti_next ?_ (F.args_seti_next _))))
 refine aAa (aAb ?_);refine aAa (wpAny_fieldsOf hit rfl ?_);show wpAny _ _ (setEntries S>>=_) _ _ s;refine aAa (aEv ho hd hf ?_);rw[if_neg (by simp)];show wpAny _ _ (setNext S (aEw (slotAt w t i:Int)) (aEw (i:Int)) (aEw (ep:Int))>>=_) _ _ s;rw[aCd,aCd,aCd];refine aAa (vT hS hf hp hl ha (aDl hi) (λe he=>?_) λe=>by lia);show wpAny _ _ (setField (.ref it) 0 (rawInt<|slotAt w t<|i+1)>>=_) _ _ s;refine aAa (aBU hit (by simp) λh1 e1 s1=>?_);show wpAny _ _ (setField (.ref it) 1 (rawInt<|(i:Int)+1)>>=_) _ _ _;refine aAa (aBU (s:={s with heap:=h1}) e1 (by simp) λh2 e2 s2=>?_);refine aAb ⟨_,rfl,aAb (h e h2 he ?_ (s1.trans s2))⟩;have:h2.get? it=some _:=e2;unfold M8;rw[this];simp
def SE {Q:Option Value->Shared->Prop}(hh:A.handled=none)(hit:M8 s.heap w it S t es.size es.size ep)(hS:IsSet s.heap S es ep t)(hf:t.fits es.size=true)(hp:t.plain=true)(hl:¬w.params.followText "set-order"=true->t.led=true)(ha:ST.HL t.place)(h:∀h',Heap.ExtBut it s.heap h'->Q none {s with heap:=h'}):wpAny (model prog w) A (pyNext (.ref it)) Q E s:=by
 have hT:=P9 hit;obtain⟨o,ho,hc,hd⟩:=id hS;unfold pyNext;refine aAa (aEo (aCp (name:=aDn "__next__") hT F.slot_seti_next
  (aBv F.slot_seti_next hT F.entry_seti_next ?_ (F.args_seti_next _))))
 refine aAa (aAb ?_);refine aAa (wpAny_fieldsOf hit rfl ?_);show wpAny _ _ (setEntries S>>=_) _ _ s;refine aAa (aEv ho hd hf ?_);rw[if_neg (by simp)];show wpAny _ _ (setNext S (aEw (slotAt w t es.size:Int)) (aEw (es.size:Int)) (aEw (ep:Int))>>=_) _ _ s;rw[aCd,aCd,aCd];refine aAa (vT hS hf hp hl ha (aAg _) (λe he=>?_) λ_=>?_)
 ·have h1:=(walkL_perm w S es ep).length_eq;have h2:=(aAC.mp he).1;rw[h1]at h2;simp at h2
 ·show wpAny _ _ (setField (.ref it) 2 .none>>=_) _ _ s;refine aAa (wpAny_setField hit rfl (by simp) ?_);show wpAny _ _ (newExc (.type "StopIteration") []>>=_) _ _ _;refine aAa ?_;simp only[newExc,newTuple];refine aAa (aBm ?_ (by size_fits));refine aAa (m:=firstArgMember _ _) (aFW (a:=Value.none) (by first|rfl|(simp only[firstArgMember];rfl)) ?_);refine aBm ?_ (by size_fits);simp only[raiseNew];refine aAa (wpAny_handled ?_);rw[show A.in1.handled=none from hh];refine aAa (aAb<|wpAny_throw ?_);refine aAa (aDB (T:= "StopIteration") (b:=true) ⟨_,aAp _ rfl,rfl⟩ isSubtype_stop ?_);exact aAb (h _<|((Heap.SameBut.update ..).extBut.push _).push _)
def cU (x:IsSet h S es ep t)(e:∀o,h.get? S=some o->h'.get? S=some o):IsSet h' S es ep t:=let⟨o,a,r⟩:=x;⟨o,e o a,r⟩
end
section
def IH (hh:A.handled=none)(I S:Addr)(ah:S≠I)(hf:t.fits es.size=true)(hp:t.plain=true)(hl:¬w.params.followText "set-order"=true->t.led=true)(ha:ST.HL t.place):
  Walks prog w A I [I,S] [I] es.size (λi v=>∃e,(walkL w S es ep)[i]?=some e/\v=e.2) (λi h=>M8 h w I S t i es.size ep/\IsSet h S es ep t)where
 sub:=λb hb=>by simp at hb;simp[hb]
 frame:=λ_ _ _ st hk=>⟨hk I (by simp) _ st.1,cU st.2 λo e=>hk S (by simp) o e⟩
 item:=λi s Q E hi st hQ=>IU st.1 st.2 hf hp hl ha hi λe h' he fg hs=>hQ e.2 h' s.toks ⟨e,he,rfl⟩ ⟨fg,cU st.2 λo q=>(hs.2 S ah).trans q⟩ λb o hb q=>(hs.2 b (λz=>hb (by simp[z]))).trans q
 done:=λs Q E st hQ=>SE hh st.1 st.2 hf hp hl ha λh' hx=>hQ h' s.toks λb o hb q=>hx b o (λz=>hb (by simp[z])) q
 self:=λi s Q E st hQ=>by refine aFh (P9 st.1) F.slot_seti_iter (aBv F.slot_seti_iter (P9 st.1) F.entry_seti_iter ?_ (F.args_seti_iter _));refine aAa (aAb<|aAb ⟨_,rfl, "set_iterator",_,P9 st.1,F.slot_seti_next.lookup,hQ⟩)
def collect_set {Q:List Value->Shared->Prop}(hh:A.handled=none)(hS:IsSet s.heap S es ep t)(hf:t.fits es.size=true)(hp:t.plain=true)(hl:¬w.params.followText "set-order"=true->t.led=true)(ha:ST.HL t.place)(hn:es.size<=sizeLine)
  (hQ:∀h' tk,(∀b o,s.heap.get? b=some o->h'.get? b=some o)->Q ((walkL w S es ep).map (·.2)) {s with heap:=h',toks:=tk}):wpAny (model prog w) A (collect (.ref S)) Q E s:=by
 obtain⟨oS,hoS,hcS,hdS⟩:=id hS;have hT:s.TypeIs (.ref S) "set":=⟨oS,hoS,hcS⟩;have ao:S<s.heap.objs.size:=aAf hoS;unfold collect;refine aAa (wpAny_runValue<|aBn PySem.F.entry_proto_collect ?_);rw[aAQ PySem.F.plain_proto_collect _];show wpAny _ A.in1 (newList []>>=λl=>again (.builtin "list.__iadd__" ⟨[l,.ref S],[]⟩)) _ _ s;refine aAa (aBm ?_);refine aAb ⟨aBt PySem.F.plain_list_iadd _,aBn PySem.F.entry_list_iadd ?_⟩;rw[aAQ PySem.F.plain_list_iadd _];generalize hh1:s.heap.push {cls:=.type "list",data:=.seq ([]:List Value).toArray}=h1;have hk1:∀b o,s.heap.get? b=some o->h1.get? b=some o:=λb o e=>by rw[<-hh1];exact aAc _ e
 have hsz1:h1.objs.size=s.heap.objs.size+1:=by rw[<-hh1,aBo]
 have hL1:h1.get? s.heap.objs.size=some {cls:=.type "list",data:=.seq ([]:List Value).toArray}:=by rw[<-hh1];exact aAp _ rfl
 have hS1:IsSet h1 S es ep t:=cU hS λo e=>hk1 S o e;have hT1:Shared.TypeIs {s with heap:=h1} (.ref S) "set":=⟨oS,hk1 _ _ hoS,hcS⟩;have hne1:aCT (.ref s.heap.objs.size) (.ref S)=false:=by simp[aCT,aCD ao]
 show wpAny _ A.in1 (aBV (.ref s.heap.objs.size) (.ref S)<|.ref s.heap.objs.size) _ _ _;unfold aBV;refine aAa (aDG hT1 ?_);rw[if_neg (by rw[hne1];decide)];refine aAa (NQ (s:={s with heap:=h1}) hS1 hf hp ?_);refine aAa (aAK ?_);generalize hh2:h1.push {cls:=.type "set_iterator",dict:=none,data:=.fields #[rawInt (slotAt w t 0),rawInt (0:Nat),.ref S,rawInt es.size,rawInt ep],slots:=#[]}=h2;have hk2:∀b o,h1.get? b=some o->h2.get? b=some o:=λb o e=>by rw[<-hh2];exact aAc _ e
 have hI2:M8 h2 w h1.objs.size S t 0 es.size ep:=by rw[<-hh2];exact aAp _ rfl
 have hS2:IsSet h2 S es ep t:=cU hS1 λo e=>hk2 S o e;have hT2:Shared.TypeIs {s with heap:=h2} (.ref S) "set":=⟨oS,hk2 _ _ (hk1 _ _ hoS),hcS⟩;have hL2:=hk2 _ _ hL1;unfold aCw;refine aAa (aBw hT2 PySem.F.slot_set_len.lookup ?_)
 (generalize hid:("set.__len__":String)=id0;(fail_if_success (clear hid id0));wp_delta;rw[show splitId id0=some ("set", "__len__")from by subst hid;decide+kernel];subst hid)
 refine aAa (aDB (b:=true) hT2 (by rw[aET];kernel_rfl) ?_);rw[if_neg (by decide)];refine FP (by decide+kernel) ?_
 ·refine aAa (aDG hT2<|aAb ?_);rw[if_pos (by decide)];show wpAny _ A.in1 (rule "list.extend.makes-room">>=λ_=>aFx (.ref s.heap.objs.size)>>=λ_=>again (.builtin "list.extend.loop" ⟨[.ref s.heap.objs.size,.ref h1.objs.size,.ref s.heap.objs.size],[]⟩)) _ _ _
  refine aAa (aDr ?_);refine aAa ?_;show wpAny _ A.in1 (updateSeq s.heap.objs.size (·.push .none)>>=λ_=>updateSeq s.heap.objs.size (·.pop)) _ _ _;refine aAa (aBx hL2 rfl ?_);have hL3:=aAS (aBz (·.push Value.none)) hL2 rfl;refine aBx hL3 rfl ?_;have hL4:=aAS (aBz (·.pop)) hL3 rfl;have uu:∀b o,b≠s.heap.objs.size->h2.get? b=some o->((h2.update s.heap.objs.size (aBz (·.push Value.none))).update s.heap.objs.size (aBz (·.pop))).get? b=some o:=
   λb o hb e=>(aAr _ _<|aBQ hb).trans ((aAr _ _<|aBQ hb).trans e)
  have neI:h1.objs.size≠s.heap.objs.size:=by rw[hsz1];lia
  have W:=(IH (prog:=prog) (w:=w) (A:=A.in1) (by simp[hh]) h1.objs.size S (by rw[hsz1];exact aAj (aBf ao)) (es:=es) (ep:=ep) (t:=t) hf hp hl ha).toS;refine aAb ⟨aBt PySem.F.plain_extend_loop _,codeAny_extend_loopS W hn _ (by simp only[aAd,aAB,or_false,not_or];exact⟨aBQ neI,aCD ao⟩) _ es.size 0 _ _ _ rfl (aBc _) ⟨uu _ _ neI hI2,cU hS2 λo e=>uu S o (aAj ao) e⟩ hL4 (ItemsOf.nil _) λs' jl c' hm gc dc=>?_⟩;show wpAny _ A (load s.heap.objs.size>>=_) _ _ s';refine aAa (wpAny_load gc ?_);refine aAb ?_;have g0:s'.gens=s.gens:=hm.gens;have d0:s'.drawn=s.drawn:=hm.drawn;have o0:s'.os=s.os:=hm.os;have ea:jl.toList=(walkL w S es ep).map (·.2):=by
   have og:=(walkL_perm w S es ep).length_eq;apply aDU;intro i;rw[aAG,aAA];by_cases hi:i<es.size
   ·have yu:i<jl.size:=by rw[dc.1];exact hi
    obtain⟨e,he,hv⟩:=dc.2 i _ (aAH yu);rw[he,aAH yu,hv];rfl
   ·rw[aCz (by rw[dc.1];lia),aEa (by rw[og];simp;lia)];rfl
  obtain⟨h',g',d',xo,os'⟩:=s';subst g0 d0 o0;rw[ea];refine hQ h' xo λb o e=>?_;have hb:b≠s.heap.objs.size:=aAj (aAf e);have hb2:b≠h1.objs.size:=by rw[hsz1];exact aAj (aBf<|aAf e)
  exact hm.heap b o (by simp only[aAd,aAB,or_false,not_or];exact⟨hb,hb2⟩) (uu b o hb<|hk2 _ _<|hk1 _ _ e)
end
end SI
namespace TS
open PySem PyProof.Rows
abbrev tupK:Bool->SortKind:=sortPriv%PySem.Builtin.KeyKind.tuples
structure TB (f:Bool)(a5:Array Keyed)(st:SortSt):Prop where
 perm:(arrOf st).Perm a5
 kind:kindOf st=tupK f
 failed:failedOf st=none
 pend:pendingOf st=#[]
def TB.size {f:Bool}{a5:Array Keyed}{st:SortSt}(h:TB f a5 st):(arrOf st).size=a5.size:=h.perm.size_eq
def TB.setArr {f:Bool}{a5:Array Keyed}{st:SortSt}(h:TB f a5 st){xs:Array Keyed}(hp:xs.Perm (arrOf st)):TB f a5 (PyProof.Rows.setArr st xs):=
 ⟨hp.trans h.perm,h.kind,h.failed,h.pend⟩
def QH (f:Bool)(A:Around)(s:Shared)(κ:KeyKind):Prop:=
 ∀(prog:Program) (w:World) (E:A3) (x y:Value) (a b:κ.α) {Q:uX},
  κ.keyOf x=some a->κ.keyOf y=some b->Q (κ.blt a b) s->wpAny (model prog w) A (keyLt' (tupK f) x y) Q E s
def TB.atK {f:Bool}{κ:KeyKind}{a5:Array Keyed}{st:SortSt}(h:TB f a5 st)(h0:KeysOf κ a5){i:Nat}(hi:i<a5.size):∃x p a,(arrOf st)[i]?=some (x,p)/\κ.keyOf x=some a/\KK κ (arrOf st) i=a:=by
 have fg:i<(arrOf st).size:=by rw[h.size];exact hi
 obtain⟨a,ha⟩:=h0 _ ((aED.mp h.perm).mem_iff.mp (show(arrOf st)[i]∈(arrOf st).toList by simp));have e:(arrOf st)[i]?=some (arrOf st)[i]:=getElem?_pos _ i fg;exact⟨(arrOf st)[i].1,(arrOf st)[i].2,a,by rw[e],ha,by unfold KK;rw[e];simp[ha]⟩
section
def iq (f:Bool){prog:Program}{w:World}{A:Around}{E:A3}{s:Shared}{a5:Array Keyed}{κ:KeyKind}{st:SortSt}{i j:Nat}{Q:Option Bool->SortSt->Prop}(hO:QH f A s κ)(hB:TB f a5 st)(h0:KeysOf κ a5)(hi:i<a5.size)(hj:j<a5.size)
  (h:Q (some (κ.blt (KK κ (arrOf st) i) (KK κ (arrOf st) j))) st):wpS (model prog w) A E s (ltAt' i j) Q st:=by
 obtain⟨x,p,a,e1,ha,ka⟩:=hB.atK h0 hi;obtain⟨y,q,b,e2,hb,kb⟩:=hB.atK h0 hj;rw[ka,kb]at h;rw[ltAt'_eq];refine aBu (wpS_get ?_);show wpS _ _ _ _ (do let x<-elem' (arrOf st) i;let y<-elem' (arrOf st) j;lt' x y) Q st;rw[elem'_eq,elem'_eq,e1,e2];refine aBu (aCf<|aBu<|aCf ?_);rw[lt'_eq];refine aBu (wpS_get ?_);rw[hB.kind];refine aBu (wpS_lift<|aEo<|hO prog w _ x y a b ha hb ⟨rfl,?_⟩);exact aCf h
def up1 (S:SortedToK κ xs x)(h:1<=x->κ.kle (KK κ xs (x-1)) (KK κ xs x)):SortedToK κ xs (x+1):=λi j jm hj=>by
 rcases aDh (aFi hj)with ao|rfl
 ·exact S i j jm ao
 ·rcases aDh jm with hi|rfl
  ·exact KeyOrd.kle_trans (S i (j-1) (by lia) (by lia)) (h (by lia))
  ·exact KeyOrd.kle_refl _
def kj (S:NonIncK κ xs x)(h:1<=x->κ.kle (KK κ xs x) (KK κ xs (x-1))):NonIncK κ xs (x+1):=λi j jm hj=>by
 rcases aDh (aFi hj)with ao|rfl
 ·exact S i j jm ao
 ·rcases aDh jm with hi|rfl
  ·exact KeyOrd.kle_trans (h (by lia)) (S i (j-1) (by lia) (by lia))
  ·exact KeyOrd.kle_refl _
def KJ (S:NonIncK κ xs x)(e:∀k,KK κ ys k=KK κ xs k):NonIncK κ ys x:=λi j jm hj=>by rw[e,e];exact S i j jm hj
def zA (κ:KeyKind)(xs:Array Keyed)(x c:Nat):Prop:=c+1<=x/\∀k,x-(c+1)<=k->k<x->KK κ xs k=KK κ xs (x-1)
def zA.one (h:1<=x):zA κ xs x 0:=⟨h,λk h1 h2=>by rw[show k=x-1 by lia]⟩
variable{st:SortSt}
def ON (hO:QH f A s κ)(h0:KeysOf κ a5)(hm:m<=a5.size)(B:TB f a5 st)(ha:1<=a)(ham:a<=m)(S:SortedToK κ (arrOf st) a){Q:AscSt->SortSt->Prop}(q:∀n,a<=n->n<=m->SortedToK κ (arrOf st) n->(n<m->κ.klt (KK κ (arrOf st) n) (KK κ (arrOf st) (n-1)))->Q (none,n) st):wpS (model prog w) A E s (ascLoop a m) Q st:=by
 refine aEb (I:=λn r t=>t=st/\r=(none,n)/\SortedToK κ (arrOf st) n) (λn r t l1 l2 ⟨e1,e2,S'⟩=>?_) (λr t ⟨e1,e2,S'⟩=>?_) ⟨rfl,rfl,S⟩
 ·subst e1 e2;refine aBu (iq f hO B h0 (by lia) (by lia) ?_);cases z:κ.blt (KK κ (arrOf t) n) (KK κ (arrOf t)<|n-1)with
  |true=>exact aCf (q n l1 (by lia) S' λ_=>z)
  |false=>exact aCf ⟨rfl,rfl,up1 S' λ_=>z⟩
 ·subst e1 e2;have e:max a m=m:=Nat.max_eq_right ham;rw[e]at S'⊢;exact q m ham (aAg _) S' λz=>absurd z (aAX _)
abbrev Told (f:Bool)(κ:KeyKind)(a5:Array Keyed)(m:Nat)(Q:Option Nat->SortSt->Prop):Prop:=∀n t,TB f a5 t->1<=n->n<=m->SortedToK κ (arrOf t) n->Q (some n) t
def wX (hO:QH f A s κ)(h0:KeysOf κ a5)(hm:m<=a5.size)(B:TB f a5 st)(h1:1<=n)(hn:n<=m)(S:NonIncK κ (arrOf st) n){Q:Option Nat->SortSt->Prop}(q:Told f κ a5 m Q):
  wpS (model prog w) A E s (tail3 n m) Q st:=by
 have B2:=B.setArr (aFX (arrOf st) 0 n<|(n-0)/2);have hz:n<=(arrOf st).size:=by rw[B.size];exact aAo hn hm
 refine aBu (aFY<|aBu<|ON hO h0 hm B2 h1 hn (λi j jm hj=>?_) λk k1 k2 S' _=>aCf (q k _ B2 (aAo h1 k1) k2 S'));have e:∀k,k<n->KK κ (arrOf<|setArr st<|mirror (arrOf st) 0 n<|(n-0)/2) k=KK κ (arrOf st) (0+n-1-k):=λk hk=>(KK_mirror hz k).trans (if_pos ⟨aBc _,hk⟩);rw[e i (by lia),e j hj];exact S _ _ (by lia) (by lia)
def LM (hO:QH f A s κ)(h0:KeysOf κ a5)(hm:m<=a5.size)(B:TB f a5 st)(h1:1<=n)(hn:n<=m)(S:NonIncK κ (arrOf st) n){Q:DescSt->SortSt->Prop}(q:∀k c t,TB f a5 t->1<=k->k<=m->NonIncK κ (arrOf t) k->zA κ (arrOf t) k c->Q (none,k,c) t):wpS (model prog w) A E s (descLoop n m) Q st:=by
 refine aEb (I:=λk r t=>∃c,r=(none,k,c)/\TB f a5 t/\NonIncK κ (arrOf t) k/\zA κ (arrOf t) k c) (λk r t l1 l2 ⟨c,e,B',S',F'⟩=>?_) (λr t ⟨c,e,B',S',F'⟩=>?_) ⟨0,rfl,B,S,zA.one h1⟩
 ·subst e;have hz:k<=(arrOf t).size:=by rw[B'.size];lia
  dsimp only;refine aBu (iq f hO B' h0 (by lia) (by lia) ?_);cases z:κ.blt (KK κ (arrOf t) k) (KK κ (arrOf t)<|k-1)with
  |true=>
   have S2:NonIncK κ (arrOf t) (k+1):=kj S' λ_=>KeyOrd.kle_of_klt z;show wpS _ _ _ _ (if c>0 then _ else _) _ t;by_cases hc:c>0
   ·rw[if_pos hc];exact aBu (aFY (aCf ⟨0,rfl,B'.setArr (aFX _ _ _ _),KJ S2 (aFF hz F'.2),zA.one (by lia)⟩))
   ·rw[if_neg hc];exact aCf ⟨0,rfl,B',S2,zA.one (by lia)⟩
  |false=>
   dsimp only;simp only[aAs,if_false];refine aBu (iq f hO B' h0 (by lia) (by lia) ?_);cases z2:κ.blt (KK κ (arrOf t)<|k-1) (KK κ (arrOf t) k)with
   |true=>exact aCf (q k c t B' (by lia) (by lia) S' F')
   |false=>
    have e:KK κ (arrOf t) k=KK κ (arrOf t) (k-1):=KeyOrd.kle_antisymm z2 z;refine aCf ⟨c+1,rfl,B',kj S' λ_=>by rw[e];exact KeyOrd.kle_refl _,by have:=F'.1;lia,λi i1 i2=>?_⟩;show KK κ (arrOf t) i=KK κ (arrOf t) k;rcases aDh (aFi i2)with hi|rfl
    ·rw[e];exact F'.2 i (by lia) hi
    ·rfl
 ·subst e;have e:max n m=m:=Nat.max_eq_right hn;rw[e]at S' F'⊢;exact q m c t B' (aAo h1 hn) (aAg _) S' F'
def vH (hO:QH f A s κ)(h0:KeysOf κ a5)(hm:m<=a5.size)(B:TB f a5 st)(hn:n+1<=m)(S:NonIncK κ (arrOf st) (n+1)){Q:Option Nat->SortSt->Prop}(q:Told f κ a5 m Q):
  wpS (model prog w) A E s (descPart n m) Q st:=by
 refine aBu (wpS_lift<|aDr ⟨rfl,aBu (LM hO h0 hm B (aGo n) hn S λk c t B' k1 k2 S' F'=>?_)⟩);have hz:k<=(arrOf t).size:=by rw[B'.size];lia
 show wpS _ _ _ _ (if c>0 then _ else _) _ t;by_cases hc:c>0
 ·rw[if_pos hc];exact aBu (aFY<|wX hO h0 hm (B'.setArr<|aFX _ _ _ _) k1 k2 (KJ S'<|aFF hz F'.2) q)
 ·rw[if_neg hc];exact wX hO h0 hm B' k1 k2 S' q
def GK (hO:QH f A s κ)(h0:KeysOf κ a5)(hm:m<=a5.size)(h1:1<=m)(B:TB f a5 st){Q:Option Nat->SortSt->Prop}(q:Told f κ a5 m Q):wpS (model prog w) A E s (countRun' 0 m) Q st:=by
 rw[countRun0_eq];refine aBu (ON hO h0 hm B (aAg 1) h1 (up1 (λ_ _ _ z=>absurd z (aFG _)) λz=>absurd z (by decide)) λn n1 n2 S ao=>?_);show wpS _ _ _ _ (if(n==m)=true then _ else _) _ st;by_cases hn:n=m
 ·rw[if_pos (beq_iff_eq.mpr hn)];exact aCf (q n st B n1 n2 S)
 ·rw[if_neg λz=>hn (beq_iff_eq.mp z)];have lt:=ao (by lia);by_cases hg:n>1
  ·rw[if_pos hg];refine aBu (iq f hO B h0 (by lia) (by lia) ?_);cases z:κ.blt (KK κ (arrOf st) 0) (KK κ (arrOf st)<|n-1)with
   |true=>exact aCf (q n st B n1 n2 S)
   |false=>
    have hz:n<=(arrOf st).size:=by rw[B.size];lia
    have same:∀k,0<=k->k<n->KK κ (arrOf st) k=KK κ (arrOf st) (n-1):=λk _ hk=>KeyOrd.kle_antisymm (S k (n-1) (by lia) (by lia)) (KeyOrd.kle_trans z<|S 0 k (aBc _) hk);have S2:NonIncK κ (arrOf st) n:=λi j jm hj=>by rw[same i (aBc _) (by lia),same j (aBc _) hj];exact KeyOrd.kle_refl _
    exact aBu (aFY (vH hO h0 hm (B.setArr<|aFX _ _ _ _) (by lia) (KJ (kj S2 λ_=>KeyOrd.kle_of_klt lt)<|aFF hz same) q))
  ·rw[if_neg hg];obtain rfl:n=1:=by lia
   exact vH hO h0 hm B (by lia) (kj (kj (λ_ _ _ z=>absurd z (aFG _)) λz=>absurd z (by decide)) λ_=>KeyOrd.kle_of_klt lt) q
def nM (hO:QH f A s κ)(h0:KeysOf κ a5)(hn:n<=a5.size)(hk:k<=n)(B:TB f a5 st)(S:SortedToK κ (arrOf st) k){Q:Bool->SortSt->Prop}(q:∀t,TB f a5 t->SortedToK κ (arrOf t) n->Q true t):
  wpS (model prog w) A E s (binarySort' 0 n k) Q st:=by
 rw[binarySort'_eq];simp only[aEQ];have S0:SortedToK κ (arrOf st) (min (max k 1) n):=λi j jm hj=>by
  rcases Nat.eq_or_lt_of_le jm with rfl|ao
  ·exact KeyOrd.kle_refl _
  ·exact S i j jm (by lia)
 refine aBu (wpS_mono (Q:=λr t=>r=(none,())/\TB f a5 t/\SortedToK κ (arrOf t) n) (aEb (I:=λx r t=>r=(none,())/\TB f a5 t/\SortedToK κ (arrOf t) (min x n)) (λx r t l1 l2 ⟨e,B',S'⟩=>?step) (λr t ⟨e,B',S'⟩=>⟨e,B',?fin⟩) ⟨rfl,B,S0⟩) λr t ⟨e,B',S'⟩=>?post)
 case step=>
  subst e;rw[aFH (aDl l2)]at S';have hx:x<a5.size:=by lia
  let Low (l:Nat):Prop:=∀i,i<l->κ.kle (KK κ (arrOf t) i) (KK κ (arrOf t) x)
  let Top (r:Nat):Prop:=∀i,r<=i->i<x->κ.klt (KK κ (arrOf t) x) (KK κ (arrOf t) i)
  refine aBu (wpS_mono (Q:=λd u=>u=t/\∃l r,d=(none,l,r)/\l<=x/\Low l/\Top l) (aEb (I:=λy d u=>u=t/\∃l r,d=(none,l,r)/\l<=r/\r<=x/\r-l<=x-y/\Low l/\Top r) (λy d u _ y2 ⟨e,l,r,e2,lr,rx,far,lo,hi⟩=>?istep) (λd u ⟨e,l,r,e2,lr,rx,far,lo,hi⟩=>?ifin)
   ⟨rfl,0,x,rfl,aBc _,aAg _,aAg _,λ_ z=>absurd z (aFG _),λi a b=>absurd (aDg a b) (aAX _)⟩) λd u ⟨e,l,r,e2,lx,lo,hi⟩=>?ipost)
  case istep=>
   subst e e2;show wpS _ _ _ _ (if l>=r then _ else _) _ u;by_cases hlr:l>=r
   ·rw[if_pos hlr];obtain rfl:l=r:=Nat.le_antisymm lr hlr;exact aCf ⟨rfl,l,l,rfl,rx,lo,hi⟩
   ·rw[if_neg hlr];dsimp only;refine aBu (iq f hO B' h0 hx (by lia) ?_);cases z:κ.blt (KK κ (arrOf u) x) (KK κ (arrOf u)<|(l+r)/2)with
    |true=>exact aCf ⟨rfl,l,(l+r)/2,rfl,by lia,by lia,by lia,lo,λi a b=>KeyOrd.klt_of_klt_of_kle z (S' _ i a b)⟩
    |false=>exact aCf ⟨rfl,(l+r)/2+1,r,rfl,by lia,by lia,by lia,λi a=>KeyOrd.kle_trans (S' i ((l+r)/2) (by lia) (by lia)) z,hi⟩
  case ifin=>
   subst e e2;obtain rfl:l=r:=by lia
   exact⟨rfl,l,l,rfl,rx,lo,hi⟩
  case ipost=>
   subst e e2;have hz:x<(arrOf u).size:=by rw[B'.size];exact hx
   show wpS _ _ _ _ (do moveDown' x l;pure (aCi (none,()))) _ u;rw[moveDown'_eq];refine aBu (wpS_modify<|aCf ⟨rfl,B'.setArr (bubble_perm _ _ _),λi j jm hj=>?_⟩);have e:∀k,KK κ (arrOf<|setArr u<|bubble (arrOf u) x<|x-l) k=if k=l then KK κ (arrOf u) x else if l<k/\k<=x then KK κ (arrOf u) (k-1)else KK κ (arrOf u) k:=λk=>by have:=KK_bubble (κ:=κ) hz (Nat.sub_le x l) k;rw[show x-(x-l)=l by lia]at this;exact this
   have hj:j<x+1:=by lia
   rw[e,e];by_cases c1:i=l
   ·rw[if_pos c1];by_cases c2:j=l
    ·rw[if_pos c2];exact KeyOrd.kle_refl _
    ·rw[if_neg c2,if_pos ⟨by lia,by lia⟩];exact KeyOrd.kle_of_klt (hi _ (by lia) (by lia))
   ·rw[if_neg c1];by_cases c2:j=l
    ·rw[if_pos c2,if_neg λz=>by lia];exact lo i (by lia)
    ·rw[if_neg c2];by_cases c3:l<i/\i<=x
     ·rw[if_pos c3,if_pos ⟨by lia,by lia⟩];exact S' _ _ (by lia) (by lia)
     ·rw[if_neg c3];by_cases c4:l<j/\j<=x
      ·rw[if_pos c4];exact S' _ _ (by lia) (by lia)
      ·rw[if_neg c4];exact S' _ _ jm (by lia)
 case fin=>rw[show min (max (max k 1) n) n=n by lia]at S';exact S'
 case post=>subst e;exact aCf (q t B' S')
def lN (f:Bool)(hO:QH f A s κ)(h0:KeysOf κ a5)(B:TB f a5 st)(h2:2<=a5.size)(h64:a5.size<64){Q:Unit->SortSt->Prop}(q:∀t,(arrOf t).Perm a5->failedOf t=none->SortedToK κ (arrOf t) a5.size->Q () t):wpS (model prog w) A E s sortRuns' Q st:=by
 have e1:minRun' a5.size a5.size 0=a5.size:=by
  generalize hN:a5.size=N at*
  cases N with
  |zero=>lia
  |succ N=>rw[minRun'_succ,if_pos h64]
 let QG (t:SortSt):Prop:=(arrOf t).Perm a5/\failedOf t=none/\pendingOf t=#[(0,a5.size,0)]/\SortedToK κ (arrOf t) a5.size
 have done:∀t,TB f a5 t->SortedToK κ (arrOf t) a5.size->QG (setPending t<|(pendingOf t).push (0,a5.size,0)):=λt B' S'=>⟨B'.perm,B'.failed,(congrArg (·.push (0,a5.size,0)) B'.pend),S'⟩;rw[sortRuns'_eq];refine aBu (wpS_get ?_);dsimp only;simp only[B.size,e1];refine aBu (wpS_mono (Q:=λr t=>r=(none,a5.size)/\QG t) (aEb (I:=λx r t=>(x=0/\r=(none,0)/\TB f a5 t)\/(0<x/\r=(none,a5.size)/\QG t)) (λx r t _ l2 I=>?step) (λr t I=>?fin)<|.inl ⟨rfl,rfl,B⟩) λr t ⟨e,D⟩=>?post)
 case step=>
  rcases I with⟨rfl,rfl,B'⟩|⟨x0,rfl,D⟩
  ·show wpS _ _ _ _ (if 0>=a5.size then _ else _) _ t;rw[if_neg (by lia)];simp only[Nat.sub_zero,Nat.min_self,aEQ];have fin:∀u,TB f a5 u->(pendingOf u).back?=none:=λu B2=>by rw[B2.pend];rfl
   refine aBu (GK hO h0 (aAg _) (by lia) B' λn u B2 n1 n2 S2=>?_);show wpS _ _ _ _ (if n<a5.size then _ else _) _ u;by_cases hn:n<a5.size
   ·rw[if_pos hn];refine aBu (wpS_lift<|aDr ⟨rfl,aBu (nM hO h0 (aAg _) n2 B2 S2 λv B3 S3=>?_)⟩);simp only[aCW,aAs,if_false];refine aBu (wpS_get ?_);rw[fin v B3];exact aBu (wpS_modify<|aCf<|.inr ⟨aGo _,rfl,done v B3 S3⟩)
   ·rw[if_neg hn];obtain rfl:n=a5.size:=by lia
    refine aBu (wpS_get ?_);rw[fin u B2];exact aBu (wpS_modify<|aCf<|.inr ⟨aGo _,rfl,done u B2 S2⟩)
  ·show wpS _ _ _ _ (if a5.size>=a5.size then _ else _) _ t;rw[if_pos (aAg _)];exact aCf ⟨rfl,D⟩
 case fin=>
  rcases I with⟨z,_⟩|⟨_,e,D⟩
  ·lia
  ·exact⟨e,D⟩
 case post=>
  subst e;refine aBu (wpS_mono (Q:=λr u=>u=t/\r=(none,())) (aEb (I:=λ_ r u=>u=t/\r=(none,())) (λ_ r u _ _ ⟨e,e2⟩=>?istep) (λ_ _ z=>z) ⟨rfl,rfl⟩) λr u ⟨e,e2⟩=>?ipost)
  case istep=>subst e e2;refine aBu (wpS_get ?_);rw[if_pos (by rw[D.2.2.1];exact aAg 1)];exact aCf ⟨rfl,rfl⟩
  case ipost=>subst e e2;exact aCf (q _ D.1 D.2.1 D.2.2.2)
end
end TS
namespace TS
open PySem PyProof.Rows
section
def ZM (a:Addr)(s s6:Shared):Prop:=∀b o,b≠a->s.heap.get? b=some o->s6.heap.get? b=some o
def wD {P:Fin->Shared->Prop}(ho:s.heap.get? a=some (seqObj "list" vs.toArray n))(h0:KeysOf κ (pairsOf vs))(hO:∀s6,ZM a s s6->QH f A s6 κ)(hkk:2<=vs.length->∀s6,ZM a s s6->∀{Q:SortKind->Shared->Prop},Q (tupK f) s6->wpAny (model prog w) A (keyKind' vs.toArray) Q E s6)(h64:vs.length<64)(h:∀st':SortSt,(arrOf st').Perm (pairsOf vs)->SortedToK κ (arrOf st') (pairsOf vs).size->P (.done (.ret .none)) {s with heap:=sortedHeap s.heap a vs ((arrOf st').map (·.2))}):
  wpAny (model prog w) A (Builtin.«list.sort» ⟨[.ref a],[]⟩) P E s:=by
 rw[list_sort_plain];have ha:a<s.heap.objs.size:=aAf ho;refine aAa (aEc ho rfl ?_);refine aAa (listUpdate_at ho rfl ?_);obtain⟨e1,ho1⟩:∃e1,(s.heap.update a<|aBz λ_=>#[]).get? a=some (seqObj "list" #[] e1):=⟨_,get?_update_seq ho _⟩;refine aAa (seqEpoch_at ho1 rfl<|aAa<|aFU<|aAa<|wpAny_newList<|aAK ?_);have ne1:a≠(s.heap.update a<|aBz λ_=>#[]).objs.size:=by rw[Heap.size_update];exact aAj ha
 have bar:ZM a s {s with heap:=((s.heap.update a<|aBz λ_=>#[]).push (seqObj "tuple" vs.toArray 0)).push (seqObj "list" #[] 0)}:=λb o hb e=>aAc _ (aAc _<|(aAr _ _<|aBQ hb).trans e)
 have ho6:(((s.heap.update a<|aBz λ_=>#[]).push (seqObj "tuple" vs.toArray 0)).push (seqObj "list" #[] 0)).get? a=some (seqObj "list" #[] e1):=aAc _ (aAc _ ho1);show wpAny (model prog w) A _ P E {s with heap:=((s.heap.update a<|aBz λ_=>#[]).push (seqObj "tuple" vs.toArray 0)).push (seqObj "list" #[] 0)};dsimp only;have hsz:vs.toArray.size=vs.length:=by simp
 have fin:=h;by_cases h2:vs.toArray.size<2
 ·rw[if_pos h2,if_pos h2];refine aAa (aAb ?_);rw[StateT.run_pure];refine aAa (aAb ?_);dsimp only;refine aAa (seqEpoch_at ho6 rfl (aAa (listUpdate_at ho6 rfl ?_ (hsz2:=by rw[Array.size_map];show(pairsOf vs).size<=_;rw[aER,aFj];lia))));simp only[bne_self_eq_false,aAs,if_false];refine aAb (fin (SortSt.mk' general' (vs.toArray.zip vs.toArray) #[] 7 none) (aGs _) λi j jm hj=>?_);have:i=j:=by rw[aER]at hj;lia
  subst this;exact KeyOrd.kle_refl _
 ·rw[if_neg h2,if_neg h2];refine aAa (hkk (by lia) _ bar ?_);refine aAa (aCb (lN f (κ:=κ) (hO _ bar) (a5:=pairsOf vs) (st:=SortSt.mk' (tupK f) (vs.toArray.zip vs.toArray) #[] 7 none) (Q:=λ_ st'=>(arrOf st').Perm (pairsOf vs)/\failedOf st'=none/\SortedToK κ (arrOf st') (pairsOf vs).size)
   h0 ⟨aGs _,rfl,rfl,rfl⟩ (by rw[aER];lia) (by rw[aER];exact h64) λst' a1 a2 a3=>⟨a1,a2,a3⟩) ?_ λ_ _ e=>e)
  rintro⟨⟨⟩,st'⟩ s' ⟨rfl,hp,hf,hs⟩;dsimp only;refine aAa (seqEpoch_at ho6 rfl (aAa (listUpdate_at ho6 rfl ?_ (hsz2:=by refine aAo (aDY<|(Array.size_map ..).trans (hp.size_eq.trans<|aER _)) ?_;rw[aFj];lia))));rw[hf];simp only[bne_self_eq_false,aAs,if_false];exact aAb (fin st' hp hs)
end
end TS
namespace TS
open PySem PyProof.Rows HT
def rB (f:Bool)(x y:Value):keyLt' (tupK f) x y=(do
 let xs<-aCA x;let ys<-aCA y
 for ((p,q),i)in(xs.toList.zip ys.toList).zipIdx do
  if !(<-eqBool p q)then return<-oneLt' (f&&i==0) p q
 return decide (xs.size<ys.size)):=rfl
def MA:Value->Sem (Option Value):=sortPriv%PySem.Builtin.firstOfTuple?
def NE:Array Value->Sem (Option Value):=sortPriv%PySem.Builtin.oneTypeOnly
def HK (v:Value):MA v=(do
 if(<-typeOf v) !=.type "tuple"then return none
 return (<-aCA v)[0]?):=rfl
def JD (vs:Array Value):NE vs=(do
 let ts<-vs.mapM typeOf
 match ts[0]? with
 |some t=>return if ts.all (· ==t)then some t else none
 |none=>return none):=rfl
def BU (ks:Array Value):keyKind' ks=(do
 let firsts<-ks.mapM MA
 if firsts.all (·.isSome)then
  rule "list.sort.keys-are-tuples"
  return tupK ((<-NE (firsts.filterMap id)).any (· !=.type "tuple"))
 if(firsts[0]?.bind id).isSome then return general'
 return if(<-NE ks).isSome then oneType' else general'):=rfl
section
def JH {Q:uX}(f:Bool)(h:Q (decide (a<b)) s):wpAny (model prog w) A (oneLt' f (.int a t) (.int b u)) Q E s:=by
 cases f with
 |true=>exact oneLt_int h
 |false=>rw[oneLt'_eq];simp only[aAs,if_false];exact aAa (wR A s a t b u prog w _ _<|aBF h)
def lt_ints (f:Bool){Q:uX}(hl:IsTup s.heap l items)(hb:IsTup s.heap b ae)(hi:IntsAre items.toList ns)(hj:IntsAre ae.toList ms)(h:Q (HT.lexLt ns ms) s):wpAny (model prog w) A (keyLt' (tupK f) (.ref l) (.ref b)) Q E s:=by
 obtain⟨o,ho,hc,n,hd⟩:=hl;obtain⟨o2,jg,jc,n2,hd2⟩:=hb;have z1:items.size=ns.length:=by rw[<-hi.length];simp
 have z2:ae.size=ms.length:=by rw[<-hj.length];simp
 rw[rB];refine aAa (aEc ho hd<|aAa<|aEc jg hd2 ?_);refine aAa (aBX _ (λrest b s'=>b.1=none/\s'=s/\∃(k:Nat) (vs ws:List Value) (mn mo:List Int),rest=(vs.zip ws).zipIdx k/\IntsAre vs mn/\IntsAre ws mo/\mn.length+ae.size=mo.length+items.size/\Q (HT.lexLt mn mo) s)
  (λb s'=>s'=s/\(∀c,b.1=some c->Q c s)/\(b.1=none->Q (decide (items.size<ae.size)) s)) ?turn ?fin _ _ ⟨rfl,rfl,0,items.toList,ae.toList,ns,ms,rfl,hi,hj,by lia,h⟩|>λz=>aCb z ?post λ_ _ e=>e)
 case post=>
  rintro⟨b1,b2⟩ s' ⟨rfl,q1,q2⟩;cases b1 with
  |none=>exact aAb (q2 rfl)
  |some c=>exact aAb (q1 c rfl)
 case fin=>
  rintro⟨b1,b2⟩ s' ⟨ja,rfl,k,vs,ws,mn,mo,hz,qd,tf,hlen,hR⟩;refine⟨rfl,λc e=>(by rw[ja]at e;cases e),λ_=>?_⟩;cases qd with
  |nil=>
   cases tf with
   |nil=>rw[N5]at hR;simp only[aBD]at hlen;rw[decide_eq_false (by lia)];exact hR
   |cons c u hw=>rw[E9]at hR;simp only[aBD,aAu]at hlen;rw[decide_eq_true (by lia)];exact hR
  |cons a t hv=>
   cases tf with
   |nil=>rw[y8]at hR;simp only[aBD,aAu]at hlen;rw[decide_eq_false (by lia)];exact hR
   |cons c u hw=>rw[aBC,aEg]at hz;cases hz
 case turn=>
  rintro⟨⟨y,x⟩,i⟩ rest b s' ⟨ja,rfl,k,vs,ws,mn,mo,hz,qd,tf,hlen,hR⟩;cases qd with
  |nil=>rw[aFb,aEx]at hz;cases hz
  |cons a t hvi'=>
   cases tf with
   |nil=>rw[aEK,aEx]at hz;cases hz
   |cons c u hwi'=>
    rw[aBC,aEg]at hz;injection hz with xi af;injection xi with xi hik;injection xi with hy hx;subst hy hx hik;rw[lexLt_cons]at hR;simp only[aAu]at hlen;obtain⟨e,he,oi⟩:=nB A s' a t c u;refine aAa (he prog w _ _ ?_);cases e with
    |true=>rw[if_pos (oi.mp rfl)]at hR;exact aAb ⟨rfl,rfl,_,_,_,_,_,af,hvi',hwi',by lia,hR⟩
    |false=>rw[if_neg (λq=>absurd (oi.mpr q) aAT)]at hR;exact aAa (JH _ (aAb ⟨rfl,λc e=>(by cases e;exact hR),λe=>(by cases e)⟩))
end
end TS
namespace TS
open PySem PyProof.Rows HT
section
theorem DJ {α β:Type}{M:Model}{f:α->Sem β}(g:α->β):∀(xs:List α) {Q:List β->Shared->Prop},(∀x∈xs,∀{Q:β->Shared->Prop},Q (g x) s->wpAny M A (f x) Q E s)->Q (xs.map g) s->wpAny M A (xs.mapM f) Q E s
 |[],Q,_,q=>by rw[List.mapM_nil];exact aAb q
 |x::xs,Q,h,q=>by rw[List.mapM_cons];exact aAa (h x (.head _) (aAa (DJ g xs (λy hy=>h y (.tail _ hy)) (aAb q))))
def DF {α β:Type}{M:Model}{f:α->Sem β}(g:α->β)(xs:List α){Q:Array β->Shared->Prop}(h:∀x∈xs,∀{Q:β->Shared->Prop},Q (g x) s->wpAny M A (f x) Q E s)(q:Q (xs.map g).toArray s):wpAny M A (xs.toArray.mapM f) Q E s:=by rw[List.mapM_toArray];show wpAny M A (List.toArray<$>xs.mapM f) Q E s;rw[map_eq_pure_bind];exact aAa (DJ g xs h<|aAb q)
def kind_tuples {vs:List Value}{f:Bool}{T:String}{Q:SortKind->Shared->Prop}(gf:Value->Value)(h:∀x∈vs,∃a items,x=.ref a/\IsTup s.heap a items/\items[0]?=some (gf x)/\s.TypeIs (gf x) T)(ah:vs≠[])(hf:f=(aCl T !=aCl "tuple"))
  (q:Q (tupK f) s):wpAny (model prog w) A (keyKind' vs.toArray) Q E s:=by
 rw[BU];refine aAa (DF (λx=>some (gf x)) vs (λx hx {Q} q'=>?_) ?_)
 ·obtain⟨a,items,rfl,⟨o,ho,hc,n,hd⟩,h0,_⟩:=h x hx;rw[HK];refine aAa (aDG (T:= "tuple") ⟨o,ho,hc⟩ ?_);rw[if_neg (by simp)];refine aAa (aEc ho hd ?_);rw[h0];exact aAb q'
 ·have e1:((vs.map λx=>some (gf x)).toArray.all λx=>x.isSome)=true:=by simp
  have e2:(vs.map λx=>some (gf x)).toArray.filterMap id=(vs.map gf).toArray:=by
   rw[List.filterMap_toArray,aDf];congr 1;induction vs with
   |nil=>rfl
   |cons v vs ih=>simp
  simp only[e1,if_true,e2];refine aAa (aDr ?_);refine aAa ?_;rw[JD];refine aAa (DF (λ_=>aCl T) (vs.map gf) (λx hx {Q} q'=>?_) ?_)
  ·obtain⟨y,hy,rfl⟩:=aAi.mp hx;obtain⟨_,_,_,_,_,ht⟩:=h y hy;exact aDG ht q'
  ·cases vs with
   |nil=>exact absurd rfl ah
   |cons v vs=>
    simp only[aAv,aBk];have e3:((aCl T::aDi ((λ_=>aCl T)∘gf) vs).toArray.all λx=>x==aCl T)=true:=by simp
    simp only[aBP,aCU,e3,if_true];refine aAb (aAb ?_);rw[hf]at q;exact q
end
end TS
namespace TS
open PySem PyProof.Rows HT
theorem lex_irrefl:∀a:List Int,HT.lexLt a a=false
 |[]=>rfl
 |x::xs=>by rw[lexLt_cons,if_pos rfl];exact lex_irrefl xs
theorem lex_total:∀a b:List Int,HT.lexLt a b=false->HT.lexLt b a=false->a=b
 |[],[],_,_=>rfl
 |[],_::_,h,_=>by rw[E9]at h;cases h
 |_::_,[],_,h=>by rw[E9]at h;cases h
 |x::xs,y::ys,h1,h2=>by
  rw[lexLt_cons]at h1 h2;by_cases e:x=y
  ·subst e;rw[if_pos rfl]at h1 h2;rw[lex_total xs ys h1 h2]
  ·rw[if_neg e]at h1;rw[if_neg (aBQ e)]at h2;have:=of_decide_eq_false h1;have:=of_decide_eq_false h2;omega
theorem lex_trans:∀a b c:List Int,HT.lexLt a b=true->HT.lexLt b c=true->HT.lexLt a c=true
 |[],[],_,h,_=>by rw[N5]at h;cases h
 |[],_::_,[],_,h=>by rw[y8]at h;cases h
 |[],_::_,_::_,_,_=>rfl
 |_::_,[],_,h,_=>by rw[y8]at h;cases h
 |_::_,_::_,[],_,h=>by rw[y8]at h;cases h
 |x::xs,y::ys,z::zs,h1,h2=>by
  rw[lexLt_cons]at h1 h2⊢;by_cases e:x=y
  ·subst e;rw[if_pos rfl]at h1;by_cases e2:x=z
   ·subst e2;rw[if_pos rfl]at h2⊢;exact lex_trans xs ys zs h1 h2
   ·rw[if_neg e2]at h2⊢;exact h2
  ·rw[if_neg e]at h1;have a1:=of_decide_eq_true h1;by_cases e2:y=z
   ·subst e2;rw[if_neg e];exact h1
   ·rw[if_neg e2]at h2;have a2:=of_decide_eq_true h2;rw[if_neg (by omega)];exact decide_eq_true (by omega)
theorem dS:∀a b c:List Int,HT.lexLt a c=true->HT.lexLt a b=true\/HT.lexLt b c=true
 |[],[],_,h=>.inr h
 |[],_::_,_,_=>.inl rfl
 |_::_,_,[],h=>by rw[y8]at h;cases h
 |_::_,[],_::_,_=>.inr rfl
 |x::xs,y::ys,z::zs,h=>by
  rw[lexLt_cons]at h;rw[lexLt_cons,lexLt_cons];by_cases e:x=y
  ·subst e;rw[if_pos rfl];by_cases e2:x=z
   ·subst e2;rw[if_pos rfl]at h⊢;exact dS xs ys zs h
   ·rw[if_neg e2]at h⊢;exact .inr h
  ·rw[if_neg e];by_cases l:x<y
   ·exact .inl (decide_eq_true l)
   ·refine .inr ?_;by_cases e2:x=z
    ·subst e2;rw[if_neg (aBQ e)];exact decide_eq_true (by omega)
    ·rw[if_neg e2]at h;have:=of_decide_eq_true h;rw[if_neg (by omega)];exact decide_eq_true (by omega)
open Classical in
def kV (vs:List Value) (key:Value->List Int):KeyKind where
 α:=List Int
 blt:=HT.lexLt
 irrefl:=lex_irrefl
 trans:=lex_trans
 negTrans:=dS
 total:=lex_total
 keyOf:=λv=>if v∈vs then some (key v)else none
 dflt:=[]
open Classical in
def UL (h:v∈vs):(kV vs key).keyOf v=some (key v):=if_pos h
open Classical in
def VA (e:(kV vs key).keyOf v=some l):v∈vs/\key v=l:=by
 have e':(if v∈vs then some (key v)else none)=some l:=e;split at e'
 ·rename_i h;cases e';exact⟨h,rfl⟩
 ·cases e'
def nT (vs:List Value):(pairsOf vs).toList=vs.map λv=>(v,v):=by
 unfold pairsOf;rw[List.zip_toArray];show vs.zip vs=_;induction vs with
 |nil=>rfl
 |cons v vs ih=>rw[aBC,aAv,ih]
section
def FT {a:Addr}{vs:List Value}{n:Nat}{f:Bool}{key:Value->List Int}{P:Fin->Shared->Prop}(ho:s.heap.get? a=some (seqObj "list" vs.toArray n))
  (ao:∀s6,ZM a s s6->∀x∈vs,∀y∈vs,∀(prog:Program) (w:World) (E:A3) {Q:uX},Q (HT.lexLt (key x) (key y)) s6->wpAny (model prog w) A (keyLt' (tupK f) x y) Q E s6)
  (oh:2<=vs.length->∀s6,ZM a s s6->∀{Q:SortKind->Shared->Prop},Q (tupK f) s6->wpAny (model prog w) A (keyKind' vs.toArray) Q E s6) (h64:vs.length<64)
  (h:∀dh:List Value,dh.Perm vs->dh.Pairwise (λx y=>HT.lexLt (key y) (key x)=false)->P (.done (.ret .none)) {s with heap:=sortedHeap s.heap a vs dh.toArray}):
  wpAny (model prog w) A (Builtin.«list.sort» ⟨[.ref a],[]⟩) P E s:=by
 refine wD (κ:=kV vs key) (f:=f) ho (λp zv=>?_) (λs6 hb prog w E x y k l Q hx hy q=>?_) (λh2 s6 hb {Q} q=>oh h2 s6 hb q) h64 λst' hperm hs=>?_
 ·rw[nT]at zv;obtain⟨v,hv,rfl⟩:=aAi.mp zv;exact⟨key v,UL hv⟩
 ·obtain⟨m1,e1⟩:=VA hx;obtain⟨m2,e2⟩:=VA hy;subst e1 e2;exact ao s6 hb x m1 y m2 prog w E q
 ·have bf:(arrOf st').toList.Perm (vs.map λv=>(v,v)):=by rw[<-nT];exact aED.mp hperm
  have same:∀p∈(arrOf st').toList,p.1=p.2/\p.2∈vs:=λp zv=>by obtain⟨v,hv,rfl⟩:=aAi.mp (bf.mem_iff.mp zv);exact⟨rfl,hv⟩
  have ea:(arrOf st').map (·.2)=((arrOf st').toList.map (·.2)).toArray:=by apply Array.ext';simp
  rw[ea];refine h _ ?_ ?_
  ·have:=bf.map (·.2);rw[aBk,show((λx:Value×Value=>x.2)∘λv=>(v,v))=id from rfl,List.map_id]at this;exact this
  ·rw[aCe];intro i j hi hj jm;have fg:i<(arrOf st').size:=by simpa using hi
   have uo:j<(arrOf st').size:=by simpa using hj
   have hsz:(arrOf st').size=(pairsOf vs).size:=hperm.size_eq;have q:=hs i j (aDl jm) (by rw[<-hsz];exact uo);have kk:∀k (hk:k<(arrOf st').size),KK (kV vs key) (arrOf st') k=key (arrOf st')[k].2:=λk hk=>by unfold KK;rw[getElem?_pos _ k hk];obtain⟨e1,e2⟩:=same (arrOf st')[k] (by simp);show((kV vs key).keyOf (arrOf st')[k].1).getD _=_;rw[e1,UL e2];rfl
   rw[kk i fg,kk j uo]at q;rw[aEh,aEh,aFR,aFR];exact q
def sorted_keys {x:Value}{vs:List Value}{f:Bool}{key:Value->List Int}{Q:A3}{C:Shared->Prop}(hc:∀{Q':List Value->Shared->Prop},(∀s',C s'->Q' vs s')->wpAny (model prog w) A.in1 (collect x) Q' E s)
  (ao:∀s',C s'->∀s6,(∀b o,s'.heap.get? b=some o->s6.heap.get? b=some o)->∀x∈vs,∀y∈vs,∀(prog:Program) (w:World) (A':Around) (E:A3) (hA:A'.units<=A.units+5) {Q:uX},Q (HT.lexLt (key x) (key y)) s6->wpAny (model prog w) A' (keyLt' (tupK f) x y) Q E s6)
  (oh:2<=vs.length->∀s',C s'->∀s6,(∀b o,s'.heap.get? b=some o->s6.heap.get? b=some o)->∀(A:Around) {Q:SortKind->Shared->Prop},Q (tupK f) s6->wpAny (model prog w) A (keyKind' vs.toArray) Q E s6) (h64:vs.length<64)
  (h:∀(s':Shared) (dh:List Value) (h':Heap) (l:Addr),C s'->dh.Perm vs->dh.Pairwise (λx y=>HT.lexLt (key y) (key x)=false)->(∀b o,s'.heap.get? b=some o->h'.get? b=some o)->s'.heap.objs.size<=l->(∃n,h'.get? l=some (seqObj "list" dh.toArray n))->Q (.ref l) {s' with heap:=h'}):
  wpAny (model prog w) A (call (.builtin "sorted") [x]) Q E s:=by
 refine Calls.call_function_entry kind_sorted plain_sorted entry_sorted (args_sorted1 _) ?_;unfold Builtin.«sorted»;refine aAa (m:=checkCount "sorted" 1 1 _) (aAb ?_);refine aAa (hc λs' cs=>?_);refine aAa (wpAny_newList ?_);have hoL:(s'.heap.push<|seqObj "list" vs.toArray 0).get? s'.heap.objs.size=some (seqObj "list" vs.toArray 0):=aAp _ rfl;have kp:∀s6,ZM s'.heap.objs.size {s' with heap:=s'.heap.push (seqObj "list" vs.toArray 0)} s6->∀b o,s'.heap.get? b=some o->s6.heap.get? b=some o:=λs6 hb b o e=>hb b o (aAj<|aAf e) (aAc _ e);refine aAa (aAK (aBv slot_list_sort ⟨_,hoL,rfl⟩ entry_list_sort (FT (key:=key) (f:=f) hoL (λs6 hb x hx y hy prog w E {Q} q=>ao s' cs s6 (kp s6 hb) x hx y hy prog w _ E (by simp) q) (λh2 s6 hb {Q} q=>oh h2 s' cs s6 (kp s6 hb) _ q) h64 λdh hp hs=>⟨_,rfl,?_⟩)<|args_list_sort _));refine aAb ⟨_,rfl,h s' dh _ _ cs hp hs (λb o e=>?_) (aAg _) (sortedHeap_at hoL)⟩;rw[sortedHeap_old (aAj<|aAf e) (by rw[aBo];exact aBf (aAf e))];exact aAc _ e
end
end TS
namespace DL
open PySem PySem.Spec L2
open PyProof.Rows hiding St
def JL:D->Bool
 |.int _=>true
 |_=>false
def N7:D->Bool
 |.tup xs=>!xs.isEmpty&&xs.all JL
 |_=>false
def intD:D->Int
 |.int i=>i
 |_=>0
def flat:D->List Int
 |.tup xs=>xs.map intD
 |_=>[]
theorem OG:∀{xs:List D},xs.all JL=true->xs=(xs.map intD).map D.int
 |[],_=>rfl
 |x::xs,h=>by
  simp only[aGc,aAI]at h;cases x with
  |int i=>show D.int i::xs=D.int i::(xs.map intD).map D.int;rw[<-OG h.2]
  |_=>cases h.1
def cR (h:N7 d=true):flat d≠[]/\d=.tup ((flat d).map .int):=by
 cases d with
 |tup xs=>simp only[N7,aAI,Bool.not_eq_true',List.isEmpty_eq_false_iff]at h;refine⟨by simpa[flat]using h.1,?_⟩;show D.tup xs=D.tup ((xs.map intD).map D.int);rw[<-OG h.2]
 |_=>cases h
def cS (h:N7 d=true)(h':N7 e=true)(q:flat d=flat e):d=e:=by rw[(cR h).2,(cR h').2,q]
theorem qS:∀l:List Int,eS (l.map D.int)=true
 |[]=>rfl
 |i::l=>by show(true&&eS (l.map D.int))=true;rw[qS l];rfl
def z6 (h:N7 d=true):mJ d=true:=by rw[(cR h).2];exact qS _
def mG (h:N7 d=true):B7 d<8:=by
 rw[(cR h).2];have:∀l:List Int,B8 (l.map D.int)=0:=λl=>by
  induction l with
  |nil=>rfl
  |cons i l ih=>show max 0 (B8<|l.map D.int)=0;rw[ih];rfl
 show B8 _+1<8;rw[this];lia
def pM (d:D):List D->List D
 |[]=>[d]
 |x::xs=>if flat d=flat x then x::xs else if HT.lexLt (flat d) (flat x)=true then d::x::xs else x::pM d xs
def W7 (ds:List D):List D:=ds.foldr pM []
def OT (ds:List D):Prop:=ds.Pairwise λx y=>HT.lexLt (flat x) (flat y)=true
theorem gK:∀{xs:List D},e∈pM d xs->e=d\/e∈xs
 |[],h=>by rcases aAd.mp h with h|h;exact .inl h;cases h
 |x::xs,h=>by
  unfold pM at h;split at h
  ·exact .inr h
  ·split at h
   ·rcases aAd.mp h with h|h
    ·exact .inl h
    ·exact .inr h
   ·rcases aAd.mp h with h|h
    ·exact .inr (by rw[h];exact .head _)
    ·rcases gK h with h|h
     ·exact .inl h
     ·exact .inr (.tail _ h)
theorem xX:∀{xs:List D},e∈xs->e∈pM d xs
 |x::xs,h=>by
  unfold pM;split
  ·exact h
  ·split
   ·exact .tail _ h
   ·rcases aAd.mp h with h|h
    ·rw[h];exact .head _
    ·exact .tail _ (xX h)
theorem wF (hd:N7 d=true):∀{xs:List D},(∀x∈xs,N7 x=true)->d∈pM d xs
 |[],_=>.head _
 |x::xs,h=>by
  unfold pM;split
  ·rename_i q;rw[cS hd (h x (.head _)) q];exact .head _
  ·split
   ·exact .head _
   ·exact .tail _ (wF hd λy hy=>h y (.tail _ hy))
theorem yD:∀{xs:List D},OT xs->OT (pM d xs)
 |[],_=>aDM _ _
 |x::xs,h=>by
  have h1:=aAy.mp h;unfold pM;split
  ·exact h
  ·rename_i ne;split
   ·rename_i lt;refine aAy.mpr ⟨λy hy=>?_,h⟩;rcases aAd.mp hy with rfl|hy
    ·exact lt
    ·exact TS.lex_trans _ _ _ lt (h1.1 y hy)
   ·rename_i nlt;refine aAy.mpr ⟨λy hy=>?_,yD h1.2⟩;rcases gK hy with rfl|hy
    ·cases q:HT.lexLt (flat x) (flat y)with
     |true=>rfl
     |false=>exact absurd (TS.lex_total _ _ (by simpa using nlt) q) ne
    ·exact h1.1 y hy
theorem T5:∀ds:List D,OT (W7 ds)
 |[]=>.nil
 |_::ds=>yD (T5 ds)
theorem wL:∀{ds:List D},(∀d∈ds,N7 d=true)->∀d∈W7 ds,N7 d=true
 |[],_,d,h=>by cases h
 |e::ds,h,d,hd=>by
  rcases gK hd with rfl|hd
  ·exact h _ (.head _)
  ·exact wL (λd hd=>h d (.tail _ hd)) d hd
theorem F5:∀{ds:List D},(∀d∈ds,N7 d=true)->∀d,d∈W7 ds↔d∈ds
 |[],_,d=>Iff.rfl
 |e::ds,h,d=>by
  have h':∀d∈ds,N7 d=true:=λd hd=>h d (.tail _ hd);constructor
  ·intro q;rcases gK q with rfl|q
   ·exact .head _
   ·exact .tail _ ((F5 h' d).mp q)
  ·intro q;rcases aAd.mp q with rfl|q
   ·exact wF (h _<|.head _) (wL h')
   ·exact xX ((F5 h' d).mpr q)
theorem cV:∀{xs ys:List D},OT xs->OT ys->(∀d,d∈xs↔d∈ys)->xs=ys
 |[],[],_,_,_=>rfl
 |[],y::ys,_,_,h=>by have:=(h y).mpr (.head _);cases this
 |x::xs,[],_,_,h=>by have:=(h x).mp (.head _);cases this
 |x::xs,y::ys,h1,h2,h=>by
  have a1:=aAy.mp h1;have a2:=aAy.mp h2;have irr:∀d:D,HT.lexLt (flat d) (flat d)≠true:=λd q=>by rw[TS.lex_irrefl]at q;cases q
  have exy:x=y:=by
   rcases aAd.mp ((h x).mp (.head _))with q|q
   ·exact q
   ·rcases aAd.mp ((h y).mpr (.head _))with q2|q2
    ·exact q2.symm
    ·exact absurd (TS.lex_trans _ _ _ (a2.1 x q)<|a1.1 y q2) (irr y)
  subst exy;congr 1;refine cV a1.2 a2.2 λd=>?_;constructor
  ·intro q;rcases aAd.mp ((h d).mp (.tail _ q))with z|z
   ·subst z;exact absurd (a1.1 d q) (irr d)
   ·exact z
  ·intro q;rcases aAd.mp ((h d).mpr (.tail _ q))with z|z
   ·subst z;exact absurd (a2.1 d q) (irr d)
   ·exact z
def FA (h:OT xs):xs.Nodup:=h.imp λ{x y} q z=>by subst z;rw[TS.lex_irrefl]at q;cases q
def gk:D->R (List D)
 |.lst ds=>if ds.all N7=true/\(W7 ds).length<=63 then .ok (W7 ds)else .bad
 |_=>.bad
section
mutual
theorem J3 (I:Inv X pins σ H s):∀{v:V} {d:D} {u:Value},Rep X.K H O v d->mJ d=true->RelV v u->HV s.heap u d
 |_,_,_,.non,e,_=>by cases e
 |_,_,_,.bl,e,_=>by cases e
 |_,_,_,.str,e,_=>by cases e
 |_,_,_,.lst _ _ _,e,_=>by cases e
 |_,_,_,.dct _ _ _,e,_=>by cases e
 |_,_,_,.int,_,r=>by obtain⟨t,rfl⟩:=r;exact .int _ t
 |_,_,_,.tup h r,e,ru=>by cases ru;obtain⟨its,rv,p,_⟩:=I.tuple h;exact .tup p (BZ I r e rv)
theorem BZ (I:Inv X pins σ H s):∀{v:List V} {d:List D} {u:List Value},Reps X.K H O v d->eS d=true->m6 v u->HVs s.heap u d
 |_,_,_,.nil,_,.nil=>.nil
 |_,_,_,.cons r t,e,.cons ru tu=>by have e':(mJ _&&eS _)=true:=e;rw[aAI]at e';exact .cons (J3 I r e'.1 ru) (BZ I t e'.2 tu)
end
end
variable [Tabs]
def WS (w:World)(o:Obj)(es:List Value):Prop:=o.ExactSet/\∃ea ep t,o.data=.set ea ep t/\t.fits ea.size=true/\t.plain=true/\t.led=!w.params.followText "set-order"/\ST.HL t.place/\ea.toList.map (·.2)=es
abbrev t6 (K:PySem.W.Frag)(H:Hp)(O:Addr->Prop):List Value->List D->Prop:=Paired λu d=>∃v,RelV v u/\Rep K H O v d
theorem t6.of {K:PySem.W.Frag}{H:Hp}{O:Addr->Prop}:∀{vs:List V} {us:List Value} {ds:List D},m6 vs us->Reps K H O vs ds->t6 K H O us ds
 |_,_,_,.nil,.nil=>.nil
 |_,_,_,.cons r t,.cons q u=>.cons ⟨_,r,q⟩ (t6.of t u)
theorem t6.ab8 {K:PySem.W.Frag}{H:Hp}{O:Addr->Prop}:∀{us:List Value} {ds:List D},t6 K H O us ds->∃vs,m6 vs us/\Reps K H O vs ds
 |_,_,.nil=>⟨[],.nil,.nil⟩
 |_,_,.cons ⟨v,r,q⟩ t=>let⟨vs,r',q'⟩:=t6.ab8 t;⟨v::vs,.cons r r',.cons q q'⟩
def t6.same {K:PySem.W.Frag}{H H':Hp}{O:Addr->Prop}(s:Same H H'){us:List Value}{ds:List D}(h:t6 K H O us ds):t6 K H' O us ds:=cK (λ_ _ ⟨v,r,q⟩=>⟨v,r,q.same s⟩) h
theorem t6.get {K:PySem.W.Frag}{H:Hp}{O:Addr->Prop}:∀{us:List Value} {ds:List D} {u:Value},t6 K H O us ds->u∈us->∃d∈ds,∃v,RelV v u/\Rep K H O v d
 |_,_,_,.cons r t,h=>by
  rcases aAd.mp h with rfl|h
  ·exact⟨_,.head _,r⟩
  ·obtain⟨d,hd,q⟩:=t6.get t h;exact⟨d,.tail _ hd,q⟩
open Classical in
def N8 (K:PySem.W.Frag) (H:Hp) (h:Heap):Heap:=PySem.W.hideAll h ((aBy h.objs.size).filter λa=>decide (¬∃xs,T2 K H a xs))
def X6 (K:PySem.W.Frag)(H:Hp)(h:Heap):Keeps (N8 K H h) h:=λb o e=>PySem.W.of_hideAll _ e
open Classical in
def xC {K:PySem.W.Frag}{H:Hp}{h:Heap}{b:Addr}{o:Obj}{xs:List V}(e:h.get? b=some o)(q:T2 K H b xs):(N8 K H h).get? b=some o:=PySem.W.hideAll_get _ e λhm=>by have:=(aDk.mp hm).2;exact(of_decide_eq_true this) ⟨xs,q⟩
open Classical in
def AM {K:PySem.W.Frag}{H:Hp}{h:Heap}{b:Addr}{o:Obj}(e:(N8 K H h).get? b=some o):∃xs,T2 K H b xs:=by refine Classical.byContradiction λn=>?_;have e':=X6 K H h b o e;have:(N8 K H h).get? b=none:=PySem.W.hideAll_none _ (aDk.mpr ⟨aCr.mpr (aAf e'),decide_eq_true n⟩);rw[this]at e;cases e
section
mutual
theorem KL (I:Inv X pins σ H s):∀{v:V} {d:D} {u:Value},Rep X.K H O v d->mJ d=true->RelV v u->HV (N8 X.K H s.heap) u d
 |_,_,_,.non,e,_=>by cases e
 |_,_,_,.bl,e,_=>by cases e
 |_,_,_,.str,e,_=>by cases e
 |_,_,_,.lst _ _ _,e,_=>by cases e
 |_,_,_,.dct _ _ _,e,_=>by cases e
 |_,_,_,.int,_,r=>by obtain⟨t,rfl⟩:=r;exact .int _ t
 |_,_,_,.tup h r,e,ru=>by cases ru;obtain⟨its,rv,⟨o,g,c,n,d⟩,_⟩:=I.tuple h;exact .tup ⟨o,xC g h,c,n,d⟩ (DU I r e rv)
theorem DU (I:Inv X pins σ H s):∀{v:List V} {d:List D} {u:List Value},Reps X.K H O v d->eS d=true->m6 v u->HVs (N8 X.K H s.heap) u d
 |_,_,_,.nil,_,.nil=>.nil
 |_,_,_,.cons r t,e,.cons ru tu=>by have e':(mJ _&&eS _)=true:=e;rw[aAI]at e';exact .cons (KL I r e'.1 ru) (DU I t e'.2 tu)
end
mutual
theorem KD (I:Inv X pins σ H s):∀{u:Value} {d:D},HV (N8 X.K H s.heap) u d->∃v,RelV v u/\Rep X.K H O v d
 |_,_,.int i t=>⟨.int i,⟨t,rfl⟩,.int⟩
 |_,_,.tup (a:=a) ⟨o,g,c,n,dd⟩ r=>by obtain⟨xs,q⟩:=AM g;obtain⟨vs,r1,r2⟩:=t6.ab8 (DV I r);obtain⟨its,rv,⟨o',g',_,n',d'⟩,_⟩:=I.tuple q;rw[X6 _ _ _ _ _ g]at g';cases g';rw[dd]at d';injection d' with d1 _;subst d1;have:vs=xs:=r1.inj (by simpa using rv);subst this;exact⟨.ref a,rfl,.tup q r2⟩
theorem DV (I:Inv X pins σ H s):∀{u:List Value} {d:List D},HVs (N8 X.K H s.heap) u d->t6 X.K H O u d
 |_,_,.nil=>.nil
 |_,_,.cons r t=>.cons (KD I r) (DV I t)
end
end
section
def aw (X:Cx)(B:D->Bool)(U:List D->List D)(f:Ev->R D):TE:=λσ H Q=>∃H9 O0 O ρ,EnvOk X.K H9 O0 H O σ ρ/\match f ρ with
 |.ok (.lst ds)=>(ds.all B=true/\(U ds).length<=63)/\∀S o es au H1,Same H H1->H1 S=none->WS X.w o es->t6 X.K H1 O es au->au.Nodup->(∀d,d∈au↔d∈ds)->Q (.ref S) (upd H1 S<|.frz o (.own S))
 |.ex x=>∀H',Same H H'->XW X x H'
 |_=>False
def CN {B:D->Bool}{U:List D->List D}(hB:∀{d},B d=true->mJ d=true/\B7 d<8/\∃ys,d=.tup ys)(hU:∀{ds:List D},(∀d∈ds,B d=true)->∀d,d∈U ds↔d∈ds)(ha:PB X e f)(hh:X.calm=true)(hu:X.A.units+300<cLine)(hg:Gl X "set":=by rfl)(hm:X.mg "set"=none:=by assumption)(hv:bootBuiltins "set"=some (.type "set"):=by decide+kernel)(he:starEach [e] X.env=(false,eval e X.env)::starEach [] X.env:=by rfl)(bf:(backTo pos (starEach [] X.env)).any (·.1)=false:=by rfl):
  PE X (.Call (.Name "set" p) [e] [] pos) (aw X B U f):=by
 refine uJ λpins s σ H Q I H9 O0 O ρ E q=>?_;refine aAM (K9 I hg hm hv ?_ (by decide) (by decide));have ku:PA X [e] _:=J1 ha X1 he;refine aBb (D8 (ku pos pins s σ H (λvs H1=>∃v ds,vs=[v]/\f ρ=.ok (.lst ds)/\Same H H1/\A5 X.K H1 O v (.lst ds)) I ⟨H9,O0,O,ρ,E,?_⟩) λus s1 ⟨vs,H1,I1,r1,v,ds,ev,ef,sm,rb⟩=>?_) he bf
 ·cases e1:f ρ with
  |ex z=>rw[e1]at q;exact q
  |bad=>rw[e1]at q;exact q.elim
  |ok d=>
   rw[e1]at q;cases d with
   |lst ds=>exactλv H1 s1 r1=>⟨v,ds,rfl,rfl,s1,r1⟩
   |_=>exact q.elim
 ·subst ev;rw[ef]at q;obtain⟨⟨hp,nh⟩,q⟩:=q;obtain⟨a,ws,rfl,hS,rr⟩:=rb.aa5;obtain⟨u,rfl,ru⟩:=vals1 r1;cases ru;obtain⟨its,rv,⟨oL,nL,gL,cL,dL,sL⟩,zL⟩:=I1.list hS;have pt:∀d∈ds,B d=true:=aAW.mp hp;have hlen:its.toArray.size=ds.length:=by rw[aAm,<-rv.length,rr.length]
  have st:t6 X.K H1 O its ds:=t6.of rv rr;have goes:∀(i:Nat) (v:Value),its.toArray[i]?=some v->ZE (N8 X.K H1 s1.heap) v (ds.getD i .non):=λi v hi=>by
   rw[aBP]at hi;obtain⟨d,hd,w,jt,rp⟩:=A4 st hi;have ko:ds.getD i .non=d:=by rw[aAn,hd];rfl
   rw[ko];have hpt:=pt d (aAt hd);obtain⟨ho,hd8,ys,rfl⟩:=hB hpt;have hv:=KL I1 rp ho jt;cases hv with
   |tup p r=>exact⟨_,_,rfl,rfl,hd8,.tup p r⟩
  have vd:∀i<its.toArray.size,B7 (ds.getD i .non)<8/\∃ys,ds.getD i .non=.tup ys:=λi hi=>by
   have fg:i<ds.length:=by rw[<-hlen];exact hi
   have e1:ds.getD i .non=ds[i]:=by rw[aAn,aAh fg];rfl
   rw[e1];exact(hB<|pt _<|aBN fg).2
  refine xP (X6 X.K H1 s1.heap) (val:=λi=>ds.getD i .non) (U:=U ds) (I1.ok.hd hh) ⟨oL,gL,cL,nL,sL⟩ goes vd (λi hi=>?_) (by lia) hu λh' tk au gc qt kp=>?_
  ·have fg:i<ds.length:=by rw[<-hlen];exact hi
   rw[hU pt];have e1:ds.getD i .non=ds[i]:=by rw[aAn,aAh fg];rfl
   show ds.getD i .non∈ds;rw[e1];exact aBN fg
  ·obtain⟨⟨o,es,ep,t,ho,hc,yv,xp,hd,sok,msk,pr,led,pl⟩,nd⟩:=gc;have mem:∀d,d∈au↔d∈ds:=λd=>by
    rw[qt];constructor
    ·rintro⟨j,hj,e1⟩;have uo:j<ds.length:=by rw[<-hlen];exact hj
     have e2:ds.getD j .non=ds[j]:=by rw[aAn,aAh uo];rfl
     rw[<-e1,e2];exact aBN uo
    ·intro hd;obtain⟨j,hj,e1⟩:=aBs hd;refine⟨j,by rw[hlen];exact hj,?_⟩;show ds.getD j .non=d;rw[aAn,aAh hj,<-e1];rfl
   have I2:=I1.laid (a:=s1.heap.objs.size) (o:=.frz o (.own s1.heap.objs.size)) (h':=h') (t':=tk) kp (aAg _) ⟨ho,o,ho⟩;refine⟨.ref s1.heap.objs.size,_,I2,rfl,q s1.heap.objs.size o (es.toList.map (·.2)) au H1 sm (I1.hok.fresh<|aAg _) ⟨⟨hc,yv,xp⟩,es,ep,t,hd,?_,pl,led,sok.tab.asc,rfl⟩ ?_ nd mem⟩
   ·have h1:=sok.len;have h2:=sok.room;simp only[aGe,aAI,beq_iff_eq,decide_eq_true_eq];exact⟨by simpa using h1,by show t.place.size+t.dummies.size<=t.mask;rw[sok.tab.nod];simpa using h2⟩
   ·have:∀{es:List (Int×Value)} {ds:List D},Paired (EV<|N8 X.K H1 s1.heap) es ds->t6 X.K H1 O (es.map (·.2)) ds:=λ{es ds} p=>by
     induction p with
     |nil=>exact .nil
     |cons r _ ih=>exact .cons (KD I1 r.1) ih
    exact this pr
def FE (h:Heap) (v:Value):List Int:=open Classical in if p:∃d,N7 d=true/\HV h v d then flat p.choose else[]
def dC (hp:N7 d=true)(hv:HV h v d):FE h v=flat d:=by unfold FE;have q:∃d,N7 d=true/\HV h v d:=⟨d,hp,hv⟩;rw[dif_pos q,HV.inj q.choose_spec.2 hv]
def F6 (hp:N7 d=true)(hv:HV h v d):∃b items,v=.ref b/\IsTup h b items/\IntsAre items.toList (flat d):=by
 rw[(cR hp).2]at hv;cases hv with
 |tup p r=>
  refine⟨_,_,rfl,p,?_⟩;have:∀{vs:List Value} {l:List Int},HVs h vs (l.map D.int)->IntsAre vs l:=λ{vs l} r=>by
   induction l generalizing vs with
   |nil=>cases r;exact .nil
   |cons i l ih=>
    cases r with
    |cons r t=>cases r;exact .cons _ _ (ih t)
  exact this r
def MB {prog:Program}{w:World}{A:Around}{E:A3}{s:Shared}{x y:Value}{d e:D}{f:Bool}{Q:uX}(hd:N7 d=true)(he:N7 e=true)(hx:HV s.heap x d)(hy:HV s.heap y e)(q:Q (HT.lexLt (flat d) (flat e)) s):wpAny (model prog w) A (keyLt' (TS.tupK f) x y) Q E s:=by obtain⟨b,its,rfl,t1,i1⟩:=F6 hd hx;obtain⟨b',its',rfl,t2,i2⟩:=F6 he hy;exact TS.lt_ints f t1 t2 i1 i2 q
def xI {prog:Program}{w:World}{A:Around}{E:A3}{s:Shared}{vs:List Value}{Q:SortKind->Shared->Prop}(h:∀x∈vs,∃d,N7 d=true/\HV s.heap x d)(h2:2<=vs.length)(q:Q (TS.tupK true) s):wpAny (model prog w) A (keyKind' vs.toArray) Q E s:=by
 obtain⟨gf,hgf⟩:∃gf:Value->Value,∀x∈vs,∃b items k t,x=.ref b/\IsTup s.heap b items/\items[0]?=some (gf x)/\gf x=.int k t:=by
  refine⟨λx=>open Classical in if z:∃p,∃b items k t,x=.ref b/\IsTup s.heap b items/\items[0]?=some p/\p=aGr k t then z.choose else .none,λx hx=>?_⟩;obtain⟨d,hp,hv⟩:=h x hx;obtain⟨b,items,rfl,ht,hi⟩:=F6 hp hv;have hn:=(cR hp).1;have z:∃p,∃b' items k t,aDv b=.ref b'/\IsTup s.heap b' items/\items[0]?=some p/\p=aGr k t:=by
   cases e:items.toList with
   |nil=>rw[e]at hi;generalize flat d=l at hi hn;cases hi;exact absurd rfl hn
   |cons p ps=>
    rw[e]at hi;generalize flat d=l at hi;cases hi with
    |cons k t h'=>exact⟨_,b,items,k,t,rfl,ht,by rw[<-aAA,e];rfl,rfl⟩
  dsimp only;rw[dif_pos z];obtain⟨b',rh,k,t,q1,q2,q3,q4⟩:=z.choose_spec;exact⟨b',rh,k,t,q1,q2,q3,q4⟩
 refine TS.kind_tuples (T:= "int") gf (λx hx=>?_) (λz=>by rw[z]at h2;simp at h2) (by decide) q;obtain⟨b,items,k,t,q1,q2,q3,q4⟩:=hgf x hx;exact⟨b,items,q1,q2,q3,by rw[q4];exact typeIs_int s k t⟩
def iD {K:PySem.W.Frag}{H:Hp}{O:Addr->Prop}{us us':List Value}{ds:List D}{key:Value->List Int}(st:t6 K H O us ds)(hp:us'.Perm us)(hs:us'.Pairwise λx y=>HT.lexLt (key y) (key x)=false)(hk:∀u d,(∃v,RelV v u/\Rep K H O v d)->d∈ds->key u=flat d)(pt:∀d∈ds,N7 d=true)(nd:ds.Nodup):
  ∃au,t6 K H O us' au/\au.Perm ds/\OT au:=by
 obtain⟨au,p',st'⟩:=O7 hp st;refine⟨au,st',p',?_⟩;have nd':au.Nodup:=p'.nodup_iff.mpr nd;have xt:∀d∈au,N7 d=true:=λd hd=>pt d (p'.mem_iff.mp hd);have kr:∀u d,(∃v,RelV v u/\Rep K H O v d)->d∈au->key u=flat d:=λu d h hd=>hk u d h (p'.mem_iff.mp hd);clear hp p' st nd pt hk;induction st' with
 |nil=>exact .nil
 |@cons u d us ds r t ih=>
  have h1:=aAy.mp hs;have n1:=aAE.mp nd';refine aAy.mpr ⟨λe he=>?_,ih h1.2 n1.2 (λd hd=>xt d (.tail _ hd)) λu d h hd=>kr u d h (.tail _ hd)⟩;have:∃u'∈us,∃v,RelV v u'/\Rep K H O v e:=by
   clear ih hs h1 n1 nd' xt kr r;induction t with
   |nil=>cases he
   |cons r t ih=>
    rcases aAd.mp he with rfl|he
    ·exact⟨_,.head _,r⟩
    ·obtain⟨u',hu,q⟩:=ih he;exact⟨u',.tail _ hu,q⟩
  obtain⟨u',hu,q⟩:=this;have l:=h1.1 u' hu;rw[kr u' e q (.tail _ he),kr u d r (.head _)]at l;cases z:HT.lexLt (flat d) (flat e)with
  |true=>rfl
  |false=>have:=cS (xt _<|.head _) (xt _<|.tail _ he) (TS.lex_total _ _ z l);subst this;exact absurd he n1.1
def gN {p p2 bp:Pos}{f:Ev->R D}(ha:PB X e f)(hh:X.calm=true)(hu:X.A.units+300<cLine)(hg:Gl X "set":=by rfl)(hm:X.mg "set"=none:=by assumption)(za:Gl X "sorted":=by rfl)(jr:X.mg "sorted"=none:=by assumption)
  (hv:bootBuiltins "set"=some (.type "set"):=by decide+kernel) (zb:bootBuiltins "sorted"=some (.builtin "sorted"):=by decide+kernel)
  (he:starEach [e] X.env=(false,eval e X.env)::starEach [] X.env:=by rfl) (bf:(backTo bp (starEach [] X.env)).any (·.1)=false:=by rfl)
  (lu:starEach [.Call (.Name "set" p2) [e] [] bp] X.env=(false,eval (.Call (.Name "set" p2) [e] [] bp) X.env)::starEach [] X.env:=by rfl) (sr:(backTo pos (starEach [] X.env)).any (·.1)=false:=by rfl):
  PF X (.Call (.Name "sorted" p) [.Call (.Name "set" p2) [e] [] bp] [] pos) (λρ=>(f ρ).bind gk):=by
 refine uJ λpins s σ H Q I H9 O0 O ρ E q=>?_;dsimp only at q;refine aAM (K9 I za jr zb ?_ (by decide) (by decide));have ku:PA X [.Call (.Name "set" p2) [e] [] bp] _:=J1 (CN (p:=p2) (B:=N7) (U:=W7) (λh=>⟨z6 h,mG h,_,(cR h).2⟩) F5 ha hh hu hg hm hv he bf) X1 lu;refine aBq (D8 (ku pos pins s σ H (λvs H2=>∃S o es au ds H1,vs=[.ref S]/\H2=upd H1 S (.frz o (.own S))/\f ρ=.ok (.lst ds)/\(ds.all N7=true/\(W7 ds).length<=63)/\Same H H1/\H1 S=none/\WS X.w o es/\t6 X.K H1 O es au/\au.Nodup/\(∀d,d∈au↔d∈ds)) I ⟨H9,O0,O,ρ,E,?_⟩)
  λus s1 z=>?_) lu sr
 ·cases e1:f ρ with
  |ex z=>rw[e1]at q;exact q
  |bad=>rw[e1]at q;exact q.elim
  |ok d=>
   rw[e1,R.aa0]at q;cases d with
   |lst ds=>
    simp only[gk]at q;by_cases hc:ds.all N7=true/\(W7 ds).length<=63
    ·exact⟨hc,λS o es au H1 sm hS so st nd mem=>⟨S,o,es,au,ds,H1,rfl,rfl,rfl,hc,sm,hS,so,st,nd,mem⟩⟩
    ·rw[if_neg hc]at q;exact q.elim
   |_=>exact q.elim
 ·obtain⟨vs,H2,I2,r1,S,o,es,au,ds,H1,ev,eH,ef,⟨hp,nh⟩,sm,hS1,so,st,nd,mem⟩:=z;subst ev eH;obtain⟨u,rfl,ru⟩:=vals1 r1;cases ru;rw[ef,R.aa0]at q;simp only[gk]at q;rw[if_pos ⟨hp,nh⟩]at q;have pt:∀d∈ds,N7 d=true:=aAW.mp hp;have xt:∀d∈au,N7 d=true:=λd hd=>pt d ((mem d).mp hd);have s12:Same H1 (upd H1 S<|.frz o (.own S)):=j7 hS1 _;have iu:=st.same s12;obtain⟨hc,ea,ep,t,hd,hf,hpln,led,asc,ees⟩:=so;have goS:=(I2.hok S _ j4).1;have hS2:SI.IsSet s1.heap S ea ep t:=⟨o,goS,hc.1,hd⟩;have xp:(W7 ds).Perm au:=by
   letI:DecidableEq D:=λa b=>aCX _
   exact(aCa (FA<|T5 ds) nd).mpr λd=>by rw[F5 pt,mem]
  have hsz:ea.size=au.length:=by have:=st.length;rw[<-ees]at this;simpa using this
  have h63':au.length<=63:=by rw[<-xp.length_eq];exact nh
  have wp:=SI.walkL_perm X.w S ea ep;have wpv:((SI.walkL X.w S ea ep).map (·.2)).Perm es:=by rw[<-ees];exact wp.map _
  have each:∀u∈(SI.walkL X.w S ea ep).map (·.2),∃d,d∈au/\N7 d=true/\HV s1.heap u d:=λu hu=>by obtain⟨d,hd,v,rv,rp⟩:=iu.get (wpv.mem_iff.mp hu);exact⟨d,hd,xt d hd,J3 I2 rp (z6<|xt d hd) rv⟩
  refine TS.sorted_keys (vs:=(SI.walkL X.w S ea ep).map (·.2)) (f:=true) (key:=FE s1.heap) (C:=λs'=>∃h' tk,s'={s1 with heap:=h',toks:=tk}/\∀b o,s1.heap.get? b=some o->h'.get? b=some o)
   (λ{Q'} hq=>SI.collect_set (by simp[I2.ok.hd hh]) hS2 hf hpln (λnb=>by rw[led];simpa using nb) asc (by rw[hsz];exact aAo h63' (by decide)) λh' tk k=>hq _ ⟨h',tk,rfl,k⟩)
   (λs' ⟨h',tk,es',k⟩ s6 k6 x hx y hy prog w A E hA {Q} qq=>?_) (λh2 s' ⟨h',tk,es',k⟩ s6 k6 A {Q} qq=>?_) (by rw[aAl,wp.length_eq,aAU,hsz];lia) λs' dh h' l ⟨h1,tk,es',k⟩ pm we k2 hl ⟨n,gl⟩=>?_
  ·subst es';obtain⟨d,_,pd,kh⟩:=each x hx;obtain⟨d',_,wg,ki⟩:=each y hy;rw[dC pd kh,dC wg ki]at qq;exact MB pd wg (kh.keeps λb o e _=>k6 b o (k b o e)) (ki.keeps λb o e _=>k6 b o (k b o e)) qq
  ·subst es';refine xI (λx hx=>?_) h2 qq;obtain⟨d,_,pd,kh⟩:=each x hx;exact⟨d,pd,kh.keeps λb o e _=>k6 b o (k b o e)⟩
  ·subst es';obtain⟨jo,ye,p2,ni⟩:=iD (key:=FE s1.heap) iu (pm.trans wpv) we (λu d ⟨v,rv,rp⟩ hd=>dC (xt d hd) (J3 I2 rp (z6<|xt d hd) rv)) xt nd;have e2:jo=W7 ds:=cV ni (T5 ds) λd=>by rw[p2.mem_iff,mem,F5 pt]
   subst e2;obtain⟨wv,jt,rr⟩:=ye.ab8;have I2':=I2.kept (h':=h1) (t':=tk) k;have I3:=I2'.laid (a:=l) (o:=.lst wv) (h':=h') (t':=tk) k2 hl ⟨by rw[rr.length];exact aAo nh (by decide),dh,n,jt,gl⟩;exact⟨.ref l,_,I3,rfl,q wv _ l (sm.trans s12) (I2'.hok.fresh hl) rr⟩
end
end DL
namespace SZ
open PySem
abbrev Zs (h:Heap)(z TI TO:Addr)(f0 f1:Value):Prop:=h.get? z=some {cls:=.type "zip",dict:=none,data:=.fields #[f0,f1,.bool false,.ref TI,.ref TO],slots:=#[]}
def wQ (f0:Value):Prop:=f0=.none\/∃a:Nat,f0=rawInt a
section
def alive {Q:Option Obj->Shared->Prop}(h:Q (s.heap.get? c) s):wpAny (model prog w) A (loadIfAlive c) Q E s:=λΓ p _=>by unfold loadIfAlive;rw[Sem.wp_loadIfAlive];simpa using h
def mI {Q:uX}(hz:Zs s.heap z TI TO f0 f1)(ho:wQ f0)(q1:Q true s)(q2:∀h' f1',Zs h' z TI TO f0 f1'->Heap.SameBut z s.heap h'->Q false {s with heap:=h'}):wpAny (model prog w) A (aBO (.ref z)) Q E s:=by
 unfold aBO;refine aAa (aCJ hz rfl (x:=f0) rfl ?_);rcases ho with rfl|⟨a,rfl⟩
 ·exact aAb q1
 ·show wpAny _ _ (loadIfAlive (aEw (a:Int))>>=_) _ _ _;refine aAa (alive ?_);by_cases hn:(s.heap.get?<|aEw (a:Int)).isNone=true
  ·rw[if_pos hn];exact aAb q1
  ·rw[if_neg hn];refine aAa (aCJ hz rfl (x:=f1) rfl ?_);by_cases hb:(f1 !=aDc true)=true
   ·rw[if_pos hb];refine aAa (aBU hz (by simp) λh' e' s'=>aAb (q2 h' (.bool true) e' s'))
   ·rw[if_neg hb];exact aAb (q2 s.heap f1 hz ⟨rfl,λ_ _=>rfl⟩)
def KF {Q:A3}(D:ZipApart z TI TO i1 i2 l1 l2)(hz:Zs s.heap z TI TO f0 f1)(ho:wQ f0)(va:IsPair s.heap TI (.ref i1) (.ref i2))(ug:IsPair s.heap TO a b)(h1:s.heap.IsListIter i1 l1 k)(h2:s.heap.IsListIter i2 l2 k)(rf:s.heap.IsList l1 xs)(og:s.heap.IsList l2 ys)(hx:xs[k]?=some x)(hy:ys[k]?=some y)(hQ:∀h' T f0' f1' a' b',Zs h' z TI TO f0' f1'->wQ f0'->IsPair h' TO a' b'->h'.IsListIter i1 l1 (k+1)->h'.IsListIter i2 l2 (k+1)->s.heap.objs.size<=T->IsPair h' T x y->
   (∀c o,c≠z->c≠TO->c≠i1->c≠i2->s.heap.get? c=some o->h'.get? c=some o)->Q (.ref T) {s with heap:=h'}):
  wpAny (model prog w) A (Builtin.«zip.__next__» ⟨[.ref z],[]⟩) (λfin s'=>∃v,fin=.done (.ret v)/\Q v s') E s:=by
 show wpAny _ _ (field (.ref z) 2>>=_) _ _ _;refine aAa (aCJ hz rfl (x:=.bool false) rfl ?_);show wpAny _ _ (field (.ref z) 3>>=_) _ _ _;refine aAa (aCJ hz rfl (x:=.ref TI) rfl ?_);refine aAa (aBp va rfl ?_);show wpAny _ _ (aBO (.ref z)>>=_) _ _ _;refine aAa (mI hz ho ?_ λh₁ f1' xu ip=>?_)
 ·simp only[if_true];refine aAa (aDr ?_);refine aAa (aCJ hz rfl (x:=.ref TO) rfl ?_);refine aAa (aBU hz (by simp) λh₁ xu ip=>?_);replace xu:Zs h₁ z TI TO .ellipsis f1:=xu;refine aAa ?_;simp only[aEg,aEx,aCR,aDV];refine aAa (aAa<|wpAny_onRaise ?_);show wpAny _ _ (aBL (.ref i1)>>=_) _ _ _;refine aAa (aDe (h1.extBut ip.extBut D.i1z) (rf.extBut ip.extBut D.l1z) hx λgm h10 ma=>aAb ?_);have hTO3:IsPair gm TO a b:=ma.extBut _ _ D.TOi1 (ip.extBut _ _ D.TOz ug);refine aAa (aBp hTO3 rfl ?_);refine aAa (wpAny_updateSeq_pair hTO3 λaA hTO2 zc=>?_);replace hTO2:IsPair aA TO x b:=hTO2;refine aAa (aCL<|aAb ?_);refine aAa (aAa<|wpAny_onRaise ?_);show wpAny _ _ (aBL (.ref i2)>>=_) _ _ _;refine aAa (aDe (((h2.extBut ip.extBut D.i2z).extBut ma.extBut D.i12.symm).extBut zc.extBut D.TOi2.symm)
   (((og.extBut ip.extBut D.l2z).extBut ma.extBut D.l2i1).extBut zc.extBut D.l2TO) hy λhV h20 wo=>aAb ?_)
  have zd:IsPair hV TO x b:=wo.extBut _ _ D.TOi2 hTO2;refine aAa (aBp zd rfl ?_);refine aAa (wpAny_updateSeq_pair zd λh9 ze hs7=>?_);replace ze:IsPair h9 TO x y:=ze;refine aAa (aCL<|aAb<|aAb ?_);refine aAa (aBp ze rfl ?_);refine aAa (aFU ?_);have hsz:h9.objs.size=s.heap.objs.size:=by rw[hs7.1,wo.1,zc.1,ma.1,ip.1]
  have hz3:Zs h9 z TI TO .ellipsis f1:=hs7.extBut _ _ D.TOz.symm (wo.extBut _ _ D.i2z.symm<|zc.extBut _ _ D.TOz.symm<|ma.extBut _ _ D.i1z.symm xu);have hk3:∀c o,c≠z->c≠TO->c≠i1->c≠i2->s.heap.get? c=some o->h9.get? c=some o:=λc o c1 c2 c3 c4 e=>hs7.extBut _ _ c2 (wo.extBut _ _ c4<|zc.extBut _ _ c2<|ma.extBut _ _ c3<|ip.extBut _ _ c1 e)
  have h11:h9.IsListIter i1 l1 (k+1):=((h10.extBut zc.extBut D.TOi1.symm).extBut wo.extBut D.i12).extBut hs7.extBut D.TOi1.symm;have h21:h9.IsListIter i2 l2 (k+1):=h20.extBut hs7.extBut D.TOi2.symm;have hzlt:z<h9.objs.size:=aAf hz3;show wpAny _ _ (aDz (.ref z) (.ref h9.objs.size)>>=_) _ _ _;refine aAa ?_;unfold aDz;have hz5:Zs (h9.push {cls:=.type "tuple",data:=.seq #[x,y]}) z TI TO .ellipsis f1:=aAc _ hz3;refine aAa (aBU hz5 (by simp) λaC hz1 hs8=>?_);replace hz1:Zs aC z TI TO (rawInt h9.objs.size) f1:=hz1;refine aBU hz1 (by simp) λaB hz2 hs9=>?_;replace hz2:Zs aB z TI TO (rawInt h9.objs.size) (.bool false):=hz2;have up:∀c o,c≠z->h9.get? c=some o->aB.get? c=some o:=λc o c1 e=>hs9.extBut _ _ c1 (hs8.extBut _ _ c1<|aAc _ e);have hT0:IsPair aB h9.objs.size x y:=hs9.extBut _ _ (aCD hzlt) (hs8.extBut _ _ (aCD hzlt)<|aAp _ rfl);refine aAb ⟨_,rfl,?_⟩;exact hQ aB h9.objs.size _ _ x y hz2 (.inr ⟨_,rfl⟩) (up _ _ D.TOz ze) (h11.at λo e=>up _ o D.i1z e) (h21.at λo e=>up _ o D.i2z e) (aDY hsz.symm) hT0 λc o c1 c2 c3 c4 e=>up c o c1 (hk3 c o c1 c2 c3 c4 e)
 ·simp only[aAs,if_false];refine aAa ?_;show wpAny _ _ (forIn (#[.ref i1,.ref i2]:Array Value) _ _) _ _ _;rw[<-aCm];simp only[aCR,aDV];refine aAa (aAa<|aAK ?_);show wpAny _ _ (aBL (.ref i1)>>=_) _ _ _;refine aAa (aDe (h1.extBut ip.extBut D.i1z) (rf.extBut ip.extBut D.l1z) hx λgm h10 ma=>aAb ?_);refine aAb ?_;refine aAa (aAa<|aAK ?_);show wpAny _ _ (aBL (.ref i2)>>=_) _ _ _;refine aAa (aDe ((h2.extBut ip.extBut D.i2z).extBut ma.extBut D.i12.symm) ((og.extBut ip.extBut D.l2z).extBut ma.extBut D.l2i1) hy λhV h20 wo=>aAb ?_);refine aAb (aAb ?_);have hsz:hV.objs.size=s.heap.objs.size:=by rw[wo.1,ma.1,ip.1]
  have hz6:Zs hV z TI TO f0 f1':=wo.extBut _ _ D.i2z.symm (ma.extBut _ _ D.i1z.symm xu);have zd:IsPair hV TO a b:=wo.extBut _ _ D.TOi2 (ma.extBut _ _ D.TOi1<|ip.extBut _ _ D.TOz ug);have h12:hV.IsListIter i1 l1 (k+1):=h10.extBut wo.extBut D.i12;show wpAny _ _ (newTuple [x,y]>>=_) _ _ _;refine aAa (aFU ?_);refine aAb ⟨_,rfl,?_⟩;exact hQ _ hV.objs.size _ _ a b (aAc _ hz6) ho (aAc _ zd) (h12.at λo e=>aAc _ e) (h20.at λo e=>aAc _ e) (aDY hsz.symm) (aAp _ rfl)
   λc o c1 c2 c3 c4 e=>aAc _ (wo.extBut _ _ c4<|ma.extBut _ _ c3<|ip.extBut _ _ c1 e)
def TH {Q:Fin->Shared->Prop}(hh:A.handled=none)(D:ZipApart z TI TO i1 i2 l1 l2)(hz:Zs s.heap z TI TO f0 f1)(ho:wQ f0)(va:IsPair s.heap TI (.ref i1) (.ref i2))(ug:IsPair s.heap TO a b)
  (h1:s.heap.IsListIter i1 l1 k) (h2:s.heap.IsListIter i2 l2 k) (rf:s.heap.IsList l1 xs) (og:s.heap.IsList l2 ys) (hx:xs[k]?=none)
  (hE:∀h' e,(∀c o,c≠z->c≠TO->c≠i1->c≠i2->s.heap.get? c=some o->h'.get? c=some o)->(∃o,h'.get? e=some o/\o.cls=.type "StopIteration")->E (.ref e) {s with heap:=h'}):
  wpAny (model prog w) A (Builtin.«zip.__next__» ⟨[.ref z],[]⟩) Q E s:=by
 show wpAny _ _ (field (.ref z) 2>>=_) _ _ _;refine aAa (aCJ hz rfl (x:=.bool false) rfl ?_);show wpAny _ _ (field (.ref z) 3>>=_) _ _ _;refine aAa (aCJ hz rfl (x:=.ref TI) rfl ?_);refine aAa (aBp va rfl ?_);show wpAny _ _ (aBO (.ref z)>>=_) _ _ _;refine aAa (mI hz ho ?_ λh₁ f1' xu ip=>?_)
 ·simp only[if_true];refine aAa (aDr ?_);refine aAa (aCJ hz rfl (x:=.ref TO) rfl ?_);refine aAa (aBU hz (by simp) λh₁ xu ip=>?_);replace xu:Zs h₁ z TI TO .ellipsis f1:=xu;refine aAa ?_;simp only[aEg,aEx,aCR,aDV];refine aAa (aAa<|wpAny_onRaise ?_);show wpAny _ _ (aBL (.ref i1)>>=_) _ _ _;refine aAa (wpAny_nextOf_list_end hh (h1.extBut ip.extBut D.i1z) (rf.extBut ip.extBut D.l1z) hx λgm e ma he=>?_);obtain⟨oe,hoe,hce⟩:=he;have hz4:Zs gm z TI TO .ellipsis f1:=ma _ _ D.i1z.symm xu;have hez:e≠z:=λx=>by subst x;rw[hz4]at hoe;cases hoe;simp at hce
  exact aBU hz4 (by simp) λaA _ zc=>hE aA e (λc o c1 _ c3 _ x=>zc.extBut _ _ c1 (ma _ _ c3<|ip.extBut _ _ c1 x)) ⟨oe,zc.extBut _ _ hez hoe,hce⟩
 ·simp only[aAs,if_false];refine aAa ?_;show wpAny _ _ (forIn (#[.ref i1,.ref i2]:Array Value) _ _) _ _ _;rw[<-aCm];simp only[aCR,aDV];refine aAa (aAa<|aAK ?_);show wpAny _ _ (aBL (.ref i1)>>=_) _ _ _;exact aAa (wpAny_nextOf_list_end hh (h1.extBut ip.extBut D.i1z) (rf.extBut ip.extBut D.l1z) hx λgm e ma he=>hE gm e (λc o c1 _ c3 _ x=>ma _ _ c3 (ip.extBut _ _ c1 x)) he)
end
def JS (z TI TO i1 i2 l1 l2:Addr)(xs ys:Array Value)(i:Nat)(h:Heap):Prop:=
 (∃f0 f1,Zs h z TI TO f0 f1/\wQ f0)/\IsPair h TI (.ref i1) (.ref i2)/\(∃a b,IsPair h TO a b)/\h.IsListIter i1 l1 i/\h.IsListIter i2 l2 i/\h.IsList l1 xs/\h.IsList l2 ys
section
variable{s:Shared}
def JS.type (h:JS z TI TO i1 i2 l1 l2 xs ys i s.heap):s.TypeIs (.ref z) "zip":=by obtain⟨⟨f0,f1,hz,_⟩,_⟩:=h;exact⟨_,hz,rfl⟩
def JS.keeps (x:JS z TI TO i1 i2 l1 l2 xs ys i h)(k:∀b o,b∈[z,TI,TO,i1,i2,l1,l2]->h.get? b=some o->h'.get? b=some o):JS z TI TO i1 i2 l1 l2 xs ys i h':=by obtain⟨⟨f0,f1,hz,ho⟩,va,⟨a,b,ug⟩,h1,h2,rf,og⟩:=x;exact⟨⟨f0,f1,k z _ (by simp) hz,ho⟩,k TI _ (by simp) va,⟨a,b,k TO _ (by simp) ug⟩,h1.at λo e=>k i1 o (by simp) e,h2.at λo e=>k i2 o (by simp) e,rf.at λo e=>k l1 o (by simp) e,og.at λo e=>k l2 o (by simp) e⟩
def KG {Q:Option Value->Shared->Prop}(D:ZipApart z TI TO i1 i2 l1 l2)(hl:xs.size=ys.size)(st:JS z TI TO i1 i2 l1 l2 xs ys i s.heap)(hi:i<xs.size)(hQ:∀h' T x y,xs[i]?=some x->ys[i]?=some y->JS z TI TO i1 i2 l1 l2 xs ys (i+1) h'->s.heap.objs.size<=T->IsPair h' T x y->(∀c o,c∉[z,TO,i1,i2]->s.heap.get? c=some o->h'.get? c=some o)->Q (some (.ref T)) {s with heap:=h'}):
  wpAny (model prog w) A (pyNext (.ref z)) Q E s:=by
 have hT:=st.type;obtain⟨⟨f0,f1,hz,ho⟩,va,⟨a,b,ug⟩,h1,h2,rf,og⟩:=st;have hx:xs[i]?=some xs[i]:=aAH hi;have hy:ys[i]?=some (ys[i]'(by lia)):=aAH (by lia);unfold pyNext;refine aAa (aEo (aCp (name:=aDn "__next__") hT aDO
  (aBv aDO hT F.entry_zip_next (KF D hz ho va ug h1 h2 rf og hx hy λh' T f0' f1' a' b' e1 e2 e3 e4 e5 e6 e7 kp=>aAb ?_)<|F.args_zip_next_1 _)))
 refine hQ h' T _ _ hx hy ⟨⟨f0',f1',e1,e2⟩,kp _ _ D.TIz D.TITO D.TIi1 D.TIi2 va,⟨a',b',e3⟩,e4,e5,rf.at λo e=>kp _ o D.l1z D.l1TO D.l1i1 D.l1i2 e,og.at λo e=>kp _ o D.l2z D.l2TO D.l2i1 D.l2i2 e⟩ e6 e7 λc o hc e=>?_;simp only[aAd,aAB,or_false,not_or]at hc;exact kp c o hc.1 hc.2.1 hc.2.2.1 hc.2.2.2 e
def MF {Q:Option Value->Shared->Prop}(hh:A.handled=none)(D:ZipApart z TI TO i1 i2 l1 l2)(st:JS z TI TO i1 i2 l1 l2 xs ys xs.size s.heap)
  (hQ:∀h',(∀c o,c∉[z,TO,i1,i2]->s.heap.get? c=some o->h'.get? c=some o)->Q none {s with heap:=h'}):wpAny (model prog w) A (pyNext (.ref z)) Q E s:=by
 have hT:=st.type;obtain⟨⟨f0,f1,hz,ho⟩,va,⟨a,b,ug⟩,h1,h2,rf,og⟩:=st;unfold pyNext;refine aAa (aEo (aCp (name:=aDn "__next__") hT aDO
  (aBv aDO hT F.entry_zip_next (TH (by simpa using hh) D hz ho va ug h1 h2 rf og (aCz<|aAg _) λh' e kp he=>?_)<|F.args_zip_next_1 _)))
 obtain⟨o,yd,hc⟩:=he;refine aAa (aDB (T:= "StopIteration") (b:=true) ⟨o,yd,hc⟩ isSubtype_stop ?_);refine aAb (hQ _ λc o hc e=>?_);simp only[aAd,aAB,or_false,not_or]at hc;exact kp c o hc.1 hc.2.1 hc.2.2.1 hc.2.2.2 e
def Pairs (h0:Heap)(xs ys acc:Array Value)(i:Nat)(h:Heap)(off:List Addr):Prop:=acc.size=i/\∀(j:Nat) (v:Value),acc[j]?=some v->∃T x y,v=.ref T/\xs[j]?=some x/\ys[j]?=some y/\IsPair h T x y/\T∉off/\h0.get? T=none
def JC (hh:A.handled=none)(D:ZipApart z TI TO i1 i2 l1 l2)(hl:xs.size=ys.size)(hn:xs.size<=sizeLine)(S:Addr)(ji:S∉[z,TI,TO,i1,i2,l1,l2])(res:Value)(h0:Heap):
  ∀(k i:Nat) (s:Shared) (acc:Array Value) (c:Nat),xs.size-i=k->i<=xs.size->(∀b o,b∉[z,TO,i1,i2,S]->h0.get? b=some o->s.heap.get? b=some o)->JS z TI TO i1 i2 l1 l2 xs ys i s.heap->s.heap.get? S=some {cls:=.type "list",dict:=none,data:=.seq acc c,slots:=#[]}->Pairs h0 xs ys acc i s.heap [z,TO,i1,i2,S]->
  (∀h' jl c',(∀b o,b∉[z,TO,i1,i2,S]->s.heap.get? b=some o->h'.get? b=some o)->h'.get? S=some {cls:=.type "list",dict:=none,data:=.seq jl c',slots:=#[]}->Pairs h0 xs ys jl xs.size h' [z,TO,i1,i2,S]->R (.ok (.ret res)) {s with heap:=h'})->
  codeAny (model prog w) A (.builtin "list.extend.loop" ⟨[.ref S,.ref z,res],[]⟩) R s:=by
 have hS4:S∉[z,TO,i1,i2]:=λh=>ji (by simp only[aAd,aAB,or_false]at h⊢;rcases h with h|h|h|h<;>simp[h]);have to5:∀b,b∉[z,TO,i1,i2,S]->b∉[z,TO,i1,i2]:=λb h q=>h (by simp only[aAd,aAB,or_false]at q⊢;rcases q with q|q|q|q<;>simp[q]);intro k;induction k with
 |zero=>
  intro i s acc c hk hi h0k gr hS dc hR;have lh:i=xs.size:=by lia
  subst lh;refine aBn F.entry_extend_loop ?_;rw[aAQ aCY _];show wpAny _ A.in1 (pyNext (.ref z)>>=_) _ _ s;refine aAa (MF (by simpa using hh) D gr λh' kp=>?_);refine aAb (hR h' acc c (λb o hb e=>kp b o (to5 b hb) e) (kp S _ hS4 hS) ⟨dc.1,λj v hv=>?_⟩);obtain⟨T,x,y,e1,e2,e3,e4,e5,e6⟩:=dc.2 j v hv;exact⟨T,x,y,e1,e2,e3,kp T _ (to5 T e5) e4,e5,e6⟩
 |succ k ih=>
  intro i s acc c hk hi h0k gr hS dc hR;have ao:i<xs.size:=by lia
  refine aBn F.entry_extend_loop ?_;rw[aAQ aCY _];show wpAny _ A.in1 (pyNext (.ref z)>>=_) _ _ s;refine aAa (KG D hl gr ao λh' T x y hx hy gu hT hP kp=>?_);have gc:=kp S _ hS4 hS;have Tne:∀b o,s.heap.get? b=some o->T≠b:=λb o e q=>absurd (aAq (aAf e) hT) (by rw[q];exact aAX _);obtain⟨⟨f0,f1,hz,_⟩,_,⟨a,b,ug⟩,⟨o1,g1,_⟩,⟨o2,g2,_⟩,_⟩:=id gr;have hTo:T∉[z,TO,i1,i2,S]:=by simp only[aAd,aAB,or_false,not_or];exact⟨Tne _ _ hz,Tne _ _ ug,Tne _ _ g1,Tne _ _ g2,Tne _ _ hS⟩
  show wpAny _ A.in1 (updateSeq S (·.push (.ref T))>>=_) _ _ _;refine aAa ?_;have uu:∀b o,b≠S->h'.get? b=some o->(h'.update S (aBz (·.push (.ref T)))).get? b=some o:=λb o hb e=>(aAr _ _<|aBQ hb).trans e;have neS:∀b,b∈[z,TI,TO,i1,i2,l1,l2]->b≠S:=λb hb q=>ji (q▸hb);refine aBx gc rfl (aAb ⟨aBt aCY _,ih (i+1) _ (acc.push<|.ref T) _ (by lia) ao (λb o hb e=>uu b o (λq=>hb (by simp[q])) (kp b o (to5 b hb)<|h0k b o hb e)) (gu.keeps λb o hb e=>uu b o (neS b hb) e) (aAS _ gc rfl) ⟨by rw[Array.size_push,dc.1],λj v hv=>?_⟩ λh'' jl c' kp' wc hacc'=>?_⟩)
   (by rw[dc.1];lia) (by show(acc.push<|.ref T).size<=sizeLine+1;rw[Array.size_push,dc.1];lia)
  ·rw[Array.getElem?_push]at hv;split at hv
   ·rename_i q;cases hv;rw[dc.1]at q;subst q;refine⟨T,x,y,rfl,hx,hy,uu T _ (Tne _ _ hS) hP,hTo,?_⟩;cases q0:h0.get? T with
    |none=>rfl
    |some o=>exact absurd rfl (Tne T o<|h0k T o hTo q0)
   ·obtain⟨T',x',y',e1,e2,e3,e4,e5,e6⟩:=dc.2 j v hv;have n5:T'≠S:=λq=>e5 (by simp[q]);exact⟨T',x',y',e1,e2,e3,uu T' _ n5 (kp T' _ (to5 T' e5) e4),e5,e6⟩
  ·refine hR h'' jl c' (λb o hb e=>kp' b o hb (uu b o (λq=>hb (by simp[q]))<|kp b o (to5 b hb) e)) wc hacc'
end
section
def cN {Q:A3}(St:Heap->Prop)(hT:∀s1:Shared,St s1.heap->s1.TypeIs (.ref I) T)(fr:∀h h',St h->(∀b o,b≠s.heap.objs.size->h.get? b=some o->h'.get? b=some o)->St h')(hIS:I≠s.heap.objs.size)
  (n1:(aCl T==aCl "list")=false) (n2:(aCl T==aCl "tuple")=false) (n3:∀{M:Model} {A:Around} {E:A3} {s:Shared} {Q:Fin->Shared->Prop} {a b:Sem Fin},(room=true->wpAny M A a Q E s)->(room=false->wpAny M A b Q E s)->wpAny M A (if(room||["set", "frozenset", "dict", "dict_keys", "dict_values", "dict_items"].any (aCl T==aCl ·))=true then a else b) Q E s)
  (self:∀(s1:Shared) (Q:A3) (E:A3),St s1.heap->Q (.ref I) s1->wpAny (model prog w) A.in1.in1 (pyIter (.ref I)) Q E s1)
  (hint:∀(s1:Shared) (Q:uX) (E:A3),St s1.heap->Q room s1->wpAny (model prog w) A.in1.in1 (aCw (.ref I)) Q E s1) (gr:St s.heap)
  (loop:∀(h1:Heap) (c:Nat) (R:Result->Shared->Prop),(∀b o,s.heap.get? b=some o->h1.get? b=some o)->St h1->h1.get? s.heap.objs.size=some {cls:=.type "list",dict:=none,data:=.seq #[] c,slots:=#[]}->(∀s',Q (.ref s.heap.objs.size) s'->R (.ok (.ret .none)) s')->
   codeAny (model prog w) A.in1 (.builtin "list.extend.loop" ⟨[.ref s.heap.objs.size,.ref I,.none],[]⟩) R {s with heap:=h1}):
  wpAny (model prog w) A (call (.type "list") [.ref I]) Q E s:=by
 refine callType_codes (Q₁:=λobj aa=>obj=.ref s.heap.objs.size/\aa={s with heap:=s.heap.push {cls:=.type "list",data:=.seq #[]}}) F.called_list (F.typeCall_list_1 _) F.entry_list_init
  (code_list_new _ ⟨rfl,rfl⟩) λobj aa h₁=>?_
 obtain⟨rfl,rfl⟩:=h₁;have hS:(s.heap.push {cls:=.type "list",data:=.seq #[]}).get? s.heap.objs.size=some {cls:=.type "list",data:=.seq #[]}:=aAp _ rfl;have ks:∀b o,s.heap.get? b=some o->b≠s.heap.objs.size:=λb o e=>aAj (aAf e);refine⟨⟨_,hS,rfl⟩,F.args_list_init_2 _ _,?_⟩;show wpAny _ A.in1.in1 (do let old<-aCA (.ref s.heap.objs.size);Builtin.List.listUpdate (.ref s.heap.objs.size) (λ_=>#[]);letGo old.toList.reverse;aBV (.ref s.heap.objs.size) (.ref I) .none) _ _ _;refine aAa ?_;unfold aCA;refine aAa (aBp hS rfl<|aAb ?_);show wpAny _ A.in1.in1 (updateSeq s.heap.objs.size (λ_=>#[])>>=λ_=>letGo (#[]:Array Value).toList.reverse>>=λ_=>aBV (.ref s.heap.objs.size) (.ref I) .none) _ _ _;refine aAa (aBx hS rfl ?_);have hS3:=aAS (aBz<|λ_=>(#[]:Array Value)) hS rfl;refine aAa (aCL ?_);generalize hh2:(s.heap.push {cls:=.type "list",data:=.seq #[]}).update s.heap.objs.size (aBz<|λ_=>(#[]:Array Value))=h2 at*
 have k2:∀b o,s.heap.get? b=some o->h2.get? b=some o:=λb o e=>by rw[<-hh2];exact(aAr _ _<|aBQ<|ks b o e).trans (aAc _ e)
 have iu:St h2:=fr s.heap h2 gr λb o _ e=>k2 b o e;have hSI:aCT (.ref s.heap.objs.size) (.ref I)=false:=by simp[aCT,aBQ hIS]
 have hT2:Shared.TypeIs {s with heap:=h2} (.ref I) T:=hT {s with heap:=h2} iu;unfold aBV;refine aAa (aDG hT2 ?_);simp only[hSI,n1,n2,Bool.or_false,aAs,if_false];refine aAa (self _ _ _ iu ?_);refine aAa (aAK<|hint _ _ _ iu ?_);refine n3 (λ_=>?_) (λ_=>?_)
 ·show wpAny _ A.in1.in1 (rule "list.extend.makes-room">>=λ_=>aFx (.ref s.heap.objs.size)>>=λ_=>again (.builtin "list.extend.loop" ⟨[.ref s.heap.objs.size,.ref I,.none],[]⟩)) _ _ _;refine aAa (aDr ?_);refine aAa ?_;show wpAny _ A.in1.in1 (updateSeq s.heap.objs.size (·.push .none)>>=λ_=>updateSeq s.heap.objs.size (·.pop)) _ _ _;refine aAa (aBx hS3 rfl ?_);have hS5:=aAS (aBz (·.push Value.none)) hS3 rfl;refine aBx (hz:=by seq_fits) hS5 rfl ?_;have hS6:=aAS (aBz (·.pop)) hS5 rfl;have uu:∀b o,b≠s.heap.objs.size->h2.get? b=some o->((h2.update s.heap.objs.size (aBz (·.push Value.none))).update s.heap.objs.size (aBz (·.pop))).get? b=some o:=
   λb o hb e=>(aAr _ _<|aBQ hb).trans ((aAr _ _<|aBQ hb).trans e)
  exact aAb ⟨aBt aCY _,loop _ _ _ (λb o e=>uu b o (ks b o e) (k2 b o e)) (fr h2 _ iu uu) hS6 λs' q=>⟨rfl,q⟩⟩
 ·exact aAb ⟨aBt aCY _,loop _ _ _ k2 iu hS3 λs' q=>⟨rfl,q⟩⟩
def IF:typeLookup (.type "zip") "__len__"=pure none:=by rw[aDq,aCj];kernel_rfl
def AQ:typeLookup (.type "zip") "__length_hint__"=pure none:=by rw[aDq,aCj];kernel_rfl
def JE {Q:A3}(hh:A.handled=none)(D:ZipApart z TI TO i1 i2 l1 l2)(hl:xs.size=ys.size)(hn:xs.size<=sizeLine)(st:JS z TI TO i1 i2 l1 l2 xs ys 0 s.heap)(hQ:∀h' acc c,(∀b o,b∉[z,TO,i1,i2]->s.heap.get? b=some o->h'.get? b=some o)->h'.get? s.heap.objs.size=some {cls:=.type "list",dict:=none,data:=.seq acc c,slots:=#[]}->Pairs s.heap xs ys acc xs.size h' [z,TO,i1,i2,s.heap.objs.size]->Q (.ref s.heap.objs.size) {s with heap:=h'}):
  wpAny (model prog w) A (call (.type "list") [.ref z]) Q E s:=by
 have lt:∀b∈[z,TI,TO,i1,i2,l1,l2],b≠s.heap.objs.size:=λb hb=>by
  obtain⟨⟨f0,f1,hz,_⟩,va,⟨a,b',ug⟩,⟨o1,g1,_⟩,⟨o2,g2,_⟩,⟨o3,g3,_⟩,⟨o4,g4,_⟩⟩:=st;simp only[aAd,aAB,or_false]at hb;rcases hb with rfl|rfl|rfl|rfl|rfl|rfl|rfl
  ·exact aAj (aAf hz)
  ·exact aAj (aAf va)
  ·exact aAj (aAf ug)
  ·exact aAj (aAf g1)
  ·exact aAj (aAf g2)
  ·exact aAj (aAf g3)
  ·exact aAj (aAf g4)
 refine cN (T:= "zip") (room:=true) (JS z TI TO i1 i2 l1 l2 xs ys 0) (λs1 h=>h.type) (λh h' x k=>x.keeps λb o hb e=>k b o (lt b hb) e) (lt z (by simp)) (by decide) (by decide) (λh1 h2=>by rw[if_pos (by decide)];exact h1 rfl)
  (λs1 Q E x q=>?_) (λs1 Q E x q=>?_) st λh1 c R k1 mB hS hR=>?_
 ·obtain⟨⟨f0,f1,hz,_⟩,_⟩:=id x;refine aFh x.type F.slot_zip_iter (aBv F.slot_zip_iter x.type F.entry_zip_iter ?_ (F.args_zip_iter_1 _));show wpAny _ _ (ret<|.ref z) _ _ s1;exact aAb ⟨_,rfl, "zip",_,x.type,aDO.lookup,q⟩
 ·unfold aCw;refine aAa (aBw x.type IF ?_);show wpAny _ _ (specialOf (aDv z) (aDn "__length_hint__")>>=_) _ _ _;exact aAa (aBw x.type AQ<|aAb q)
 ·refine JC (by simpa using hh) D hl hn s.heap.objs.size (λh=>lt _ h rfl) .none s.heap xs.size 0 _ #[] c (by lia) (aBc _) (λb o _ e=>k1 b o e) mB hS ⟨rfl,λj v h=>by simp at h⟩ λh' jl c' kp gc hP=>hR _ (hQ h' jl c' (λb o hb e=>kp b o ?_ (k1 b o e)) gc hP);have:=aAj (aAf e);simp only[aAd,aAB,or_false,not_or]at hb⊢;exact⟨hb.1,hb.2.1,hb.2.2.1,hb.2.2.2,this⟩
def HX:typeLookup (.type "list_reverseiterator") "__len__"=pure none:=by rw[aDq,aCj];kernel_rfl
def MD:typeLookup (.type "list_reverseiterator") "__length_hint__"=pure (some (.builtin "list_reverseiterator.__length_hint__")):=by rw[aDq,aCj];kernel_rfl
def KI {Q:A3}(hh:A.handled=none)(ah:l≠r)(hn:xs.size<=sizeLine)(hr:s.heap.IsRevIter r l ((xs.size:Int)-1))(hl:s.heap.IsList l xs)(hQ:∀h' tk c,(∀b o,b≠r->s.heap.get? b=some o->h'.get? b=some o)->h'.get? s.heap.objs.size=some {cls:=.type "list",dict:=none,data:=.seq xs.reverse c,slots:=#[]}->Q (.ref s.heap.objs.size) {s with heap:=h',toks:=tk}):
  wpAny (model prog w) A (call (.type "list") [.ref r]) Q E s:=by
 have lr:r≠s.heap.objs.size:=by obtain⟨o,g,_⟩:=hr;exact aAj (aAf g)
 have ll:l≠s.heap.objs.size:=by obtain⟨o,g,_⟩:=hl;exact aAj (aAf g)
 refine cN (T:= "list_reverseiterator") (room:=false) (λh=>h.IsRevIter r l ((xs.size:Int)-1)/\h.IsList l xs) (λs1 h=>h.1.typeIs) (λh h' x k=>⟨x.1.at λo e=>k r o lr e,x.2.at λo e=>k l o ll e⟩) lr (by decide) (by decide)
  (λh1 h2=>by rw[if_neg (by decide)];exact h2 rfl) (λs1 Q E x q=>wpAny_pyIter_revIter x.1 q) (λs1 Q E x q=>?_) ⟨hr,hl⟩ λh1 c R k1 mB hS hR=>?_
 ·have hT:=x.1.typeIs;unfold aCw;refine aAa (aBw hT HX ?_);show wpAny _ _ (specialOf (aDv r) (aDn "__length_hint__")>>=_) _ _ _;refine aAa (aBw hT MD ?_)
  (generalize hid:("list_reverseiterator.__length_hint__":String)=id0;(fail_if_success (clear hid id0));wp_delta;rw[show splitId id0=some ("list_reverseiterator", "__length_hint__")from by subst hid;decide+kernel];subst hid)
  refine aAa (aDB (b:=true) hT (by rw[aET];kernel_rfl) ?_);exact aAb q
 ·have W:=(Walks.listRev (prog:=prog) (w:=w) (A:=A.in1.in1) (by simp[hh]) r l ah xs).toS;refine codeAny_extend_loopS W hn s.heap.objs.size (by simp only[aAd,aAB,or_false,not_or];exact⟨aBQ lr,aBQ ll⟩) .none xs.size 0 _ #[] c (by lia) (aBc _) ⟨aBc _,by simpa using mB.1,mB.2⟩ hS (ItemsOf.nil _) λs' jl c' hm gc dc=>hR _ ?_;have ea:jl=xs.reverse:=by
   apply Array.ext';apply aDU;intro i;rw[aAA,aAA];by_cases hi:i<xs.size
   ·have yu:i<jl.size:=by rw[dc.1];exact hi
    have:=dc.2 i _ (aAH yu);rw[aAH yu,Array.getElem?_reverse hi,this]
   ·rw[aCz (by rw[dc.1];lia),aCz (by simp;lia)]
  subst ea;have g0:s'.gens=s.gens:=hm.gens;have d0:s'.drawn=s.drawn:=hm.drawn;have o0:s'.os=s.os:=hm.os;obtain⟨h',g',d',xo,os'⟩:=s';subst g0 d0 o0;refine hQ h' xo c' (λb o hb e=>?_) gc;exact hm.heap b o (by simp only[aAd,aAB,or_false,not_or];exact⟨aAj (aAf e),hb⟩) (k1 b o e)
end
end SZ
namespace DL
open PySem PySem.Spec L2
open PyProof.Rows hiding St
variable [Tabs]
def _root_.L2.ObjOk.live (x:ObjOk P w H h a o):h.get? a≠none:=by
 intro z;have key:∀{u:Obj},h.get? a=some u->False:=λq=>by rw[z]at q;cases q
 cases o with
 |lst xs=>obtain⟨_,_,_,_,e⟩:=x;exact key e
 |tup xs=>obtain⟨_,_,_,o,e,_⟩:=x;exact key e
 |dK kvs=>obtain⟨_,_,_,_,o,_,_,e,_⟩:=x;exact key e
 |dT kvs=>obtain⟨_,_,_,_,o,_,_,e,_⟩:=x;exact key e
 |set S n=>obtain⟨o,_,_,_,e,_⟩:=x;exact key e
 |ins C dx fs=>obtain⟨_,_,_,e,_⟩:=x;exact key e
 |own y=>obtain⟨_,e⟩:=x;exact key e
 |xd fs=>obtain⟨_,⟨_,_,_,e,_⟩,_⟩:=x;exact key e
 |rng lo hi=>obtain⟨_,_,_,e⟩:=x;exact key e
 |frz ob u=>obtain⟨e,_⟩:=x;exact key e
 |tbl tb=>obtain⟨_,e,_⟩:=x;exact key e
 |met f y=>exact key (show h.get? a=some _ from x)
 |ext φ=>obtain⟨_,⟨_,e⟩,_⟩:=x;exact key e
section
end
end DL
namespace DL
open PySem PySem.Spec L2
open PyProof.Rows hiding St
variable [Tabs]
section
def cj:D->R (List D)
 |.lst xs=>.ok xs.reverse
 |_=>.bad
def AG (ha:PB X e f)(hh:X.calm=true)(hg:Gl X "reversed":=by rfl)(hm:X.mg "reversed"=none:=by assumption)(za:Gl X "list":=by rfl)(jr:X.mg "list"=none:=by assumption)(hv:bootBuiltins "reversed"=some (.type "reversed"):=by decide+kernel)(zb:bootBuiltins "list"=some (.type "list"):=by decide+kernel)(he:starEach [e] X.env=(false,eval e X.env)::starEach [] X.env:=by rfl)(bf:(backTo bp (starEach [] X.env)).any (·.1)=false:=by rfl)(lu:starEach [.Call (.Name "reversed" p2) [e] [] bp] X.env=(false,eval (.Call (.Name "reversed" p2) [e] [] bp) X.env)::starEach [] X.env:=by rfl)(sr:(backTo pos (starEach [] X.env)).any (·.1)=false:=by rfl)(hnl:backTo pos (starEach [] X.env)=[]:=by rfl):
  PF X (.Call (.Name "list" p) [.Call (.Name "reversed" p2) [e] [] bp] [] pos) (λρ=>(f ρ).bind cj):=by
 refine uJ λpins s σ H Q I H9 O0 O ρ E q=>?_;dsimp only at q;refine aAM (K9 I za jr zb ?_ (by decide) (by decide));refine aBb ?_ lu sr;rw[lu];show wpAny _ _ (spliced ((false,eval (.Call (.Name "reversed" p2) [e] [] bp) X.env)::backTo pos (starEach [] X.env))) _ _ s;refine aEI (aAM (K9 I hg hm hv ?_ (by decide) (by decide)));have ku:PA X [e] _:=J1 ha X1 he;refine aBb (D8 (ku bp pins s σ H (λvs H1=>∃v ds,vs=[v]/\f ρ=.ok (.lst ds)/\Same H H1/\A5 X.K H1 O v (.lst ds)) I ⟨H9,O0,O,ρ,E,?_⟩) λus s1 ⟨vs,H1,I1,r1,v,ds,ev,ef,sm,rb⟩=>?_) he bf
 ·cases e1:f ρ with
  |ex z=>rw[e1]at q;exact q
  |bad=>rw[e1]at q;exact q.elim
  |ok d=>
   rw[e1,R.aa0]at q;cases d with
   |lst ds=>exactλv H1 s1 r1=>⟨v,ds,rfl,rfl,s1,r1⟩
   |_=>exact aAk q
 ·subst ev;rw[ef,R.aa0]at q;obtain⟨a,ws,rfl,hS,rr⟩:=rb.aa5;obtain⟨u,rfl,ru⟩:=vals1 r1;cases ru;obtain⟨its,rv,⟨oL,nL,gL,cL,dL,sL⟩,zL⟩:=I1.list hS;have hl:s1.heap.IsList a its.toArray:=⟨oL,gL,cL,nL,sL⟩;refine call_reversed_list hl ?_;rw[hnl];refine aEY ?_;have ge:a≠s1.heap.objs.size:=aAj (aAf gL);have I2:=I1.kept (h':=s1.heap.push (revObj a<|(its.toArray.size:Int)-1)) (t':=s1.toks) λb u e=>aAc _ e;refine SZ.KI (s:={s1 with heap:=s1.heap.push (revObj a<|(its.toArray.size:Int)-1)}) (I1.ok.hd hh) ge (by rw[aAm,<-rv.length];exact zL) ⟨_,aAp _ rfl,rfl,rfl⟩ (hl.push _) λh' tk c kp gl=>?_;have kk:∀b u,s1.heap.get? b=some u->h'.get? b=some u:=λb u e=>kp b u (aAj<|aAf e) (aAc _ e);have hle:s1.heap.objs.size<=(s1.heap.push<|revObj a<|(its.toArray.size:Int)-1).objs.size:=by rw[aBo];lia
  have vrev:m6 ws.reverse its.reverse:=by
   have:∀{vs:List V} {us:List Value},m6 vs us->m6 vs.reverse us.reverse:=λ{vs us} r=>by
    induction r with
    |nil=>exact .nil
    |cons r t ih=>rw[aAP,aAP];exact ih.append (.cons r .nil)
   exact this rv
  have I3:=I1.laid (a:=(s1.heap.push<|revObj a<|(its.toArray.size:Int)-1).objs.size) (o:=.lst ws.reverse) (h':=h') (t':=tk) kk hle ⟨by rw[aCx];exact zL,its.reverse,c,vrev,by rw[gl];simp⟩;exact⟨.ref _,_,I3,rfl,q ws.reverse H1 _ sm (I1.hok.fresh hle) rr.reverse⟩
def _root_.L2.Inv.ad9 (I:Inv X pins σ H s)(k:∀b u,s.heap.get? b=some u->h'.get? b=some u)(sm:Same H Hn)(nu:∀b u,H b=none->Hn b=some u->s.heap.get? b=none/\ObjOk X.prog X.w Hn h' b u):
  Inv X pins σ Hn {s with heap:=h',toks:=t'}:=by
 refine I.un ⟨λb o e _ _ _=>k b o e,λb o e _ _ _=>⟨o.slots,k b o e⟩,λb o e n _=>?_,λb o e _=>⟨o,k b o e⟩,λb xs e=>sm _ _ e,λb o u e=>sm _ _ e,λb tb e=>sm _ _ e⟩ λb u e=>?_
 ·cases q:Hn b with
  |none=>rfl
  |some u=>rw[(nu b u n q).1]at e;cases e
 ·cases q:H b with
  |none=>exact(nu b u q e).2
  |some u'=>have:=sm b u' q;rw[e]at this;cases this;exact(I.hok b u q).ab7 (λc v _ z=>k c v z) (λc z=>sm _ _ z) λc u _ z=>sm _ _ z
def jK (xs ys:List D):List D:=List.zipWith (λa b=>D.tup [a,b]) xs ys
def SX:List D->R (List D)
 |[.lst xs,.lst ys]=>if xs.length=ys.length then .ok (jK xs ys)else .bad
 |_=>.bad
def HH {K:PySem.W.Frag}{H1:Hp}{O:Addr->Prop}{h0 h':Heap}{l:Addr}(hf:∀b,h0.get? b=none->H1 b=none):∀{xs ys:List D} {ux uy acc:List Value},t6 K H1 O ux xs->t6 K H1 O uy ys->xs.length=ys.length->
  (∀(j:Nat) (v:Value),acc[j]?=some v->∃T x y,v=.ref T/\ux[j]?=some x/\uy[j]?=some y/\IsPair h' T x y/\T≠l/\h0.get? T=none)->acc.length=xs.length->
  ∃(vs:List V) (Hn:Hp),m6 vs acc/\Same H1 Hn/\(∀b u,H1 b=none->Hn b=some u->h0.get? b=none/\b≠l/\∃ws its,u=.tup ws/\ws.length<=2/\m6 ws its/\IsTup h' b its.toArray)/\Reps K Hn O vs (jK xs ys):=by
 intro xs ys ux uy acc;induction acc generalizing xs ys ux uy with
 |nil=>
  intro sx sy hl _ hz;cases xs with
  |nil=>cases ys with
   |nil=>exact⟨[],H1,.nil,Same.refl _,λb u n q=>(by rw[n]at q;cases q),.nil⟩
   |cons _ _=>cases hl
  |cons _ _=>cases hz
 |cons v acc ih=>
  intro sx sy hl hP hz;cases sx with
  |nil=>cases hz
  |@cons u d ux xs rx sx=>
   cases sy with
   |nil=>cases hl
   |@cons u' d' uy ys ry sy=>
    obtain⟨T,x,y,rfl,ex,ey,hp,nl,h0T⟩:=hP 0 v rfl;cases ex;cases ey;obtain⟨vs,Hn,r1,sm,nu,rr⟩:=ih sx sy (by simpa using hl) (λj v hj=>by obtain⟨T,x,y,e1,e2,e3,e4⟩:=hP (j+1) v (by simpa using hj);exact⟨T,x,y,e1,by simpa using e2,by simpa using e3,e4⟩) (by simpa using hz)
    obtain⟨vx,rvx,repx⟩:=rx;obtain⟨vy,rvy,repy⟩:=ry;have v2:m6 [vx,vy] [u,u']:=.cons rvx (.cons rvy .nil);cases q:Hn T with
    |none=>
     have s2:Same Hn (upd Hn T<|.tup [vx,vy]):=j7 q _;refine⟨.ref T::vs,upd Hn T (.tup [vx,vy]),.cons rfl r1,sm.trans s2,λb w n qb=>?_,.cons (.tup (T2.of j4) (.cons ((repx.same sm).same s2) (.cons ((repy.same sm).same s2) .nil))) (rr.same s2)⟩;by_cases hb:b=T
     ·subst hb;rw[j4]at qb;cases qb;exact⟨h0T,nl,_,_,rfl,by simp,v2,⟨_,hp,rfl,0,rfl⟩⟩
     ·rw[k8 hb]at qb;exact nu b w n qb
    |some w=>
     obtain⟨_,_,ws,its,rfl,_,vw,⟨o,g,_,n,dd⟩⟩:=nu T w (hf T h0T) q;have zv:h'.get? T=some {cls:=.type "tuple",data:=.seq #[u,u']}:=hp;rw[zv]at g;cases g;have e2:its=[u,u']:=by have:=congrArg (λd=>match d with|Data.seq a _=>a.toList|_=>[]) dd;simpa using this.symm
     subst e2;have:ws=[vx,vy]:=vw.inj v2;subst this;exact⟨.ref T::vs,Hn,.cons rfl r1,sm,nu,.cons (.tup (T2.of q) (.cons (repx.same sm) (.cons (repy.same sm) .nil))) rr⟩
def BX {e1 e2:Expr}{p p2 bp:Pos}{f1 f2:Ev->R D}(ha1:PB X e1 f1)(ha2:PB X e2 f2)(hh:X.calm=true)(hg:Gl X "zip":=by rfl)(hm:X.mg "zip"=none:=by assumption)(za:Gl X "list":=by rfl)(jr:X.mg "list"=none:=by assumption)
  (hv:bootBuiltins "zip"=some (.type "zip"):=by decide+kernel) (zb:bootBuiltins "list"=some (.type "list"):=by decide+kernel)
  (he1:starEach [e2] X.env=(false,eval e2 X.env)::starEach [] X.env:=by rfl) (he:starEach [e1,e2] X.env=(false,eval e1 X.env)::starEach [e2] X.env:=by rfl) (bf:(backTo bp (starEach [e2] X.env)).any (·.1)=false:=by rfl)
  (lu:starEach [.Call (.Name "zip" p2) [e1,e2] [] bp] X.env=(false,eval (.Call (.Name "zip" p2) [e1,e2] [] bp) X.env)::starEach [] X.env:=by rfl) (sr:(backTo pos (starEach [] X.env)).any (·.1)=false:=by rfl) (hnl:backTo pos (starEach [] X.env)=[]:=by rfl):
  PF X (.Call (.Name "list" p) [.Call (.Name "zip" p2) [e1,e2] [] bp] [] pos) (λρ=>(o8 f1 (o8 f2 P3) ρ).bind SX):=by
 refine uJ λpins s σ H Q I H9 O0 O ρ E q=>?_;dsimp only at q;refine aAM (K9 I za jr zb ?_ (by decide) (by decide));refine aBb ?_ lu sr;rw[lu];show wpAny _ _ (spliced ((false,eval (.Call (.Name "zip" p2) [e1,e2] [] bp) X.env)::backTo pos (starEach [] X.env))) _ _ s;refine aEI (aAM (K9 I hg hm hv ?_ (by decide) (by decide)));have ku:YR X [e1,e2] (o8 f1<|o8 f2 P3):=o5 ha1 (o5 ha2 x6 he1) he;refine aBb (D8 (ku bp pins s σ H (λvs H1=>∃v1 v2 xs ys,vs=[v1,v2]/\o8 f1 (o8 f2 P3) ρ=.ok [.lst xs,.lst ys]/\xs.length=ys.length/\Same H H1/\A5 X.K H1 O v1 (.lst xs)/\A5 X.K H1 O v2 (.lst ys)) I ⟨H9,O0,O,ρ,E,?_⟩) λus s1 ⟨vs,H1,I1,r1,v1,v2,xs,ys,ev,ef,hxy,sm,rb1,rb2⟩=>?_) he bf
 ·cases e1:o8 f1 (o8 f2 P3) ρ with
  |ex z=>rw[e1]at q;exact q
  |bad=>rw[e1]at q;exact q.elim
  |ok ds=>
   rw[e1,R.aa0]at q;match ds,q with
   |[.lst xs,.lst ys],q=>
    simp only[SX]at q;by_cases hc:xs.length=ys.length
    ·intro vs H1 s1 r1;cases r1 with
     |cons ra r1=>cases r1 with
      |cons rb r1=>cases r1 with
       |nil=>exact⟨_,_,xs,ys,rfl,rfl,hc,s1,ra,rb⟩
    ·rw[if_neg hc]at q;exact aAk q
 ·subst ev;rw[ef,R.aa0]at q;simp only[SX]at q;rw[if_pos hxy]at q;obtain⟨a,wx,rfl,hSx,rx⟩:=rb1.aa5;obtain⟨b,wy,rfl,hSy,ry⟩:=rb2.aa5;obtain⟨u1,u2,rfl,ru1,ru2⟩:=vals2 r1;cases ru1;cases ru2;obtain⟨itx,rvx,⟨oX,nX,gX,cX,dX,sX⟩,zX⟩:=I1.list hSx;obtain⟨ity,rvy,⟨oY,nY,gY,cY,dY,sY⟩,zY⟩:=I1.list hSy;have hlx:s1.heap.IsList a itx.toArray:=⟨oX,gX,cX,nX,sX⟩;have hly:s1.heap.IsList b ity.toArray:=⟨oY,gY,cY,nY,sY⟩;refine call_zip_2 hlx hly λh1 z1 z2 z3 z4 z5 zsz k1=>?_;rw[hnl];refine aEY ?_;have lx:itx.length=xs.length:=by rw[<-rvx.length,rx.length]
  have ly:ity.length=ys.length:=by rw[<-rvy.length,ry.length]
  have I2:=I1.kept (h':=h1) (t':=s1.toks) k1;have D:=zipApart_new (n:=s1.heap.objs.size) (aAf gX) (aAf gY);refine SZ.JE (s:={s1 with heap:=h1}) (I1.ok.hd hh) D (by rw[aAm,aAm,lx,ly,hxy]) (by rw[aAm,<-rvx.length];exact zX) ⟨⟨_,_,z1,.inl rfl⟩,z2,⟨_,_,z3⟩,z4,z5,hlx.at λo e=>k1 _ o e,hly.at λo e=>k1 _ o e⟩ λh' acc c kp gl hP=>?_;have k12:∀b u,s1.heap.get? b=some u->h'.get? b=some u:=λb u e=>kp b u (by have hb:=aAf e;simp only[aAd,aAB,or_false,not_or];exact⟨aAj (aAq hb<|aFr _ _),aAj (aAq hb<|aFr _ _),aAj hb,aAj (aAq hb<|aFr _ _)⟩) (k1 b u e)
  have sx:t6 X.K H1 O itx xs:=t6.of rvx rx;have sy:t6 X.K H1 O ity ys:=t6.of rvy ry;obtain⟨vs,Hn,rva,smn,nu,rr⟩:=HH (h0:=h1) (h':=h') (l:=h1.objs.size) (λb hb=>by
   cases q:H1 b with
   |none=>rfl
   |some u=>exact absurd hb ((I2.hok b u q).live)) (acc:=acc.toList) sx sy hxy (λj v hj=>by
   obtain⟨T,x,y,e1,e2,e3,e4,e5,e6⟩:=hP.2 j v (by rw[<-aAA];exact hj);exact⟨T,x,y,e1,by simpa using e2,by simpa using e3,e4,λz=>e5 (by simp[z]),e6⟩) (by rw[aAU,hP.1,aAm,lx])
  have hls:Hn h1.objs.size=none:=by
   cases q:Hn h1.objs.size with
   |none=>rfl
   |some u=>have:=(nu _ u (I2.hok.fresh<|aAg _) q).2.1;exact absurd rfl this
  have hlen:vs.length<=sizeLine:=by rw[rva.length,aAU,hP.1,aAm,<-rvx.length];exact zX
  have s3:Same Hn (upd Hn h1.objs.size<|.lst vs):=j7 hls _;have I3:=I1.ad9 (Hn:=upd Hn h1.objs.size (.lst vs)) (h':=h') (t':=s1.toks) k12 (smn.trans s3) (λb u n qb=>by
   by_cases hb:b=h1.objs.size
   ·subst hb;rw[j4]at qb;cases qb;refine⟨aEi (by rw[zsz];lia),hlen,acc.toList,c,rva,by rw[gl]⟩
   ·rw[k8 hb]at qb;obtain⟨h0b,_,ws,its,rfl,l2,vw,tt⟩:=nu b u n qb;refine⟨?_,aAo l2 (by decide),its,vw,tt⟩;cases z:s1.heap.get? b with
    |none=>rfl
    |some o=>rw[k1 b o z]at h0b;cases h0b)
  exact⟨.ref _,_,I3,rfl,q vs Hn _ (sm.trans smn) hls rr⟩
end
mutual
def kG:D->Nat
 |.tup xs=>J2 xs+1
 |_=>1
def J2:List D->Nat
 |[]=>0
 |x::xs=>kG x+J2 xs
end
theorem cW:∀xs ys:List D,J2 (xs++ys)=J2 xs+J2 ys
 |[],ys=>by simp[J2]
 |x::xs,ys=>by rw[aBl,J2,J2,cW xs ys];lia
section
variable{prog:Program} {w:World}
def tq (prog:Program)(w:World)(h:Heap)(v:Value)(d:D):Prop:=∀(A:Around) (E:A3) (s:Shared) (Q:Int->Shared->Prop),s.heap=h->A.units+8*B7 d<cLine->Q (n8 d) {s with toks:=s.toks+kG d}->wpAny (model prog w) A (pyHash v) Q E s
mutual
theorem MW:∀{v:Value} {d:D},HV h v d->tq prog w h v d
 |_,_,.int i t=>λA E s Q hs hu q=>(intKind prog w).pyHash (k:=i) (intKind_is _ _ _ _) q
 |_,_,.tup (a:=a) (items:=items) (ds:=ds) p r=>λA E s Q hs hu q=>by
  have fs:=CS r;subst hs;obtain⟨o,ho,hc,n,hd⟩:=p;have hT:s.TypeIs (.ref a) "tuple":=⟨o,ho,hc⟩;have hu0:A.units<cLine:=by lia
  rw[B7]at hu;unfold pyHash;first|unfold pyHashByItsType|skip
  first|refine aAa (wpAny_cRoomFor_or (.inr hu0) ?_)|skip
  refine aAa (aBw hT PySem.F.slot_tuple_hash.lookup ?_);show wpAny _ _ (if(some (aGd "tuple.__hash__")==some Value.none)=true then _ else _) Q E s;rw[if_neg (by rw[aFp];exact aAT)];refine aAa (aBw hT PySem.F.slot_tuple_hash.lookup ?_);show wpAny _ _ (callSpecialIfBoundUnlessNone? (.ref a) "__hash__" _>>=_) Q E s;refine aAa (aDj hT PySem.F.slot_tuple_hash<|aBv PySem.F.slot_tuple_hash hT PySem.F.entry_tuple_hash ?_ (PySem.F.args_tuple_hash_1 _));show wpAny _ _ (aDt (.ref a)>>=_) _ _ s;refine aAa (wpAny_tupleItemsOf ho hd ?_);refine aAa ?_;rw[<-aCm];refine aBX _
   (λrest (b:Array Int) s'=>∃done left,ds=done++left/\Paired (tq prog w s.heap) rest left/\b.toList=done.map n8/\s'={s with toks:=s.toks+J2 done})
   _ ?_ ?_ _ _ ⟨[],ds,rfl,fs,rfl,rfl⟩
  ·rintro x rest b s' ⟨done,left,e1,hl,hb,rfl⟩;cases hl with
   |@cons _ d _ left' h1 ig=>
    refine aAa (h1 _ _ _ _ rfl ?_ ?_)
    ·have:B7 d<=B8 ds:=by rw[e1];exact tW (j:=done.length) (by simp)
     rw[t7];lia
    have e3:s.toks+J2 done+kG d=s.toks+J2 (done++[d]):=by rw[cW];simp[J2];lia
    first
     |exact aAb ⟨done++[d],left',by simp[e1],ig,by simp[hb],by rw[<-e3]⟩
     |exact aAa (aAb (aAb ⟨done++[d],left',by simp[e1],ig,by simp[hb],by rw[<-e3]⟩))
  ·rintro b s' ⟨done,left,e1,hl,hb,rfl⟩;cases hl;rw[aCg]at e1;subst e1;show wpAny _ _ (retInt<|aAL b.toList) _ _ _;rw[hb];refine wpAny_ret_mkInt ?_;show wpAny _ _ (if(decide (-(2:Int)^63<=aAL (ds.map n8))&&decide (aAL (ds.map n8)<2^63))=true then _ else _) Q E _;have q':=q;rw[n8,fJ,kG]at q';unfold reduceHash at q';by_cases hr:(decide (-(2:Int)^63<=aAL (ds.map n8))&&decide (aAL (ds.map n8)<2^63))=true
   ·rw[if_pos hr];rw[if_pos hr]at q';exact aAb q'
   ·rw[if_neg hr];rw[if_neg hr]at q';exact aAa (aDr<|aAb q')
theorem CS:∀{v:List Value} {d:List D},HVs h v d->Paired (tq prog w h) v d
 |_,_,.nil=>.nil
 |_,_,.cons r t=>.cons (MW r) (CS t)
end
end
theorem mD:∀{n:Nat} {d:D},Q9 n d=true->mJ d=true/\B7 d<=n
 |n,.int i,_=>⟨rfl,by simp[B7]⟩
 |0,.tup xs,h=>by simp[Q9]at h
 |n+1,.tup xs,h=>by
  have h':xs.all (Q9 n)=true:=by simpa[Q9]using h
  have key:∀ys:List D,ys.all (Q9 n)=true->eS ys=true/\B8 ys<=n:=λys=>by
   induction ys with
   |nil=>intro _;exact⟨rfl,aBc _⟩
   |cons y ys ih=>intro hy;simp only[aGc,aAI]at hy;obtain⟨a1,a2⟩:=mD hy.1;obtain⟨b1,b2⟩:=ih hy.2;exact⟨by show(mJ y&&eS ys)=true;rw[a1,b1];rfl,by show max (B7 y) (B8 ys)<=n;lia⟩
  obtain⟨c1,c2⟩:=key xs h';exact⟨c1,by show B8 xs+1<=n+1;lia⟩
 |n,.non,h=>by cases n<;>simp[Q9]at h
 |n,.dct,h=>by cases n<;>simp[Q9]at h
 |n,.bl b,h=>by cases n<;>simp[Q9]at h
 |n,.str x,h=>by cases n<;>simp[Q9]at h
 |n,.lst xs,h=>by cases n<;>simp[Q9]at h
mutual
theorem HV.ac0 (k:∀b o,h.get? b=some o->(∃its n,o.data=.seq its n)->h'.get? b=some o):∀{v:Value} {d:D},HV h v d->HV h' v d
 |_,_,.int i t=>.int i t
 |_,_,.tup p r=>.tup (by obtain⟨o,e,c,n,d⟩:=p;exact⟨o,k _ _ e ⟨_,n,d⟩,c,n,d⟩) (HVs.ac0 k r)
theorem HVs.ac0 (k:∀b o,h.get? b=some o->(∃its n,o.data=.seq its n)->h'.get? b=some o):∀{v:List Value} {d:List D},HVs h v d->HVs h' v d
 |_,_,.nil=>.nil
 |_,_,.cons r t=>.cons (HV.ac0 k r) (HVs.ac0 k t)
end
instance decD:DecidableEq D:=λa b=>aCX _
def rP (prog:Program) (w:World):HeapKind prog w D where
 is:=λh d a=>HV h (.ref a) d/\B7 d<8
 hash:=n8
 draws:=kG
 room:=λA=>A.units+128<cLine
 inj:=λx y=>HV.inj x.1 y.1
 keeps:=λ{h h' k a d o es ep} x ho hd hs=>⟨x.1.ac0 λb ob e ⟨its,n,q⟩=>(hs.2 b (λz=>by subst z;rw[ho]at e;cases e;rw[hd]at q;cases q)).trans e,x.2⟩
 pyHash:=λ{A E s k a Q} hu hk q=>MW hk.1 A E s Q rfl (by have:=hk.2;lia) q
 eqBool:=λ{A E s x y a b Q} hu hx hy q=>by
  have h1:=rD (A:=A) hx.1 hy.1 (by have:=hx.2;lia);refine h1 prog w E Q ?_;have e:u6 x y=decide (x=y):=by
   by_cases h:x=y
   ·subst h;rw[P8,decide_eq_true rfl]
   ·rw[decide_eq_false h];cases z:u6 x y with
    |false=>rfl
    |true=>exact absurd (bH hx.1.ok hy.1.ok z) h
  rw[e];exact q
 quiet:=λ{A E s k a Q} hk q=>iR 8 hk.1 hk.2 _ A E s Q rfl q
open Classical in
def eU (kvs:List (D×D)) (k v:D):List (D×D):=if k∈kvs.map (·.1)then kvs.map (λp=>if p.1=k then(p.1,v)else p)else kvs++[(k,v)]
def HF (kvs:List (D×D))(k v:D)(h:(kvs.map (·.1)).Nodup):((eU kvs k v).map (·.1)).Nodup:=by
 unfold eU;split
 ·rw[aBk];have:((λx=>x.1)∘λp:D×D=>if p.1=k then(p.1,v)else p)=λp=>p.1:=by funext p;simp only[aGf];split<;>rfl
  rw[this];exact h
 ·rename_i n;rw[aCk,aCS];refine⟨h,by simp,λa ha b hb=>?_⟩;simp at hb;subst hb;exactλe=>n (e▸ha)
section
theorem CW (I:Inv X pins σ H s):∀{es:List DictEntry} {kvs:List (D×D)},nZ X.K H O es kvs->∃xs:List (D×Addr×Value),es=xs.map (entryOfKey (rP X.prog X.w))/\xs.map (·.1)=kvs.map (·.1)/\(∀x∈xs,(rP X.prog X.w).is s.heap x.1 x.2.1)/\
  Paired (λ(x:D×Addr×Value) (p:D×D)=>x.1=p.1/\Rep X.K H O (.ref x.2.1) p.1/\(∃v,RelV v x.2.2/\Rep X.K H O v p.2)/\Q9 7 p.1=true) xs kvs
 |_,_,.nil=>⟨[],rfl,rfl,λx h=>(by cases h),.nil⟩
 |e::_,p::_,.cons ⟨⟨a,e1,r1⟩,r2,e3,k⟩ t=>by
  obtain⟨xs,h1,h2,h3,h4⟩:=CW I t;obtain⟨ok,dp⟩:=mD k;refine⟨(p.1,a,e.val)::xs,?_,by rw[aAv,aAv,h2],λx hx=>?_,.cons ⟨rfl,r1,r2,k⟩ h4⟩
  ·rw[aAv,<-h1];congr 1;obtain⟨hsh,ky,vl⟩:=e;simp only at e1 e3;subst e1 e3;rfl
  ·rcases aAd.mp hx with rfl|hx
   ·exact⟨J3 I r1 ok rfl,by show B7 p.1<8;lia⟩
   ·exact h3 x hx
theorem EM {P:Program}{w:World}{K:PySem.W.Frag}{H:Hp}{O:Addr->Prop}:∀{xs:List (D×Addr×Value)} {kvs:List (D×D)},Paired (λ(x:D×Addr×Value) (p:D×D)=>x.1=p.1/\Rep K H O (.ref x.2.1) p.1/\(∃v,RelV v x.2.2/\Rep K H O v p.2)/\Q9 7 p.1=true) xs kvs->nZ K H O (xs.map (entryOfKey (rP P w))) kvs
 |_,_,.nil=>.nil
 |_,_,.cons ⟨e,r1,r2,k⟩ t=>.cons ⟨⟨_,rfl,r1⟩,r2,by rw[<-e];rfl,k⟩ (EM t)
def aU {xs:List (D×Addr×Value)}{k:D}:(atKey xs k).isSome=true↔k∈xs.map (·.1):=by unfold atKey;rw[Option.isSome_map,List.find?_isSome];simp only[decide_eq_true_eq,aAi]
def CL (I:Inv X pins σ H s)(h:H a=some (.ext λh=>h.get? a=some o))(d:IT a o es)(r:nZ X.K H O es kvs)(nd:(kvs.map (·.1)).Nodup):
  ∃xs,s.heap.DictOfH (rP X.prog X.w) a xs/\xs.map (·.1)=kvs.map (·.1)/\Paired (λ(x:D×Addr×Value) (p:D×D)=>x.1=p.1/\Rep X.K H O (.ref x.2.1) p.1/\(∃v,RelV v x.2.2/\Rep X.K H O v p.2)/\Q9 7 p.1=true) xs kvs:=by
 obtain⟨xs,h1,h2,h3,h4⟩:=CW I r;obtain⟨_,ex,ea,ep,hd,he⟩:=d;have g:s.heap.get? a=some o:=(I.hok a _ h).1;exact⟨xs,⟨o,ea,ep,g,ex,hd,by rw[he,h1],h3,by rw[h2];exact nd⟩,h2,h4⟩
def FR {K:PySem.W.Frag}{xs:List (D×Addr×Value)}{kvs:List (D×D)}{k d:D}{b:Addr}{u:Value}{v:V}(hp:Paired (λ(x:D×Addr×Value) (p:D×D)=>x.1=p.1/\Rep K H O (.ref x.2.1) p.1/\(∃v,RelV v x.2.2/\Rep K H O v p.2)/\Q9 7 p.1=true) xs kvs)(hk:xs.map (·.1)=kvs.map (·.1))
  (rk:Rep K H O (.ref b) k) (kk:Q9 7 k=true) (ru:RelV v u) (rv:Rep K H O v d):
  Paired (λ(x:D×Addr×Value) (p:D×D)=>x.1=p.1/\Rep K H O (.ref x.2.1) p.1/\(∃v,RelV v x.2.2/\Rep K H O v p.2)/\Q9 7 p.1=true) (storedH xs k b u) (eU kvs k d):=by
 unfold storedH eU;by_cases h:k∈kvs.map (·.1)
 ·rw[if_pos h,if_pos (aU.mpr (by rw[hk];exact h))];clear hk h;induction hp with
  |nil=>exact .nil
  |@cons x p xs kvs r t ih=>
   rw[aAv,aAv];refine .cons ?_ ih;unfold putAt;by_cases e:p.1=k
   ·rw[if_pos (r.1.trans e),if_pos e];exact⟨r.1,r.2.1,⟨v,ru,rv⟩,r.2.2.2⟩
   ·rw[if_neg (λz=>e (r.1.symm.trans z)),if_neg e];exact r
 ·rw[if_neg h,if_neg (λz=>h (by rw[<-hk];exact aU.mp z))];clear hk h;induction hp with
  |nil=>exact .cons ⟨rfl,rk,⟨v,ru,rv⟩,kk⟩ .nil
  |cons r t ih=>exact .cons r ih
end
section
variable{K:Type} [DecidableEq K] {knd:HeapKind prog w K}
def pZ {Q:uX}(hu:knd.room A.in1)(hkey:knd.is s.heap k a)(hd:(d==sysModules)=false)(hm:s.heap.DictOfH knd d xs)
  (h:Q (atKey xs k).isSome {s with toks:=s.toks+knd.draws k}):wpAny (model prog w) A (contains (.ref d) (.ref a)) Q E s:=by
 unfold contains;try with_reducible refine aAK ?_
 refine aAa (aBw hm.typeIs aES.lookup ?_);show wpAny _ _ (if(some (aGd "dict.__contains__")==some Value.none)=true then _ else _) _ E s;rw[if_neg (by rw[aFp];exact aAT)];refine aAa (wpAny_callSpecialUnlessNone?_slot (name:=aDn "__contains__") hm.typeIs aES
  (aBv aES hm.typeIs entry_dict_contains ?_ (args_dict_contains _ _)))
 show wpAny _ _ (dictGet d (.ref a)>>=_) _ _ s;refine aAa (wpAny_dictGet_heap hu hkey hm ?_);cases hf:atKey xs k with
 |some p=>rw[hf]at h;show wpAny _ _ (ret<|.bool true) _ _ _;exact aAb ⟨_,rfl,aBF h⟩
 |none=>rw[hf]at h;show wpAny _ _ (Builtin.Dict.pendingKey? d (.ref a)>>=_) _ _ _;exact aAa (wpAny_pendingKey_other hd<|aAb ⟨_,rfl,aBF h⟩)
end
def II:D->Bool
 |.tup _=>true
 |_=>false
open Classical in
def oF (i:Nat) (ρ:Ev) (k:D):R Bool:=match ρ[i]? with
 |some (.d kvs)=>if Q9 7 k=true/\II k=true then .ok (!decide (k∈kvs.map (·.1)))else .bad
 |_=>.bad
section
def oJ {K:PySem.W.Frag}{H:Hp}{O:Addr->Prop}{v:V}{k:D}(r:Rep K H O v k)(h:II k=true):∃a,v=.ref a:=by
 cases r with
 |tup h r=>exact⟨_,rfl⟩
 |_=>cases h
def HP (i:Nat){x:Str}{p:Pos}{f:Ev->R D}(ha:PD X e f)(hu:X.A.units+130<cLine)(hN:X.N[i]?=some x:=by rfl)(hv:BI X.env.scope x:=by first|exact aCN rfl|exact aBS (aCN rfl)|exact aBS (aBS rfl))
  (hd:(x==("__debug__":Str))=false:=by decide) (eu:(x==("__classdict__":Str))=false:=by decide) (hm:behindInMarks .NotIn (.Name x p)=false:=by first|rfl|with_unfolding_all rfl):
  IQ X (.Compare e [.NotIn] [.Name x p] pos) (λρ=>(f ρ).bind (oF i ρ)):=by
 refine uJ λpins s σ H Q I H9 O0 O ρ E q=>?_;dsimp only at q;refine wpAny_isTrue_Compare1 (NX (ta:=tD X f) (tb:=bq i) ha (Q7 hN hv hd eu) (R:=λy x H2=>∃a b o es kvs k,x=.ref a/\y=.ref b/\H2 a=some (.ext λh=>h.get? a=some o)/\IT a o es/\nZ X.K H2 O es kvs/\(kvs.map (·.1)).Nodup/\Rep X.K H2 O (.ref b) k/\Q9 7 k=true/\Q (!(open Classical in decide (k∈kvs.map (·.1)))) H2) I ⟨H9,O0,O,ρ,E,?_⟩ λu w s2 y x H2 I2 ry rx h=>?_) hm
 ·cases e1:f ρ with
  |ex z=>rw[e1]at q;exact q
  |bad=>rw[e1]at q;exact q.elim
  |ok k=>
   rw[e1,R.aa0]at q;intro v H1 sm r;unfold oF at q;cases e2:ρ[i]? with
   |none=>rw[e2]at q;exact aAk q
   |some sl=>
    rw[e2]at q;cases sl with
    |d kvs=>
     dsimp only at q;by_cases hk:Q9 7 k=true/\II k=true
     ·rw[if_pos hk]at q;obtain⟨a,o,es,h1,_,_,h4,h5,h6,h7⟩:=(E.grow sm).slot i _ e2;obtain⟨b,rfl⟩:=oJ r hk.2;exact⟨_,h1,a,b,o,es,kvs,k,rfl,rfl,h4,h5,h6,h7,r,hk.1,q H1 sm⟩
     ·rw[if_neg hk]at q;exact aAk q
    |_=>exact aAk q
 ·obtain⟨a,b,o,es,kvs,k,rfl,rfl,h4,h5,h6,h7,rk,hk,qq⟩:=h;cases ry;cases rx;obtain⟨xs,hD,ud,hp⟩:=CL I2 h4 h5 h6 h7;obtain⟨ok,dp⟩:=mD hk;show wpAny _ _ (contains (.ref a) (.ref b)>>=λc=>pure (aDc (!c))) _ _ s2;refine aAa (pZ (knd:=rP X.prog X.w) (by show X.A.in1.units+128<cLine;rw[t7];lia) ⟨J3 I2 rk ok rfl,by lia⟩ h5.1 hD (aAb ?_));refine aBF ⟨H2,I2.tok _,?_⟩;have e3:(atKey xs k).isSome=(open Classical in decide (k∈kvs.map (·.1))):=by
   by_cases lh:k∈kvs.map (·.1)
   ·rw[decide_eq_true lh];exact aU.mpr (by rw[ud];exact lh)
   ·rw[decide_eq_false lh];cases z:(atKey xs k).isSome with
    |false=>rfl
    |true=>exact absurd (by rw[<-ud];exact aU.mp z) lh
  rw[e3];exact qq
def LW (i:Nat)(hN:X.N.Nodup)(hi:X.N[i]?=some x:=by rfl)(hx:Loc X.env.scope x:=by first|exact aCN rfl|exact aBS rfl)(hs:swapsWith (.Dict [] [] dpos) (some (.Name x pos')) pos.line X.env=pure false:=by rfl)(hf:X.fn x=true\/X.env.scope.names.lookup x=some .local:=by first|exact .inl rfl|exact .inr rfl|assumption):oG X (.Assign [.Name x pos'] (.Dict [] [] dpos) pos) (λρ=>.ok (.nx (ρ.set i (.d [])))):=by
 intro H9 O0 pins s σ H D I ⟨O,ρ,E,fk,q⟩;refine aEX (wpAny_Dict_empty ?_) hs;have gn:(s.heap.push {cls:=.type "dict",data:=.dict #[]}).get? s.heap.objs.size=some {cls:=.type "dict",data:=.dict #[]}:=aAp _ rfl;have hn:=I.hok.fresh (aAg s.heap.objs.size);have I1:=I.laid (a:=s.heap.objs.size) (o:=.ext λh=>h.get? s.heap.objs.size=some {cls:=.type "dict",data:=.dict #[]}) (h':=s.heap.push {cls:=.type "dict",data:=.dict #[]}) (t':=s.toks) (λ_ _ q=>aAc _ q) (aAg _)
  ⟨gn,⟨_,gn⟩,λh1 h2 e k=>k _ e⟩
 have hk:=JQ I1 (j4 (H:=H) (a:=s.heap.objs.size));have big:sysModules<s.heap.objs.size:=aGm (by decide) (I.mod.glob.keeps I.bk).lt;refine P4 I1 hN hi hx (show RelV (.ref s.heap.objs.size) _ from rfl) (λs3 I3=>⟨_,_,I3,?_⟩) hf;have E2:=E.ad6 (u:=.ext λh=>h.get? s.heap.objs.size=some {cls:=.type "dict",data:=.dict #[]}) (sl:=.d []) i hn hk trivial λh0=>⟨s.heap.objs.size,_,[],rfl,.inr rfl,h0,j4,⟨by simp[aCD big],⟨rfl,rfl,rfl⟩,#[],0,rfl,rfl⟩,.nil,aCK⟩;exact q _ _ _ E2 (oD I1 _ E2.trk) λb o hb n=>⟨by rw[k8 (t4 hb hn)];exact hb,λz=>z.elim n (t4 hb hn)⟩
def uj (X:Cx):TV:=λx y v H Q=>∃O a b o es kvs k d,x=.ref a/\y=.ref b/\H a=some (.ext λh=>h.get? a=some o)/\IT a o es/\nZ X.K H O es kvs/\(kvs.map (·.1)).Nodup/\es.length<=sizeLine/\Rep X.K H O (.ref b) k/\Q9 7 k=true/\Rep X.K H O v d/\
 ∀o' es',IT a o' es'->nZ X.K H O es' (eU kvs k d)->Q (upd H a<|.ext λh=>h.get? a=some o')
def SB (hu:X.A.units+130<cLine):WE X (uj X):=by
 intro pins s σ H x y v ov iv u Q I rx ry ru z;obtain⟨O,a,b,o,es,kvs,k,d,ex,ey,h4,h5,h6,h7,hz,rk,hk,rv,q⟩:=z;subst ex ey;cases rx;cases ry;obtain⟨xs,hD,ud,hp⟩:=CL I h4 h5 h6 h7;obtain⟨ok,dp⟩:=mD hk;have hlen:xs.length<=sizeLine:=by
  obtain⟨_,ex,ea,ep,hd,he⟩:=h5;obtain⟨o2,qh,ep2,g2,_,hd2,lu,_⟩:=hD;have g:s.heap.get? a=some o:=(I.hok a _ h4).1;rw[g]at g2;cases g2;rw[hd]at hd2;cases hd2;have:=congrArg List.length (he.symm.trans lu);rw[aAl]at this
  lia
 refine wpAny_setItem_heap (knd:=rP X.prog X.w) (by show X.A.in1.units+128<cLine;rw[t7];lia) ⟨J3 I rk ok rfl,by lia⟩ hD (λh' hD' hs=>?_) hlen;obtain⟨o',es',ep',g',ex',ko,xn,is',nd'⟩:=hD';have I1:=I.write (x:=a) (e:=a) (o:=.ext λh=>h.get? a=some o') (h':=h') (t':=s.toks+kG k) (by rw[h4];trivial) (.inl rfl) (λb u hb e=>(hs.2 b hb).trans e) ⟨o',g'⟩ ⟨g',⟨o',g'⟩,λh1 h2 e k=>k _ e⟩;exact⟨_,I1,q o' _ ⟨h5.1,ex',es',ep',ko,rfl⟩ (by rw[xn];exact EM (FR hp ud rk hk ru rv))⟩
def vM (i:Nat) (ρ:Ev) (k d:D):R Out:=match ρ[i]? with
 |some (.d kvs)=>if Q9 7 k=true/\II k=true/\kvs.length<=sizeLine then .ok (.nx (ρ.set i<|.d (eU kvs k d)))else .bad
 |_=>.bad
def zP (i:Nat){x:Str}{k:Expr}{f g:Ev->R D}{p ps:Pos}(he:PD X e f)(hk:PD X k g)(hu:X.A.units+130<cLine)(hN:X.N[i]?=some x:=by rfl)(hv:BI X.env.scope x:=by first|exact aCN rfl|exact aBS (aCN rfl)|exact aBS (aBS rfl))(hd:(x==("__debug__":Str))=false:=by decide)
  (eu:(x==("__classdict__":Str))=false:=by decide) (ha:∀v,assign (.Subscript (.Name x p) k ps) X.env v=(do
   let ov<-holding [v] (eval (.Name x p) X.env)
   let iv<-holding [v,ov] (eval k X.env)
   standAt ps
   holding [v,ov,iv] (setItem ov iv v)
   release [v,ov,iv] []):=by intro _;rfl)
  (hs:swapsWithSole [.Subscript (.Name x p) k ps] e pos.line X.env=pure false:=by rfl) (hw:swappedStores [.Subscript (.Name x p) k ps] e X.env=pure none:=by rfl) (h1:(assignEach [.Subscript (.Name x p) k ps] X.env).map (·.2)=[assign (.Subscript (.Name x p) k ps) X.env]:=by rfl):
  oG X (.Assign [.Subscript (.Name x p) k ps] e pos) (λρ=>(f ρ).bind λd=>(g ρ).bind λkd=>vM i ρ kd d):=λH9 O0=>
 BN (BY he (MH (Q7 hN hv hd eu) hk (SB hu) ha) hs hw h1) λD σ H O ρ E fk q=>⟨H9,O0,O,ρ,E,by
  cases e1:f ρ with
  |ex z=>rw[e1]at q;exactλH' s=>q H' (E.same.trans s)
  |bad=>rw[e1]at q;exact q
  |ok d=>
   rw[e1,R.aa0]at q;intro v H1 s1 r1;have E1:=E.grow s1;cases e2:g ρ with
   |ex z=>rw[e2]at q;exact(q H<|E.same.trans<|Same.refl _).elim
   |bad=>rw[e2]at q;exact aAk q
   |ok kd=>
    rw[e2,R.aa0]at q;unfold vM at q;cases e3:ρ[i]? with
    |none=>rw[e3]at q;exact aAk q
    |some sl=>
     rw[e3]at q;cases sl with
     |d kvs=>
      dsimp only at q;by_cases hk:Q9 7 kd=true/\II kd=true/\kvs.length<=sizeLine
      ·rw[if_pos hk]at q;obtain⟨a,o,es,h1,h2,h3,h4,h5,h6,h7⟩:=E1.slot i _ e3;refine⟨_,h1,H9,O0,O,ρ,E1,?_⟩;rw[e2];intro kv H2 s2 r2;have E2:=E1.grow s2;obtain⟨b,rfl⟩:=oJ r2 hk.2.1;have h6':nZ X.K H2 O es kvs:=h6.mono λr=>r.same s2;refine⟨O,a,b,o,es,kvs,kd,d,rfl,rfl,s2 _ _ h4,h5,h6',h7,by rw[h6.length];exact hk.2.2,r2,hk.1,r1.same s2,λo' es' d' r'=>?_⟩;obtain⟨E3,k3⟩:=E2.ad7 (sl':=.d (eU kvs kd d)) (u':=.ext λh=>h.get? a=some o') e3 trivial h1 (s2 _ _ h4) trivial trivial λhO h0 m=>⟨a,o',es',rfl,h2,h3,j4,d',r'.mono λr=>r.upd (s2 _ _ h4) trivial h2,HF kvs kd d h7⟩;exact q _ _ _ E3 fk (((Kp.of s1).trans (Kp.of s2)).trans k3)
      ·rw[if_neg hk]at q;exact aAk q
     |_=>exact aAk q⟩
end
end DL
namespace MM
open PySem
def CmpOn (prog:Program)(w:World)(A:Around)(op:CmpOp)(Hs:Heap->Prop)(P:Nat->Value->Prop)(bt:Nat->Nat->Bool):Prop:=
 ∀i j vi vj (s:Shared) (Q:A3) (E:A3),Hs s.heap->P i vi->P j vj->Q (.bool (bt i j)) s->wpAny (model prog w) A (richCompare op vi vj) Q E s
section
def GP (W:WalksS prog w A.in1 I fp wr G n P St){Hs:Heap->Prop}(hH:∀i s,St i s->Hs s.heap)(bt:Nat->Nat->Bool)(kl:CmpOn prog w A.in1 .Lt Hs P bt)(S:Addr)(ji:S∉fp):
  ∀(k j:Nat) (s:Shared) (vb:Value) (c:Nat),n-(j+1)=k->j+1<=n->St (j+1) s->P (argBest bt j) vb->
  s.heap.get? S=some {cls:=.type "list",dict:=none,data:=.seq #[vb,vb] c,slots:=#[]}->
  (∀v s',P (argBest bt (n-1)) v->Moved (S::wr) G s s'->R (.ok (.ret v)) s')->codeAny (model prog w) A (.builtin "min.loop" ⟨[.ref I,.none,.ref S],[]⟩) R s:=by
 have ur:S∉wr:=λh=>ji (W.sub _ h);have fu:∀b∈wr,b∈S::wr:=λb hb=>aAe _ hb;have cu:(toString "min"++toString ".loop":String)= "min.loop":=by decide
 have nv:∀{b:Addr},b∉S::wr->S≠b:=λhb h=>hb (by rw[h];exact aAJ);intro k;induction k with
 |zero=>
  intro j s vb c hk hj gr zf hS hR;have lh:j+1=n:=by omega
  refine aBn aFs ?_;rw[aAQ aCB _];show wpAny _ A.in1 (seqItems? (.ref S)>>=_) _ _ s;refine aAa (aBp hS rfl ?_);show wpAny _ A.in1 (tryCatch (pyNext<|.ref I) _>>=_) _ _ s;refine aAa (aCM<|W.done s _ _ (lh▸gr) λs' hm=>?_);have gc:=hm.heap S _ ur hS;show wpAny _ A.in1 (updateSeq S (λ_=>#[])>>=_) _ _ _;refine aAa ?_;refine aBx gc rfl (aAa<|aCL<|aAb ?_);exact hR vb _ (by rw[<-lh];exact zf) ((hm.mono fu).then_heap (tk:=s'.toks) (aAg _) λb o hb e=>(aAr _ _<|nv hb).trans e)
 |succ k ih=>
  intro j s vb c hk hj gr zf hS hR;have ao:j+1<n:=by omega
  refine aBn aFs ?_;rw[aAQ aCB _];show wpAny _ A.in1 (seqItems? (.ref S)>>=_) _ _ s;refine aAa (aBp hS rfl ?_);show wpAny _ A.in1 (tryCatch (pyNext<|.ref I) _>>=_) _ _ s;refine aAa (aCM<|W.item (j+1) s _ _ ao gr λv s' hP gu hm=>?_);have gc:=hm.heap S _ ur hS;show wpAny _ A.in1 (tryCatch (holding [v,v]<|richCompare .Lt v vb>>=_) _>>=_) _ _ _;refine aAa (aCM<|aAK<|aAa<|kl (j+1) (argBest bt j) v vb _ _ _ (hH _ _ gu) hP zf ?_);refine aAa (aAK<|aBF ?_);refine aAa (aCL<|aAb ?_);cases hb:bt (j+1) (argBest bt j)with
  |true=>
   simp only[if_true];refine aAa ?_;refine aBx gc rfl (aAa<|aCL ?_);rw[cu];refine aAb ⟨aBt aCB _,ih (j+1) _ v _ (by omega) ao (W.frame _ s' _ s'.toks gu (aAg _) λb xv o e=>?_) (by simp only[argBest,hb,if_true];exact hP) (aAS _ gc rfl)
    λv' s'' qg ic=>?_⟩
   ·exact(aAr _ _ (λh:S=b=>ji (by rw[h];exact xv))).trans e
   ·exact hR v' s'' qg (aDC W.gtrans ((hm.mono fu).then_heap (aAg _) λb o hb e=>(aAr _ _<|nv hb).trans e) ic)
  |false=>simp only[aAs,if_false];refine aAa (aCL ?_);rw[cu];refine aAb ⟨aBt aCB _,ih (j+1) _ vb c (by omega) ao gu (by simp only[argBest,hb,aAs,if_false];exact zf) gc λv' s'' qg ic=>?_⟩;exact hR v' s'' qg (aDC W.gtrans (hm.mono fu) ic)
def zW (W:WalksS prog w A.in1 I fp wr G n P St){Hs:Heap->Prop}(hH:∀i s,St i s->Hs s.heap)(bt:Nat->Nat->Bool)(kl:CmpOn prog w A.in1 .Lt Hs P bt)(S:Addr)(ji:S∉fp)(hn:0<n)(gr:St 0 s)(hS:s.heap.get? S=some {cls:=.type "list",dict:=none,data:=.seq #[] c,slots:=#[]})(hR:∀v s',P (argBest bt (n-1)) v->Moved (S::wr) G s s'->R (.ok (.ret v)) s'):codeAny (model prog w) A (.builtin "min.loop" ⟨[.ref I,.none,.ref S],[]⟩) R s:=by
 have ur:S∉wr:=λh=>ji (W.sub _ h);have fu:∀b∈wr,b∈S::wr:=λb hb=>aAe _ hb;have cu:(toString "min"++toString ".loop":String)= "min.loop":=by decide
 have nv:∀{b:Addr},b∉S::wr->S≠b:=λhb h=>hb (by rw[h];exact aAJ);refine aBn aFs ?_;rw[aAQ aCB _];show wpAny _ A.in1 (seqItems? (.ref S)>>=_) _ _ s;refine aAa (aBp hS rfl ?_);show wpAny _ A.in1 (tryCatch (pyNext<|.ref I) _>>=_) _ _ s;refine aAa (aCM<|W.item 0 s _ _ hn gr λv s' hP gu hm=>?_);have gc:=hm.heap S _ ur hS;show wpAny _ A.in1 (updateSeq S (λ_=>#[v,v])>>=_) _ _ _;refine aAa ?_;refine aBx gc rfl ?_;rw[cu];refine aAb ⟨aBt aCB _,GP W hH bt kl S ji _ 0 _ v _ rfl hn (W.frame _ s' _ s'.toks gu (aAg _) λb xv o e=>?_) hP (aAS _ gc rfl) λv' s'' qg ic=>?_⟩
 ·exact(aAr _ _ (λh:S=b=>ji (by rw[h];exact xv))).trans e
 ·exact hR v' s'' qg (aDC W.gtrans ((hm.mono fu).then_heap (aAg _) λb o hb e=>(aAr _ _<|nv hb).trans e) ic)
def call_minH {E:A3}{Q:A3}(h:wpAny (model prog w) A.in1 (pyIter x) (λit bc=>∃I fp wr G n P St Hs bt,it=.ref I/\WalksS prog w A.in1 I fp wr G n P St/\St 0 bc/\(∀b∈fp,b<bc.heap.objs.size)/\0<n/\(∀i s,St i s->Hs s.heap)/\CmpOn prog w A.in1 .Lt Hs P bt/\
   ∀v s',P (argBest bt (n-1)) v->Moved wr G bc s'->Q v s') E s):
  wpAny (model prog w) A (call (.builtin "min") [x]) Q E s:=by
 have cu:(toString "min"++toString ".loop":String)= "min.loop":=by decide
 refine call_function_tree F.kind_min F.plain_min F.entry_min (F.args_min1 _) ?_;show wpAny _ A.in1 (aCy "min" ["key", "default"] 0 ⟨[],[]⟩>>=_) _ _ s;refine aAa (aFW (show aCy "min" ["key", "default"] 0 ⟨[],[]⟩=pure [none,none]from rfl) ?_);refine aAa (aAb ?_);refine aAa (aCb h (λit bc gm=>?_) λ_ _ e=>e);obtain⟨I,fp,wr,G,n,P,St,Hs,bt,rfl,W,gr,uf,hn,hH,kl,hQ⟩:=gm;refine aAa (aBm ?_);have ji:bc.heap.objs.size∉fp:=λhm=>aAX _ (uf _ hm);rw[cu];refine aAb ⟨aBt aCB _,zW W hH bt kl bc.heap.objs.size ji hn (W.frame 0 bc _ bc.toks gr (aAg _) λb _ o e=>aAc _ e) (aAp _ rfl) λv s' hP hm=>?_⟩;exact hQ v s' hP (Moved.drop_new (tk:=bc.toks) hm<|aAg _)
def HU (W:WalksS prog w A.in1 I fp wr G n P St){Hs:Heap->Prop}(hH:∀i s,St i s->Hs s.heap)(bt:Nat->Nat->Bool)(kl:CmpOn prog w A.in1 .Gt Hs P bt)(S:Addr)(ji:S∉fp):
  ∀(k j:Nat) (s:Shared) (vb:Value) (c:Nat),n-(j+1)=k->j+1<=n->St (j+1) s->P (argBest bt j) vb->
  s.heap.get? S=some {cls:=.type "list",dict:=none,data:=.seq #[vb,vb] c,slots:=#[]}->
  (∀v s',P (argBest bt (n-1)) v->Moved (S::wr) G s s'->R (.ok (.ret v)) s')->codeAny (model prog w) A (.builtin "max.loop" ⟨[.ref I,.none,.ref S],[]⟩) R s:=by
 have ur:S∉wr:=λh=>ji (W.sub _ h);have fu:∀b∈wr,b∈S::wr:=λb hb=>aAe _ hb;have cu:(toString "max"++toString ".loop":String)= "max.loop":=by decide
 have nv:∀{b:Addr},b∉S::wr->S≠b:=λhb h=>hb (by rw[h];exact aAJ);intro k;induction k with
 |zero=>
  intro j s vb c hk hj gr zf hS hR;have lh:j+1=n:=by omega
  refine aBn aFt ?_;rw[aAQ aCC _];show wpAny _ A.in1 (seqItems? (.ref S)>>=_) _ _ s;refine aAa (aBp hS rfl ?_);show wpAny _ A.in1 (tryCatch (pyNext<|.ref I) _>>=_) _ _ s;refine aAa (aCM<|W.done s _ _ (lh▸gr) λs' hm=>?_);have gc:=hm.heap S _ ur hS;show wpAny _ A.in1 (updateSeq S (λ_=>#[])>>=_) _ _ _;refine aAa ?_;refine aBx gc rfl (aAa<|aCL<|aAb ?_);exact hR vb _ (by rw[<-lh];exact zf) ((hm.mono fu).then_heap (tk:=s'.toks) (aAg _) λb o hb e=>(aAr _ _<|nv hb).trans e)
 |succ k ih=>
  intro j s vb c hk hj gr zf hS hR;have ao:j+1<n:=by omega
  refine aBn aFt ?_;rw[aAQ aCC _];show wpAny _ A.in1 (seqItems? (.ref S)>>=_) _ _ s;refine aAa (aBp hS rfl ?_);show wpAny _ A.in1 (tryCatch (pyNext<|.ref I) _>>=_) _ _ s;refine aAa (aCM<|W.item (j+1) s _ _ ao gr λv s' hP gu hm=>?_);have gc:=hm.heap S _ ur hS;show wpAny _ A.in1 (tryCatch (holding [v,v]<|richCompare .Gt v vb>>=_) _>>=_) _ _ _;refine aAa (aCM<|aAK<|aAa<|kl (j+1) (argBest bt j) v vb _ _ _ (hH _ _ gu) hP zf ?_);refine aAa (aAK<|aBF ?_);refine aAa (aCL<|aAb ?_);cases hb:bt (j+1) (argBest bt j)with
  |true=>
   simp only[if_true];refine aAa ?_;refine aBx gc rfl (aAa<|aCL ?_);rw[cu];refine aAb ⟨aBt aCC _,ih (j+1) _ v _ (by omega) ao (W.frame _ s' _ s'.toks gu (aAg _) λb xv o e=>?_) (by simp only[argBest,hb,if_true];exact hP) (aAS _ gc rfl)
    λv' s'' qg ic=>?_⟩
   ·exact(aAr _ _ (λh:S=b=>ji (by rw[h];exact xv))).trans e
   ·exact hR v' s'' qg (aDC W.gtrans ((hm.mono fu).then_heap (aAg _) λb o hb e=>(aAr _ _<|nv hb).trans e) ic)
  |false=>simp only[aAs,if_false];refine aAa (aCL ?_);rw[cu];refine aAb ⟨aBt aCC _,ih (j+1) _ vb c (by omega) ao gu (by simp only[argBest,hb,aAs,if_false];exact zf) gc λv' s'' qg ic=>?_⟩;exact hR v' s'' qg (aDC W.gtrans (hm.mono fu) ic)
def zZ (W:WalksS prog w A.in1 I fp wr G n P St){Hs:Heap->Prop}(hH:∀i s,St i s->Hs s.heap)(bt:Nat->Nat->Bool)(kl:CmpOn prog w A.in1 .Gt Hs P bt)(S:Addr)(ji:S∉fp)(hn:0<n)(gr:St 0 s)(hS:s.heap.get? S=some {cls:=.type "list",dict:=none,data:=.seq #[] c,slots:=#[]})(hR:∀v s',P (argBest bt (n-1)) v->Moved (S::wr) G s s'->R (.ok (.ret v)) s'):codeAny (model prog w) A (.builtin "max.loop" ⟨[.ref I,.none,.ref S],[]⟩) R s:=by
 have ur:S∉wr:=λh=>ji (W.sub _ h);have fu:∀b∈wr,b∈S::wr:=λb hb=>aAe _ hb;have cu:(toString "max"++toString ".loop":String)= "max.loop":=by decide
 have nv:∀{b:Addr},b∉S::wr->S≠b:=λhb h=>hb (by rw[h];exact aAJ);refine aBn aFt ?_;rw[aAQ aCC _];show wpAny _ A.in1 (seqItems? (.ref S)>>=_) _ _ s;refine aAa (aBp hS rfl ?_);show wpAny _ A.in1 (tryCatch (pyNext<|.ref I) _>>=_) _ _ s;refine aAa (aCM<|W.item 0 s _ _ hn gr λv s' hP gu hm=>?_);have gc:=hm.heap S _ ur hS;show wpAny _ A.in1 (updateSeq S (λ_=>#[v,v])>>=_) _ _ _;refine aAa ?_;refine aBx gc rfl ?_;rw[cu];refine aAb ⟨aBt aCC _,HU W hH bt kl S ji _ 0 _ v _ rfl hn (W.frame _ s' _ s'.toks gu (aAg _) λb xv o e=>?_) hP (aAS _ gc rfl) λv' s'' qg ic=>?_⟩
 ·exact(aAr _ _ (λh:S=b=>ji (by rw[h];exact xv))).trans e
 ·exact hR v' s'' qg (aDC W.gtrans ((hm.mono fu).then_heap (aAg _) λb o hb e=>(aAr _ _<|nv hb).trans e) ic)
def call_maxH {E:A3}{Q:A3}(h:wpAny (model prog w) A.in1 (pyIter x) (λit bc=>∃I fp wr G n P St Hs bt,it=.ref I/\WalksS prog w A.in1 I fp wr G n P St/\St 0 bc/\(∀b∈fp,b<bc.heap.objs.size)/\0<n/\(∀i s,St i s->Hs s.heap)/\CmpOn prog w A.in1 .Gt Hs P bt/\
   ∀v s',P (argBest bt (n-1)) v->Moved wr G bc s'->Q v s') E s):
  wpAny (model prog w) A (call (.builtin "max") [x]) Q E s:=by
 have cu:(toString "max"++toString ".loop":String)= "max.loop":=by decide
 refine call_function_tree F.kind_max F.plain_max F.entry_max (F.args_max1 _) ?_;show wpAny _ A.in1 (aCy "max" ["key", "default"] 0 ⟨[],[]⟩>>=_) _ _ s;refine aAa (aFW (show aCy "max" ["key", "default"] 0 ⟨[],[]⟩=pure [none,none]from rfl) ?_);refine aAa (aAb ?_);refine aAa (aCb h (λit bc gm=>?_) λ_ _ e=>e);obtain⟨I,fp,wr,G,n,P,St,Hs,bt,rfl,W,gr,uf,hn,hH,kl,hQ⟩:=gm;refine aAa (aBm ?_);have ji:bc.heap.objs.size∉fp:=λhm=>aAX _ (uf _ hm);rw[cu];refine aAb ⟨aBt aCC _,zZ W hH bt kl bc.heap.objs.size ji hn (W.frame 0 bc _ bc.toks gr (aAg _) λb _ o e=>aAc _ e) (aAp _ rfl) λv s' hP hm=>?_⟩;exact hQ v s' hP (Moved.drop_new (tk:=bc.toks) hm<|aAg _)
end
def walks_more {P:Nat->Value->Prop}{St:Nat->Heap->Prop}(W:Walks prog w A I fp wr n P St)(more:L8)(hd:∀p∈more,p.1∉wr):
  Walks prog w A I (fp++more.map (·.1)) wr n P (λi h=>St i h/\∀p∈more,h.get? p.1=some p.2)where
 sub:=λb hb=>aBB _ (W.sub b hb)
 frame:=λi h h' st k=>⟨W.frame i h h' st.1 λb hb o e=>k b (aBB _ hb) o e,λp hp=>k p.1 (aAF _<|aBj hp) _ (st.2 p hp)⟩
 item:=λi s Q E hi st hQ=>W.item i s Q E hi st.1 λv h' tk hP gr kp=>hQ v h' tk hP ⟨gr,λp hp=>kp p.1 p.2 (hd p hp) (st.2 p hp)⟩ kp
 done:=λs Q E st hQ=>W.done s Q E st.1 hQ
 self:=λi s Q E st hQ=>W.self i s Q E st.1 hQ
end MM
namespace DL
open PySem PySem.Spec L2
open PyProof.Rows hiding St
variable [Tabs]
section
def GJ {x:Str}{a:Addr}{dd:Option Addr}{its:Array Value}{n:Nat}{sl:Array (Option Value)}{ns:List Int}(hm:X.mg x=some (.ref a))(hk:X.K.lookup a=some ⟨.type "tuple",dd,.seq its n,sl⟩)(hi:m6 (ns.map V.int) its.toList)(hz:its.size<=sizeLine)(hg:Gl X x:=by rfl)(il:(x==("__debug__":Str))=false:=by decide):
 PD X (.Name x pos) (US (.tup (ns.map D.int))):=uV (TU hg hm (show RelV (.ref a) _ from rfl) il) λH O=>.tup (.inr ⟨_,its,n,hk,rfl,rfl,hz,hi⟩) (Reps.ints ns)
def JU:D->D->R D
 |.non,.non=>.ok (.bl true)
 |_,.non=>.ok (.bl false)
 |_,_=>.bad
def LX:lX X (compareOp .Is) JU:=by
 intro H O x y dx dy Q fr rx ry q;refine⟨_,WR,?_⟩;cases dy with
 |non=>
  refine⟨ry.ac2,?_⟩;cases dx with
  |non=>rw[rx.ac2];exact q _ H (Same.refl _) .bl
  |bl b=>rw[rx.blI];exact q _ H (Same.refl _) .bl
  |int i=>rw[rx.aa6];exact q _ H (Same.refl _) .bl
  |str z=>rw[rx.ac9];exact q _ H (Same.refl _) .bl
  |tup ds=>obtain⟨a,_,rfl,_⟩:=rx.tupI;exact q _ H (Same.refl _) .bl
  |lst ds=>obtain⟨a,_,rfl,_⟩:=rx.aa5;exact q _ H (Same.refl _) .bl
  |dct=>obtain⟨a,_,rfl,_⟩:=rx.ag0;exact q _ H (Same.refl _) .bl
 |_=>cases dx<;>exact aAk q
def MV (he:PD X e f)(hs:swapsWith e none pos.line X.env=pure false:=by rfl):oG X (.Expr e pos) (λρ=>(f ρ).bind λ_=>.ok (.nx ρ)):=λH9 O0=>
 BN (mL he hs) λD σ H O ρ E fk q=>⟨H9,O0,O,ρ,E,by
  cases e1:f ρ with
  |ok d=>rw[e1]at q;exactλv H' s r=>q _ H' O (E.grow s) fk (Kp.of s)
  |ex x=>rw[e1]at q;exactλH' s=>q H' (E.same.trans s)
  |bad=>rw[e1]at q;exact q⟩
def cB:List D->Option (List Bool)
 |[]=>some []
 |.bl b::ds=>(cB ds).map (b::·)
 |_::_=>none
theorem nV:∀{ds:List D} {bs:List Bool},cB ds=some bs->ds=bs.map D.bl
 |[],bs,h=>by cases h;rfl
 |.bl b::ds,bs,h=>by
  unfold cB at h;cases e:cB ds with
  |none=>rw[e]at h;cases h
  |some l=>rw[e]at h;have h':b::l=bs:=Option.some.inj h;subst h';rw[nV e];rfl
 |.non::_,_,h|.int _::_,_,h|.str _::_,_,h|.tup _::_,_,h|.lst _::_,_,h|.dct::_,_,h=>by cases h
def anyR:List D->R D
 |[.lst ds]=>match cB ds with
  |some bs=>.ok (.bl (bs.any id))
  |none=>.bad
 |_=>.bad
def AV {K:PySem.W.Frag}{H:Hp}{O:Addr->Prop}{ws:List V}{bs:List Bool}{its:List Value}(r:Reps K H O ws (bs.map D.bl))(v:m6 ws its):its=bs.map aDc:=by
 induction bs generalizing ws its with
 |nil=>cases r;cases v;rfl
 |cons b bs ih=>
  cases r with
  |cons r t=>
   cases v with
   |cons rv tv=>cases r;have:_=aDc b:=rv;rw[this,ih t tv];rfl
def FY (bs:List Bool):(aBy bs.length).any (λi=>bs.getD i false)=bs.any id:=by
 rw[aDo,aEf,aEf];constructor
 ·rintro⟨i,hi,e⟩;have fg:i<bs.length:=by simpa using hi
  refine⟨bs[i],aBN fg,?_⟩;simpa[aAn,aAh fg]using e
 ·rintro⟨b,hb,e⟩;obtain⟨i,hi,rfl⟩:=aBs hb;exact⟨i,by simpa using hi,by simpa[aAn,aAh hi]using e⟩
def XT (hc:X.calm=true):Z5 X (.builtin "any") anyR:=by
 intro H O vs ds Q fr r q;match ds,q with
 |[.lst xs],q=>
  obtain⟨v,rfl,z⟩:=CK r;obtain⟨p,ws,rfl,h1,h2⟩:=z.aa5;simp only[anyR]at q;cases e:cB xs with
  |none=>rw[e]at q;exact q.elim
  |some bs=>
   rw[e]at q;rw[nV e]at h2;refine⟨λvs H' Q'=>vs=[.ref p]/\H'=H/\Q'=Q,λpins s σ H' xs us Q' I rv ⟨e1,e2,e3⟩=>?_,rfl,rfl,rfl⟩;subst e1 e2 e3;obtain⟨u,rfl,ru⟩:=vals1 rv;cases ru;obtain⟨its,rv2,⟨oL,nL,gL,cL,dL,sL⟩,zL⟩:=I.list h1;have ei:=AV h2 rv2;have hl:s.heap.IsList p its.toArray:=⟨oL,gL,cL,nL,sL⟩;refine call_any_walk (aDs hl ⟨s.heap.objs.size,_,_,its.toArray.size,_,_,λi=>bs.getD i false,rfl,Walks.list (by simp[I.ok.hd hc]) s.heap.objs.size p (aAj<|aAf gL) its.toArray,⟨⟨_,aAp _ rfl,rfl,rfl⟩,hl.push _⟩,λi v s' Q E hP hq=>?_,λh' tk kp=>?_⟩)
   ·have hP:its.toArray[i]?=some v:=hP;have hq:Q (bs.getD i false) s':=hq;rw[aBP,ei,aAG]at hP;cases eb:bs[i]? with
    |none=>rw[eb]at hP;cases hP
    |some b=>rw[eb]at hP;have:aDc b=v:=Option.some.inj hP;subst this;rw[aAn,eb]at hq;exact aBF hq
   ·have I2:=I.kept (h':=h') (t':=tk) λb o e=>kp b o (by simp only[aAZ];exact aAj (aAf e)) (aAc _ e);refine⟨.bl (bs.any id),_,I2,?_,q _ _ (Same.refl _) .bl⟩;show aDc _=aDc _;rw[aAm,ei,aAl,FY]
end
end DL
namespace DL
open PySem PySem.Spec L2
open PyProof.Rows hiding St
variable [Tabs]
def KU (ds:List D)(i j:Nat):Bool:=HT.lexLt (flat<|ds.getD i .non) (flat<|ds.getD j .non)
def OK:List D->R D
 |[.lst ds]=>if ds≠[]/\ds.all N7=true then .ok (ds.getD (argBest (KU ds) (ds.length-1)) .non)else .bad
 |_=>.bad
def jV (h:Heap)(its:List Value):List (Addr×Obj):=its.filterMap λv=>match v with
 |.ref b=>(h.get? b).map λo=>(b,o)
 |_=>none
def nS (hb:aDv b∈its)(e:h.get? b=some o):(b,o)∈jV h its:=
 aBR.mpr ⟨_,hb,by show(h.get? b).map _=_;rw[e];rfl⟩
def N0 (hp:p∈jV h its):h.get? p.1=some p.2:=by
 obtain⟨v,_,e⟩:=aBR.mp hp;cases v with
 |ref b=>
  have e:(h.get? b).map (λo=>(b,o))=some p:=e;cases q:h.get? b with
  |none=>rw[q]at e;cases e
  |some o=>rw[q]at e;cases e;exact q
 |_=>cases e
section
def SK (hc:X.calm=true)(hu:X.A.units+300<cLine):Z5 X (.builtin "min") OK:=by
 intro H O vs ds Q fr r q;match ds,q with
 |[.lst xs],q=>
  obtain⟨v,rfl,z⟩:=CK r;obtain⟨p,ws,rfl,h1,h2⟩:=z.aa5;simp only[OK]at q;by_cases hp:xs≠[]/\xs.all N7=true
  ·rw[if_pos hp]at q;obtain⟨ah,hp⟩:=hp;have pt:∀d∈xs,N7 d=true:=aAW.mp hp;refine⟨λvs H' Q'=>vs=[.ref p]/\H'=H/\Q'=Q,λpins s σ H' xs' us Q' I rv ⟨e1,e2,e3⟩=>?_,rfl,rfl,rfl⟩;subst e1 e2 e3;obtain⟨u,rfl,ru⟩:=vals1 rv;cases ru;obtain⟨its,rv2,⟨oL,nL,gL,cL,dL,sL⟩,zL⟩:=I.list h1;have hl:s.heap.IsList p its.toArray:=⟨oL,gL,cL,nL,sL⟩;have st:t6 X.K H' O its xs:=t6.of rv2 h2;have hlen:its.toArray.size=xs.length:=by rw[aAm,<-rv2.length,h2.length]
   have qr:0<xs.length:=aDD.mpr ah;have W:=MM.walks_more (Walks.list (prog:=X.prog) (w:=X.w) (A:=X.A.in1) (by simp[I.ok.hd hc]) s.heap.objs.size p (aAj<|aAf gL) its.toArray) (jV s.heap its)
    (λq hq=>by simp only[aAZ];exact aAj (aAf<|N0 hq))
   refine MM.call_minH (aDs hl ⟨s.heap.objs.size,_,_,_,its.toArray.size,_,_,λh=>∀q∈jV s.heap its,h.get? q.1=some q.2,KU xs,rfl,W.toS,⟨⟨⟨_,aAp _ rfl,rfl,rfl⟩,hl.push _⟩,λq hq=>aAc _ (N0 hq)⟩,λb hb=>?_,by rw[hlen];exact qr,λi s h=>h.2,λi j vi vj s' Q2 E2 hh hi hj hq=>?_,λv s' hP hm=>?_⟩)
   ·rw[aBo];rcases aAN.mp hb with hb|hb
    ·rcases aAd.mp hb with rfl|hb
     ·exact aCZ _
     ·rcases aAd.mp hb with rfl|hb
      ·exact aBf (aAf gL)
      ·cases hb
    ·obtain⟨q,hq,rfl⟩:=aAi.mp hb;exact aBf (aAf<|N0 hq)
   ·have one:∀i v,its.toArray[i]?=some v->∃b items,v=.ref b/\IsTup s'.heap b items/\IntsAre items.toList (flat<|xs.getD i .non):=λi v hi=>by
     rw[aBP]at hi;obtain⟨d,hd,w,jt,rp⟩:=A4 st hi;have ko:xs.getD i .non=d:=by rw[aAn,hd];rfl
     rw[ko];have hpt:=pt d (aAt hd);obtain⟨b,items,rfl,⟨o,g,c,n,dd⟩,hia⟩:=F6 hpt (J3 I rp (z6 hpt) jt);exact⟨b,items,rfl,⟨o,hh _ (nS (aAt hi) g),c,n,dd⟩,hia⟩
    obtain⟨b,items,rfl,t1,i1⟩:=one i vi hi;obtain⟨b',rh,rfl,t2,i2⟩:=one j vj hj;exact HT.lt_tupInts t1 t2 i1 i2 (by rw[t7];lia) hq
   ·have hP:its.toArray[argBest (KU xs) (its.toArray.size-1)]?=some v:=hP;rw[aBP,hlen]at hP;obtain⟨d,hd,w,jt,rp⟩:=A4 st hP;have ko:xs.getD (argBest (KU xs)<|xs.length-1) .non=d:=by rw[aAn,hd];rfl
    rw[ko]at q;have I2:=I.kept (h':=s'.heap) (t':=s'.toks) λb o e=>hm.heap b o (by simp only[aAZ];exact aAj (aAf e)) (aAc _ e);have es:s'={s with heap:=s'.heap,toks:=s'.toks}:=by have g1:=hm.gens;have g2:=hm.drawn;have g3:=hm.os;cases s';simp only at g1 g2 g3;subst g1 g2 g3;rfl
    rw[es];exact⟨w,_,I2,jt,q _ _ (Same.refl _) rp⟩
  ·rw[if_neg hp]at q;exact q.elim
def PJ (h:OT ds)(n:Nat)(hn:n<ds.length):argBest (KU ds) n=0:=by
 induction n with
 |zero=>rfl
 |succ k ih=>
  have e:=ih (by lia);unfold argBest;rw[e];have:KU ds (k+1) 0=false:=by
   unfold KU;rw[aAn,aAn,aAh hn,aAh (by lia:0<ds.length)];have:=aCe.mp h 0 (k+1) (by lia) hn (by lia);cases q:HT.lexLt (flat<|(some ds[k+1]).getD .non) (flat ((some (ds[0]'(by lia))).getD .non))with
   |false=>rfl
   |true=>have z:HT.lexLt (flat (ds[0]'(by lia))) (flat (ds[0]'(by lia)))=true:=TS.lex_trans _ _ _ this q;rw[TS.lex_irrefl]at z;cases z
  rw[this];rfl
end
end DL
namespace DL
open PySem PySem.Spec L2
open PyProof.Rows hiding St sub_tuple_tuple sub_list_list sub_tuple_list sub_list_tuple
section
open PySem.MeetsSeq PySem.MeetsSeq2 PySem.MeetsSeq3 PySem.AutoSeq1
def OB (l:Addr)(xs:Array Value)(n:Nat)(b:Addr)(ys:Array Value)(n2:Nat)(sl:Array (Option Value))(hc0:¬(!xs.isEmpty&&aCQ (xs.size+ys.size))=true)(ya:xs.size<=sizeLine)(zg:xs.size+ys.size<=sizeLine+1):
  Meets (Builtin.«list.extend» ⟨[.ref l,.ref b],[]⟩) (λ_ R s=>s.heap.get? l=some ⟨.type "list",none,.seq xs n,#[]⟩/\s.heap.get? b=some ⟨.type "list",none,.seq ys n2,sl⟩/\R (.ok (.ret Value.none)) {s with heap:=s.heap.update l (aBz λx=>x++ys),toks:=s.toks}):=
 .of_wp λprog w A R s q=>by
  obtain⟨hp,g,d,tk,os⟩:=s;obtain⟨q1,q2,q3⟩:=q;have g1:=idx_int;have g2:=sub_tuple_tuple;have g3:=sub_list_list;have g4:=sub_tuple_list;have g5:=sub_list_tuple;have z:(xs++ys).size<=sizeLine+1:=by rw[Array.size_append];exact zg
  wp_walk using(aBx q1 rfl (hz:=ya) (_hz':=z)),aDm q1,aDm q2
  exact⟨_,rfl,q3⟩
end
section
def lw (K:PySem.W.Frag):V->List V->Hp->VK->Prop:=λx vs H Q=>∃l b xs zs,x=.ref l/\vs=[.ref b]/\H l=some (.lst xs)/\L7 K H b zs/\xs.length+zs.length<=sizeLine/\Q .non (upd H l<|.lst (xs++zs))
def YB:wz X "list.extend" (lw X.K):=by
 intro pins s σ H x vs v us Q I rx rv h;obtain⟨l,b,xs,zs,rfl,rfl,hH,hB,hz,q⟩:=h;cases rx;obtain⟨u,rfl,ru⟩:=rv.one;cases ru;obtain⟨z,its,n,r,hl,e⟩:=I.af2 hH;obtain⟨lg,r2,⟨⟨cl2,qm,da2,qc⟩,n2,e2,c2,d2,s2⟩,z2⟩:=I.list hB;simp only at c2 d2 s2;subst c2 d2 s2;have og:=r2.length;have hsz:its.toArray.size+lg.toArray.size<=sizeLine:=by rw[aAm,aAm];lia
 have hlong:¬(!its.toArray.isEmpty&&aCQ (its.toArray.size+lg.toArray.size))=true:=by rw[LG hsz,aFS];exact aAT
 refine call_meets F.slot_list_extend ⟨_,e,rfl⟩ F.entry_list_extend (F.args_list_extend_2 _ _) (OB l its.toArray n b lg.toArray n2 qc hlong (by rw[aAm];lia) (by lia)) ⟨e,e2,?_⟩;refine⟨.non,_,I.af1 (its':=its++lg) hH e (by simp) (r.append r2) ?_,rfl,q⟩;rw[aAz]
 lia
end
variable [Tabs]
section
def mS (i:Nat)(he:PD X e f)(hN:X.N[i]?=some x:=by rfl)(hv:BI X.env.scope x:=by first|exact aCN rfl|exact aBS (aCN rfl)|exact aBS (aBS rfl))(hd:(x==("__debug__":Str))=false:=by decide)(eu:(x==("__classdict__":Str))=false:=by decide)(fb:attributeBase (.Name x p) "extend" X.env (eval (.Name x p) X.env)=eval (.Name x p) X.env:=by rfl)(vh:((backTo bh (starEach [e] X.env)).all (λx=>!x.1)&&(backToKw bh (keywordEach [] X.env)).all (λx=>x.1.isSome)
   &&decide ([e].length+([]:List Keyword).length+(if([]:List Keyword).isEmpty then 0 else 1)<30))=true:=by rfl) (cp:(apos.endLine==bh.line)=true:=by rfl) (hs:starEach [e] X.env=(false,eval e X.env)::starEach [] X.env:=by rfl) (ke:(backTo bh (starEach [] X.env)).any (·.1)=false:=by rfl) (vp:swapsWith (.Call (.Attribute (.Name x p) "extend" apos) [e] [] bh) none pos.line X.env=pure false:=by rfl):
  oG X (.Expr (.Call (.Attribute (.Name x p) "extend" apos) [e] [] bh) pos) (λρ=>(f ρ).bind (RB i ρ)):=λH9 O0=>
 BN (mL (VH PySem.F.plainAttrs_list PySem.F.slot_list_extend PySem.F.type_list_extend YB (Q7 hN hv hd eu) (f9 he q8 hs) fb vh cp hs ke) vp) λD σ H O ρ E fk q=>by
 cases e1:f ρ with
 |ok d=>
  rw[e1,R.aa0]at q;unfold RB at q;cases e2:ρ[i]? with
  |none=>rw[e2]at q;exact aAk q
  |some sl=>
   rw[e2]at q;cases sl with
   |x C=>exact aAk q
   |c m φ=>exact aAk q
   |d kvs=>exact aAk q
   |no=>exact aAk q
   |v d=>exact aAk q
   |o xs=>
    cases d with
    |lst ys=>
     dsimp only at q;split at q
     ·rename_i hz;obtain⟨a,vs,h1,h2,h3,h4,h5⟩:=E.own i xs e2;refine⟨_,h1,.inl ⟨rfl,vs,L7.of h4⟩,H9,O0,O,ρ,E,?_⟩;show IE X H O ((f ρ).bind λd=>(R.ok []).bind λds=>.ok (d::ds)) _;rw[e1];intro us H1 s1 r1;cases r1 with
      |cons r1 rn=>
       cases rn;have E1:=E.grow s1;cases r1 with
       |lst hb nb rb=>refine⟨a,_,vs,_,rfl,rfl,s1 _ _ h4,hb,by rw[h5.length,rb.length];exact hz,?_⟩;obtain⟨E2,k2⟩:=E1.write e2 h1 ((h5.same s1).append rb);exact q σ _ O E2 fk ((Kp.of s1).trans k2)
     ·exact aAk q
    |_=>exact aAk q
 |ex x=>
  rw[e1]at q;cases e2:ρ[i]? with
  |none=>exact(q H E.same).elim
  |some sl=>exact(q H E.same).elim
 |bad=>rw[e1]at q;exact aAk q
end
end DL
namespace TS
open PySem PyProof.Rows HT
section
def DY (A:Around)(s:Shared)(x y:Value)(b:Bool):Prop:=∀(prog:Program) (w:World) (E:A3) (Q:uX),Q b s->wpAny (model prog w) A (oneLt' false x y) Q E s
def lt_two {Q:uX}(hl:IsTup s.heap l #[p,r])(hb:IsTup s.heap b #[p',r'])(hf:f=false)(h1:SeqAt.EqAt A s p p' e1)(h2:e1=false->DY A s p p' b1)(h3:e1=true->SeqAt.EqAt A s r r' e2)(h4:e1=true->e2=false->DY A s r r' b2)(q:Q (bif e1 then(bif e2 then false else b2)else b1) s):wpAny (model prog w) A (keyLt' (tupK f) (.ref l) (.ref b)) Q E s:=by
 obtain⟨o,ho,hc,n,hd⟩:=hl;obtain⟨o2,jg,jc,n2,hd2⟩:=hb;subst hf;rw[rB];refine aAa (aEc ho hd<|aAa<|aEc jg hd2 ?_);show wpAny _ _ (forIn [((p,p'),0),((r,r'),1)] _ _>>=_) _ _ _;rw[aCR];refine aAa (aAa ?_);refine aAa (h1 _ _ _ _ ?_);cases e1 with
 |false=>refine aAa (h2 rfl _ _ _ _ ?_);exact aAb (aAb<|aAb q)
 |true=>
  refine aAb ?_;dsimp only;rw[aCR];refine aAa ?_;refine aAa (h3 rfl _ _ _ _ ?_);cases e2 with
  |false=>refine aAa (h4 rfl rfl _ _ _ _ ?_);exact aAb (aAb<|aAb q)
  |true=>refine aAb ?_;dsimp only;rw[aDV];exact aAb (aAb q)
def LN (h:∀(prog:Program) (w:World) (E:A3) (Q:A3),Q (.bool b) s->wpAny (model prog w) A (richCompare .Lt x y) Q E s):DY A s x y b:=λprog w E Q q=>by rw[oneLt'_eq];simp only[aAs,if_false];exact aAa (h prog w _ _<|aBF q)
def oneLt_tup (hl:IsTup s.heap l items)(hb:IsTup s.heap b ae)(hi:IntsAre items.toList ns)(hj:IntsAre ae.toList ms)(hu:A.units<cLine):DY A s (.ref l) (.ref b) (HT.lexLt ns ms):=
 LN λprog w E Q q=>HT.lt_tupInts hl hb hi hj hu q
end
end TS
namespace DL
open PySem PySem.Spec L2
open PyProof.Rows hiding St
def uH (k:D->List Int)(d:D):List D->List D
 |[]=>[d]
 |x::xs=>if HT.lexLt (k d) (k x)=true then d::x::xs else x::uH k d xs
def W6 (k:D->List Int)(ds:List D):List D:=ds.foldr (uH k) []
def lO (k:D->List Int)(ds:List D):Prop:=ds.Pairwise λx y=>HT.lexLt (k x) (k y)=true
theorem jO (k:D->List Int)(d:D):∀xs:List D,(uH k d xs).Perm (d::xs)
 |[]=>.refl _
 |x::xs=>by
  unfold uH;split
  ·exact .refl _
  ·exact((jO k d xs).cons x).trans (.swap d x xs)
theorem w6 (k:D->List Int):∀ds:List D,(W6 k ds).Perm ds
 |[]=>.refl _
 |d::ds=>(jO k d (W6 k ds)).trans ((w6 k ds).cons d)
theorem wP:∀{xs:List D},lO k xs->(∀x∈xs,k x≠k d)->lO k (uH k d xs)
 |[],_,_=>aDM _ _
 |x::xs,h,n=>by
  have h1:=aAy.mp h;unfold uH;split
  ·rename_i lt;refine aAy.mpr ⟨λy hy=>?_,h⟩;rcases aAd.mp hy with rfl|hy
   ·exact lt
   ·exact TS.lex_trans _ _ _ lt (h1.1 y hy)
  ·rename_i nlt;refine aAy.mpr ⟨λy hy=>?_,wP h1.2 λz hz=>n z (.tail _ hz)⟩;rcases aAd.mp ((jO k d xs).mem_iff.mp hy)with rfl|hy
   ·cases q:HT.lexLt (k x) (k y)with
    |true=>rfl
    |false=>exact absurd (TS.lex_total _ _ q (by simpa using nlt)) (n x<|.head _)
   ·exact h1.1 y hy
theorem M6:∀{ds:List D},(ds.map k).Nodup->lO k (W6 k ds)
 |[],_=>.nil
 |d::ds,h=>by rw[aAv,aAE]at h;refine wP (M6 h.2) λx hx e=>h.1 ?_;rw[<-e];exact aBj ((w6 k ds).mem_iff.mp hx)
theorem T1:∀{xs ys:List D},lO k xs->lO k ys->xs.Perm ys->xs=ys
 |[],ys,_,_,p=>(List.nil_perm.mp p).symm
 |x::xs,[],_,_,p=>by have:=p.length_eq;simp at this
 |x::xs,y::ys,h1,h2,p=>by
  have a1:=aAy.mp h1;have a2:=aAy.mp h2;have exy:x=y:=by
   rcases aAd.mp (p.mem_iff.mp<|.head _)with q|q
   ·exact q
   ·rcases aAd.mp (p.mem_iff.mpr<|.head _)with q2|q2
    ·exact q2.symm
    ·have:=TS.lex_trans _ _ _ (a2.1 x q) (a1.1 y q2);rw[TS.lex_irrefl]at this;cases this
  subst exy;rw[T1 a1.2 a2.2 ((List.perm_cons x).mp p)]
def tH [Tabs]{R:Value->D->Prop}{key:Value->List Int}{k:D->List Int}{us:List Value}{ds:List D}(st:Paired R us ds)(we:us.Pairwise λx y=>HT.lexLt (key y) (key x)=false)(nd:(ds.map k).Nodup)(hk:∀u d,R u d->d∈ds->key u=k d):lO k ds:=by
 induction st with
 |nil=>exact .nil
 |@cons u d us ds r t ih=>
  have n1:=aAE.mp nd;have s1:=aAy.mp we;refine aAy.mpr ⟨λe he=>?_,ih s1.2 n1.2 λu d h hd=>hk u d h (.tail _ hd)⟩;obtain⟨j,hj,rfl⟩:=aBs he;have uo:j<us.length:=by rw[t.length];exact hj
  obtain⟨d',ko,jh⟩:=A4 t (aAh uo);rw[aAh hj]at ko;cases ko;have l:=s1.1 us[j] (aBN uo);rw[hk _ _ jh (.tail _ (aBN hj)),hk u d r (.head _)]at l;cases z:HT.lexLt (k d) (k ds[j])with
  |true=>rfl
  |false=>exact absurd (aAi.mpr ⟨ds[j],aBN hj,(TS.lex_total _ _ z l).symm⟩) n1.1
def ZJ:D->Bool
 |.tup [p,.lst _]=>N7 p
 |_=>false
def Q5:D->List Int
 |.tup (p::_)=>flat p
 |_=>[]
def VX (h:ZJ d=true):∃p r,d=.tup [p,.lst r]/\N7 p=true/\Q5 d=flat p:=by
 unfold ZJ at h;split at h
 ·exact⟨_,_,rfl,h,rfl⟩
 ·cases h
def fw:D->R (List D)
 |.lst ds=>if ds.all ZJ=true/\(ds.map Q5).Nodup/\ds.length<=63 then .ok (W6 Q5 ds)else .bad
 |_=>.bad
variable [Tabs]
def FV (h:Heap)(u:Value)(l:List Int):Prop:=∃b p r d,u=.ref b/\IsTup h b #[p,r]/\N7 d=true/\HV h p d/\flat d=l
def FV.inj (x:FV h u l)(y:FV h u l'):l=l':=by obtain⟨b,p,r,d,rfl,⟨o,g,_,n,dd⟩,_,hv,rfl⟩:=x;obtain⟨b',p',r',d',e,⟨o',g',_,n',yr⟩,_,hv',rfl⟩:=y;cases e;rw[g]at g';cases g';rw[dd]at yr;injection yr with e1 _;have e2:=congrArg aFz e1;simp only[aEy]at e2;obtain⟨rfl,_⟩:=e2;rw[HV.inj hv hv']
def FX (h:Heap) (u:Value):List Int:=open Classical in if p:∃l,FV h u l then p.choose else[]
def iG (x:FV h u l):FX h u=l:=by unfold FX;rw[dif_pos ⟨l,x⟩];exact FV.inj (Exists.choose_spec (⟨l,x⟩:∃l,FV h u l)) x
section
def NO (I:Inv X pins σ H s)(r:Rep X.K H O v d)(h:ZJ d=true)(ru:RelV v u):FV s.heap u (Q5 d):=by
 obtain⟨p,ring,rfl,hp,hk⟩:=VX h;cases r with
 |tup q rr=>
  cases ru;obtain⟨its,rv,ht,_⟩:=I.tuple q;cases rr with
  |cons r1 rr=>
   cases rr with
   |cons r2 rr=>
    cases rr;cases rv with
    |cons v1 rv=>
     cases rv with
     |cons v2 rv=>cases rv;exact⟨_,_,_,p,rfl,ht,hp,J3 I r1 (z6 hp) v1,hk.symm⟩
end
section
def BA (ha:PB X e f)(hh:X.calm=true)(hu:X.A.units+300<cLine)(hg:Gl X "sorted":=by rfl)(hm:X.mg "sorted"=none:=by assumption)(hv:bootBuiltins "sorted"=some (.builtin "sorted"):=by decide+kernel)(he:starEach [e] X.env=(false,eval e X.env)::starEach [] X.env:=by rfl)(bf:(backTo pos (starEach [] X.env)).any (·.1)=false:=by rfl):
  PF X (.Call (.Name "sorted" p) [e] [] pos) (λρ=>(f ρ).bind fw):=by
 refine uJ λpins s σ H Q I H9 O0 O ρ E q=>?_;dsimp only at q;refine aAM (K9 I hg hm hv ?_ (by decide) (by decide));have ku:PA X [e] _:=J1 ha X1 he;refine aBq (D8 (ku pos pins s σ H (λvs H1=>∃v ds,vs=[v]/\f ρ=.ok (.lst ds)/\Same H H1/\A5 X.K H1 O v (.lst ds)) I ⟨H9,O0,O,ρ,E,?_⟩) λus s1 ⟨vs,H1,I1,r1,v,ds,ev,ef,sm,rb⟩=>?_) he bf
 ·cases e1:f ρ with
  |ex z=>rw[e1]at q;exact q
  |bad=>rw[e1]at q;exact q.elim
  |ok d=>
   rw[e1,R.aa0]at q;cases d with
   |lst ds=>exactλv H1 s1 r1=>⟨v,ds,rfl,rfl,s1,r1⟩
   |_=>exact aAk q
 ·subst ev;rw[ef,R.aa0]at q;obtain⟨a,ws,rfl,hS,rr⟩:=rb.aa5;obtain⟨u,rfl,ru⟩:=vals1 r1;cases ru;obtain⟨its,rv,⟨oL,nL,gL,cL,dL,sL⟩,zL⟩:=I1.list hS;have hl:s1.heap.IsList a its.toArray:=⟨oL,gL,cL,nL,sL⟩;simp only[fw]at q;by_cases hc:ds.all ZJ=true/\(ds.map Q5).Nodup/\ds.length<=63
  ·rw[if_pos hc]at q;obtain⟨kg,nd,nh⟩:=hc;have fc:∀d∈ds,ZJ d=true:=aAW.mp kg;have st:t6 X.K H1 O its ds:=t6.of rv rr;have hlen:its.length=ds.length:=st.length;have each:∀u∈its,∃i d,its[i]?=some u/\ds[i]?=some d/\FV s1.heap u (Q5 d):=λu hu=>by obtain⟨i,hi,rfl⟩:=aBs hu;obtain⟨d,hd,w,jt,rp⟩:=A4 st (aAh hi);exact⟨i,d,aAh hi,hd,NO I1 rp (fc d<|aAt hd) jt⟩
   have keq:∀u∈its,∀u'∈its,FX s1.heap u=FX s1.heap u'->u=u':=λu hu u' av e=>by
    obtain⟨i,d,hi,hd,fv⟩:=each u hu;obtain⟨j,d',hj,ko,fv'⟩:=each u' av;rw[iG fv,iG fv']at e;have eij:i=j:=by obtain⟨li,ei⟩:=aAC.mp hd;obtain⟨lj,ej⟩:=aAC.mp ko;refine(List.getElem_inj (xs:=ds.map Q5) (i:=i) (j:=j) (h₀:=by simpa using li) (h₁:=by simpa using lj) nd).mp ?_;rw[aEh,aEh,ei,ej];exact e
    subst eij;rw[hi]at hj;cases hj;rfl
   refine TS.sorted_keys (vs:=its) (f:=false) (key:=FX s1.heap) (C:=λs'=>∃h',s'={s1 with heap:=h'}/\∀b o,s1.heap.get? b=some o->h'.get? b=some o)
    (λ{Q'} hq=>collect_list hl (hq _ ⟨_,rfl,λb o e=>?_⟩) (by rw[hlen];exact aAo nh (by decide)))
    (λs' ⟨h',es',k⟩ s6 k6 x hx y hy prog w A E hA {Q} qq=>?_) (λh2 s' ⟨h',es',k⟩ s6 k6 A {Q} qq=>?_) (by rw[hlen];lia) λs' dh h' l ⟨h1,es',k⟩ pm we k2 hl ⟨n,gl⟩=>?_
   ·exact(aAr _ _<|aBQ<|aAj<|aAf e).trans (aAc _ e)
   ·subst es';have kk:∀b o,s1.heap.get? b=some o->s6.heap.get? b=some o:=λb o e=>k6 b o (k b o e);obtain⟨i,d,hi,hd,fv⟩:=each x hx;obtain⟨j,d',hj,ko,fv'⟩:=each y hy;have kx:=iG fv;have ky:=iG fv';have eqk:=keq x hx y hy;rw[kx,ky]at qq;rw[kx,ky]at eqk;obtain⟨b,p1,r1,d1,rfl,⟨o,g,c,n,dd⟩,hp1,hv1,e1⟩:=fv;obtain⟨b',p2,r2,d2,rfl,⟨o',g',c',n',yr⟩,hp2,zb,e2⟩:=fv';have zh:HV s6.heap p1 d1:=hv1.keeps λb o e _=>kk b o e;have hv2':HV s6.heap p2 d2:=zb.keeps λb o e _=>kk b o e;have hA':A.units+8<cLine:=by lia
    obtain⟨c1,i1,rfl,t1,ia1⟩:=F6 hp1 zh;obtain⟨c2,i2,rfl,t2,ia2⟩:=F6 hp2 hv2';rw[<-e1,<-e2]at qq eqk;refine TS.lt_two (e1:=u6 d1 d2) (e2:=true) (b1:=HT.lexLt (flat d1) (flat d2)) (b2:=false) ⟨o,kk _ _ g,c,n,dd⟩ ⟨o',kk _ _ g',c',n',yr⟩ rfl (rD zh hv2' (by have:=mG hp1;lia)) (λ_=>TS.oneLt_tup t1 t2 ia1 ia2 (by lia)) (λeq=>?_) (λ_ z=>by cases z) ?_
    ·have ed:=bH (z6 hp1) (z6 hp2) eq;have er:=eqk (by rw[ed]);cases er;rw[g]at g';cases g';rw[dd]at yr;injection yr with e3 _;have e4:=congrArg aFz e3;simp only[aEy]at e4;rw[e4.2.1];exact aDL _
    ·cases z:u6 d1 d2 with
     |false=>exact qq
     |true=>have ed:=bH (z6 hp1) (z6 hp2) z;rw[ed,TS.lex_irrefl]at qq;exact qq
   ·subst es';have kk:∀b o,s1.heap.get? b=some o->s6.heap.get? b=some o:=λb o e=>k6 b o (k b o e);have sg:∀x∈its,∃p,∃b items,x=.ref b/\IsTup s6.heap b items/\items[0]?=some p/\s6.TypeIs p "tuple":=λx hx=>by obtain⟨i,d,hi,hd,fv⟩:=each x hx;obtain⟨b,p1,r1,d1,rfl,⟨o,g,c,n,dd⟩,hp1,hv1,e1⟩:=fv;have zh:HV s6.heap p1 d1:=hv1.keeps λb o e _=>kk b o e;obtain⟨c1,i1,rfl,⟨o1,g1,cc1,_⟩,ia1⟩:=F6 hp1 zh;exact⟨_,b,_,rfl,⟨o,kk _ _ g,c,n,dd⟩,rfl,⟨o1,g1,cc1⟩⟩
    obtain⟨gf,hgf⟩:∃gf:Value->Value,∀x∈its,∃b items,x=.ref b/\IsTup s6.heap b items/\items[0]?=some (gf x)/\s6.TypeIs (gf x) "tuple":=by refine⟨λx=>open Classical in if z:x∈its then(sg x z).choose else .none,λx hx=>?_⟩;dsimp only;rw[dif_pos hx];exact(sg x hx).choose_spec
    exact TS.kind_tuples (T:= "tuple") gf hgf (λz=>by rw[z]at h2;simp at h2) (by decide) qq
   ·subst es';obtain⟨jo,p2,iu⟩:=O7 pm st;have hk:∀u d,(∃v,RelV v u/\Rep X.K H1 O v d)->d∈ds->FX s1.heap u=Q5 d:=λu d ⟨v,rv,rp⟩ hd=>iG (NO I1 rp (fc d hd) rv);have pf:(jo.map Q5).Nodup:=(p2.map Q5).nodup_iff.mpr nd;have ni:lO Q5 jo:=tH (R:=λu d=>∃v,RelV v u/\Rep X.K H1 O v d) iu we pf λu d h hd=>hk u d h (p2.mem_iff.mp hd);have e2:jo=W6 Q5 ds:=T1 ni (M6 nd) (p2.trans (w6 Q5 ds).symm);subst e2;obtain⟨wv,jt,jh⟩:=t6.ab8 iu;have I2':=I1.kept (h':=h1) (t':=s1.toks) k;have I3:=I2'.laid (a:=l) (o:=.lst wv) (h':=h') (t':=s1.toks) k2 hl ⟨by rw[jh.length,(w6 Q5 ds).length_eq];exact aAo nh (by decide),dh,n,jt,gl⟩;exact⟨.ref l,_,I3,rfl,q wv _ l sm (I2'.hok.fresh hl) jh⟩
  ·rw[if_neg hc]at q;exact q.elim
end
end DL
namespace DL
open PySem PySem.Spec L2
open PyProof.Rows hiding St
def kK:List Int->Int
 |[]=>0
 |a::l=>l.foldl max a
theorem R9:∀(l:List Int) (a:Int),(l.foldl max a=a\/l.foldl max a∈l)/\a<=l.foldl max a/\∀b∈l,b<=l.foldl max a
 |[],a=>⟨.inl rfl,aCn _,λb h=>by cases h⟩
 |c::l,a=>by
  obtain⟨h1,h2,h3⟩:=R9 l (max a c);rw[aEu];refine⟨?_,by lia,λb hb=>?_⟩
  ·rcases h1 with h1|h1
   ·rw[h1];rcases Int.le_total a c with q|q
    ·exact .inr (by rw[Int.max_eq_right q];exact .head _)
    ·exact .inl (Int.max_eq_left q)
   ·exact .inr (.tail _ h1)
  ·rcases aAd.mp hb with rfl|hb
   ·lia
   ·exact h3 b hb
def gQ (h:ns≠[]):kK ns∈ns:=by
 cases ns with
 |nil=>exact absurd rfl h
 |cons a l=>
  rcases(R9 l a).1 with q|q
  ·show l.foldl max a∈_;rw[q];exact .head _
  ·exact .tail _ q
def mH (h:a∈ns):a<=kK ns:=by
 cases ns with
 |nil=>cases h
 |cons b l=>
  rcases aAd.mp h with rfl|h
  ·exact(R9 l a).2.1
  ·exact(R9 l b).2.2 a h
def DB:List D->R D
 |[.lst xs]=>match nD xs with
  |some ns=>if ns≠[]then .ok (.int (kK ns))else .bad
  |none=>.bad
 |_=>.bad
variable [Tabs]
section
def KC (hi:IntsAre its ns)(e:its.toArray=intItems ys):∀i,numAt ys i=ns.getD i 0:=λi=>by have h1:=nums_intItems ys;rw[<-e]at h1;have h2:=hi.numsOf;rw[show its.toArray.toList=its from rfl,h2]at h1;rw[h1];unfold numAt;rw[aAn,aAG,<-aAA]
def QK (hc:X.calm=true):Z5 X (.builtin "max") DB:=by
 intro H O vs ds Q fr r q;match ds,q with
 |[.lst xs],q=>
  obtain⟨v,rfl,z⟩:=CK r;obtain⟨p,ws,rfl,h1,h2⟩:=z.aa5;simp only[DB]at q;cases e:nD xs with
  |none=>rw[e]at q;exact q.elim
  |some ns=>
   rw[e]at q;dsimp only at q;by_cases ah:ns≠[]
   ·rw[if_pos ah]at q;rw[sD e]at h2;rw[sF h2]at h1;refine⟨λvs H' Q'=>vs=[.ref p]/\H'=H/\Q'=Q,λpins s σ H' xs' us Q' I rv ⟨e1,e2,e3⟩=>?_,rfl,rfl,rfl⟩;subst e1 e2 e3;obtain⟨u,rfl,ru⟩:=vals1 rv;cases ru;obtain⟨its,r',pl,hz⟩:=I.list h1;have hi:=DL.aD r';obtain⟨ys,ey⟩:=hi.allInts.items;have hl:=pl.isList;rw[ey]at hl;have hlen:ys.size=ns.length:=by have:=congrArg Array.size ey;rw[aAm,hi.length]at this;simpa[intItems]using this.symm
    have qr:0<ns.length:=aDD.mpr ah;refine max_intList (I.ok.hd hc) hl (by lia) λv h' tk hv hk=>?_;obtain⟨t,rfl⟩:=intItems_at hv;obtain⟨g1,g2⟩:=argBest_gt (numAt ys) (ys.size-1);have em:numAt ys (argBest (λi j=>decide (numAt ys i>numAt ys j))<|ys.size-1)=kK ns:=by
     generalize argBest (λi j=>decide (numAt ys i>numAt ys j)) (ys.size-1)=b at g1 g2;have m1:numAt ys b∈ns:=by rw[KC hi ey,aAn,aAh (by lia)];exact aBN _
     have m2:=mH m1;obtain⟨j,hj,ej⟩:=aBs (gQ ah);have m3:=g2 j (by lia);rw[KC hi ey j,aAn,aAh hj]at m3;have m4:ns[j]<=numAt ys b:=m3
     lia
    rw[em];exact⟨.int (kK ns),_,I.kept hk,⟨t,rfl⟩,q _ _ (Same.refl _) .int⟩
   ·rw[if_neg ah]at q;exact q.elim
def NC (K:PySem.W.Frag)(mg:cP)(x:Str)(ns:List Int):Prop:=∃a dd its n sl,mg x=some (.ref a)/\K.lookup a=some ⟨.type "tuple",dd,.seq its n,sl⟩/\m6 (ns.map V.int) its.toList/\its.size<=sizeLine
omit [Tabs]in
def WH {K:PySem.W.Frag}{mg:cP}{x:Str}{a:Addr}{dd:Option Addr}{n:Nat}{sl:Array (Option Value)}{i j k:Int}{t u v:Tok}(hm:mg x=some (.ref a))(hk:K.lookup a=some ⟨.type "tuple",dd,.seq #[.int i t,.int j u,.int k v] n,sl⟩):NC K mg x [i,j,k]:=
 ⟨a,dd,_,n,sl,hm,hk,.cons ⟨t,rfl⟩ (.cons ⟨u,rfl⟩ (.cons ⟨v,rfl⟩ .nil)),show 3<=sizeLine by decide⟩
def sV (c:NC X.K X.mg x ns)(hg:Gl X x:=by rfl)(il:(x==("__debug__":Str))=false:=by decide):PD X (.Name x pos) (US (.tup (ns.map D.int))):=by obtain⟨a,dd,its,n,sl,hm,hk,hi,hz⟩:=c;exact GJ hm hk hi hz hg il
end
end DL
namespace DL
open PySem PySem.Spec L2
open PyProof.Rows hiding St
theorem bQ {α β:Type}[BEq α][LawfulBEq α]:∀{l:List (α×β)} {a:α} {b:β},(l.map (·.1)).Nodup->(a,b)∈l->l.lookup a=some b
 |(x,y)::l,a,b,h,hm=>by
  rw[aAv,aAE]at h;rw[aAY];rcases aAd.mp hm with e|jr
  ·cases e;simp
  ·have:(a==x)=false:=by rw[beq_eq_false_iff_ne];rintro rfl;exact h.1 (aAi.mpr ⟨(a,b),jr,rfl⟩)
   rw[this];exact bQ h.2 jr
theorem mem_lookup {α β:Type}[BEq α][LawfulBEq α]:∀{l:List (α×β)} {a:α} {b:β},l.lookup a=some b->(a,b)∈l
 |(x,y)::l,a,b,h=>by
  rw[aAY]at h;split at h
  ·rename_i q;cases h;rw[eq_of_beq q];exact .head _
  ·exact .tail _ (mem_lookup h)
def sI (o:Obj):Prop:=∃v,o.data=.cell v
def cZ (H:Hp)(cs:L8):Hp:=λb=>match cs.lookup b with
 |some o=>some (.frz o (.own b))
 |none=>H b
def P6 (H:Hp)(cs:L8):Hp:=λb=>match cs.lookup b with
 |some _=>none
 |none=>H b
section
variable{K:PySem.W.Frag}
def dF (e:cs.lookup b=some o):cZ H cs b=some (.frz o (.own b)):=by unfold cZ;rw[e]
def O6 (e:cs.lookup b=none):cZ H cs b=H b:=by unfold cZ;rw[e]
def bJ (e:cs.lookup b=some o):P6 H cs b=none:=by unfold P6;rw[e]
def L3 (e:cs.lookup b=none):P6 H cs b=H b:=by unfold P6;rw[e]
def D2 (hn:∀b o,cs.lookup b=some o->H b=none)(e:H b=some u):cZ H cs b=some u:=by
 cases q:cs.lookup b with
 |none=>rw[O6 q];exact e
 |some o=>rw[hn b o q]at e;cases e
def eJ (hn:∀b o,cs.lookup b=some o->H b=none):Same H (cZ H cs):=λb u e=>D2 hn e
def w4 (hn:∀b o,cs.lookup b=some o->H b=some (.frz o (.own b)))(e:H b=some u)(ne:∀o,cs.lookup b=some o->u≠.frz o (.own b)):P6 H cs b=some u:=by
 cases q:cs.lookup b with
 |none=>rw[L3 q];exact e
 |some o=>rw[hn b o q]at e;cases e;exact absurd rfl (ne o q)
def JI (x:fC P w H h)(hc:∀b o,cs.lookup b=some o->h.get? b=some o/\H b=none):fC P w (cZ H cs) h:=λb u e=>by
 have hn:∀b o,cs.lookup b=some o->H b=none:=λb o q=>(hc b o q).2;cases q:cs.lookup b with
 |some o=>rw[dF q]at e;cases e;exact⟨(hc b o q).1,⟨o,(hc b o q).1⟩⟩
 |none=>rw[O6 q]at e;exact(x b u e).ab7 (λ_ _ _ z=>z) (λc z=>D2 hn z) λc u _ z=>D2 hn z
def OE (x:fC P w H h)(hc:∀b o,cs.lookup b=some o->H b=some (.frz o (.own b))/\sI o):fC P w (P6 H cs) h:=λb u e=>by
 have hn:∀b o,cs.lookup b=some o->H b=some (.frz o (.own b)):=λb o q=>(hc b o q).1;cases q:cs.lookup b with
 |some o=>rw[bJ q]at e;cases e
 |none=>rw[L3 q]at e;refine(x b u e).ab7 (λ_ _ _ z=>z) (λc z=>w4 hn z λo _ z'=>by cases z') λc u f z=>w4 hn z λo q z'=>?_;subst z';obtain⟨vs,e1⟩:=f;obtain⟨v,e2⟩:=(hc c o q).2;rw[e1]at e2;cases e2
def ZF (U:Un fs [] (cZ H cs) H2 h h')(k:fC P w H2 h')(hc:∀b o,cs.lookup b=some o->h.get? b=some o/\H b=none/\sI o):Un fs [] H (P6 H2 cs) h h'/\fC P w (P6 H2 cs) h'/\∀b o,cs.lookup b=some o->H2 b=some (.frz o (.own b)):=by
 have hn:∀b o,cs.lookup b=some o->H b=none:=λb o q=>(hc b o q).2.1;have h2:∀b o,cs.lookup b=some o->H2 b=some (.frz o (.own b)):=λb o q=>U.frzs b o _ (dF q);refine⟨⟨λb o e n hb hx=>?_,λb o e n hb hx=>?_,λb o e n hx=>?_,λb o e hx=>U.there b o e hx,λb xs e=>?_,λb o u e=>?_,λb tb e=>?_⟩,OE k λb o q=>⟨h2 b o q,(hc b o q).2.2⟩,h2⟩
 ·cases q:cs.lookup b with
  |none=>exact U.keep b o e (by rw[O6 q];exact n) hb hx
  |some o'=>have:=(hc b o' q).1;rw[e]at this;cases this;exact(k b _<|h2 b o q).1
 ·cases q:cs.lookup b with
  |none=>exact U.slot b o e (by rw[O6 q];exact n) hb hx
  |some o'=>have:=(hc b o' q).1;rw[e]at this;cases this;exact⟨o.slots,(k b _<|h2 b o q).1⟩
 ·cases q:cs.lookup b with
  |none=>rw[L3 q];exact U.free b o e (by rw[O6 q];exact n) hx
  |some o'=>exact bJ q
 ·exact w4 h2 (U.tups b xs<|D2 hn e) λo _ z=>by cases z
 ·refine w4 h2 (U.frzs b o u<|D2 hn e) λo' q z=>?_;rw[hn b o' q]at e;cases e
 ·exact w4 h2 (U.tbls b tb<|D2 hn e) λo _ z=>by cases z
def XC (U:Un fs [] (P6 H cs) H2 h h')(k:fC P w H2 h')(hc:∀b o,cs.lookup b=some o->h.get? b=some o/\H b=some (.frz o (.own b))/\b∉fs):Un fs [] H (cZ H2 cs) h h'/\fC P w (cZ H2 cs) h'/\Same H2 (cZ H2 cs):=by
 have hn:∀b o,cs.lookup b=some o->H b=some (.frz o (.own b)):=λb o q=>(hc b o q).2.1;have h2:∀b o,cs.lookup b=some o->H2 b=none:=λb o q=>U.free b o (hc b o q).1 (bJ q) (by simp);have h3:∀b o,cs.lookup b=some o->h'.get? b=some o:=λb o q=>U.keep b o (hc b o q).1 (bJ q) (hc b o q).2.2 (by simp);have out:∀b,H b=none->cs.lookup b=none:=λb n=>by
  cases q:cs.lookup b with
  |none=>rfl
  |some o=>rw[hn b o q]at n;cases n
 refine⟨⟨λb o e n hb hx=>U.keep b o e (by rw[L3 (out b n)];exact n) hb hx,λb o e n hb hx=>U.slot b o e (by rw[L3 (out b n)];exact n) hb hx,λb o e n hx=>?_,λb o e hx=>U.there b o e hx,λb xs e=>?_,λb o u e=>?_,λb tb e=>?_⟩,
  JI k λb o q=>⟨h3 b o q,h2 b o q⟩,eJ h2⟩
 ·rw[O6 (out b n)];exact U.free b o e (by rw[L3 (out b n)];exact n) hx
 ·exact D2 h2 (U.tups b xs (w4 hn e λo _ z=>by cases z))
 ·cases q:cs.lookup b with
  |none=>exact D2 h2 (U.frzs b o u (by rw[L3 q];exact e))
  |some o'=>rw[hn b o' q]at e;cases e;exact dF q
 ·exact D2 h2 (U.tbls b tb (w4 hn e λo _ z=>by cases z))
def DP (hn:∀b o,cs.lookup b=some o->H b=some (.frz o (.own b)))(q:T2 K H a xs):T2 K (P6 H cs) a xs:=by
 rcases q with(q|⟨o,q⟩)|q
 ·exact .inl (.inl (w4 hn q λo _ z=>by cases z))
 ·exact .inl (.inr ⟨o,w4 hn q λo _ z=>by cases z⟩)
 ·exact .inr q
def DH (hn:∀b o,cs.lookup b=some o->H b=some (.frz o (.own b)))(q:L7 K H a xs):L7 K (P6 H cs) a xs:=by
 rcases q with(q|⟨o,q⟩)|q
 ·exact .inl (.inl (w4 hn q λo _ z=>by cases z))
 ·exact .inl (.inr ⟨o,w4 hn q λo _ z=>by cases z⟩)
 ·exact .inr q
def EX {cs:L8}{φ:Heap->Prop}(hn:∀b o,cs.lookup b=some o->H b=some (.frz o (.own b)))(q:H b=some (.ext φ)):P6 H cs b=some (.ext φ):=by
 unfold P6;cases e:cs.lookup b with
 |none=>simpa[e]using q
 |some o=>have:=hn b o e;rw[q]at this;cases this
def Rep.hid (hn:∀b o,cs.lookup b=some o->H b=some (.frz o (.own b)))(r:Rep K H O v d):Rep K (P6 H cs) O v d:=r.mono (λ_ _ q=>DP hn q) (λ_ _ n q=>⟨n,DH hn q⟩) λb φ n q=>⟨n,EX hn q⟩
def Reps.hid (hn:∀b o,cs.lookup b=some o->H b=some (.frz o (.own b)))(r:Reps K H O v d):Reps K (P6 H cs) O v d:=r.mono (λ_ _ q=>DP hn q) (λ_ _ n q=>⟨n,DH hn q⟩) λb φ n q=>⟨n,EX hn q⟩
end
variable [Tabs]
section
variable(P:Program) (w:World) (K:PySem.W.Frag) (mg:cP) (base:Heap) (k:Nat)
def IR (n:Nat)(m:List D->R D)(H:Hp)(O:Addr->Prop)(a:Addr):Prop:=
 (∃oc od fd sl,H a=some (.frz ⟨oc,od,.func fd,sl⟩ (.own a)))/\
 ∀(A:Around) (outer:List Env) (s:Shared) (us:List Value) (vs:List V) (ds:List D) (d:D) (Q:VK) (E:XK),Room k A->Env0 P w K mg base A outer s H->m6 vs us->Reps K H O vs ds->ds.length=n->(∀a,O a->∃o,H a=some o/\Mt o)->Tb H->bY K O->m ds=.ok d->
  (∀v H',Same H H'->Rep K H' O v d->Q v H')->codeAny (model P w) A (.call (.ref a) ⟨us,[]⟩) (CR tR outer P w H s Q E) s
end
open Classical in
def callC (Φ:(List D->R D)->Hp->(Addr->Prop)->Addr->Prop) (i:Nat) (f:Ev->R (List D)):Ev->R D:=λρ=>match ρ[i]? with
 |some (.c m φ)=>if φ=Φ m then(f ρ).bind m else .bad
 |_=>.bad
section
def JN (i:Nat)(ha:IN X (e::es) f)(hl:ID f n)(hr:Room k X.A)(hN:X.N[i]?=some x:=by rfl)(hv:BI X.env.scope x:=by first|exact aCN rfl|exact aBS (aCN rfl)|exact aBS (aBS rfl))(hd:(x==("__debug__":Str))=false:=by decide)(eu:(x==("__classdict__":Str))=false:=by decide)(he:starEach (e::es) X.env=(false,eval e X.env)::starEach es X.env:=by rfl)(bf:(backTo pos (starEach es X.env)).any (·.1)=false:=by rfl):
  PD X (.Call (.Name x p) (e::es) [] pos) (callC (IR X.prog X.w X.K X.mg X.base k n) i f):=by
 refine uJ λpins s σ H Q I H9 O0 O ρ E q=>?_;unfold callC at q;cases e1:ρ[i]? with
 |none=>rw[e1]at q;exact q.elim
 |some sl=>
  rw[e1]at q;cases sl with
  |c m φ=>
   dsimp only at q;split at q
   ·rename_i hφ;subst hφ;obtain⟨a,h1,h2⟩:=E.slot i _ e1;obtain⟨⟨oc,od,fd,sl,hf⟩,_⟩:=h2 H O (Kp.refl _ _);refine aAM (D8 (Q7 hN hv hd eu pins s σ H (λv H'=>v=.ref a/\H'=H) I ⟨_,h1,rfl,rfl⟩) λu s1 ⟨v,H1,I1,r1,ev,eH⟩=>?_);subst ev eH;obtain rfl:u=aDv a:=r1;refine PySem.W.callWith_F ⟨oc,od,fd,sl,(I1.hok a _ hf).1⟩ (D8 (ha pos pins s1 σ H1 _ I1 ⟨H9,O0,O,ρ,E,IE.seq q⟩) λus s2 ⟨vs,H2,I2,rv,ds,e2,sm,rr,qq⟩=>⟨⟨oc,od,fd,sl,(I2.hok a _<|sm _ _ hf).1⟩,?_⟩) he bf;cases e3:m ds with
    |ex z=>rw[e3]at qq;exact(qq H2<|Same.refl _).elim
    |bad=>rw[e3]at qq;exact qq.elim
    |ok d=>
     rw[e3]at qq;have E2:=E.grow sm;refine wpAny_call (aDF ((h2 H2 O<|Kp.of sm).2 X.A X.stack s2 us vs ds d Q (λ_ _ _=>False) hr I2.af6 rv rr (hl ρ ds e2) E2.trk E2.tab (oD I2 O E2.trk) e3 qq) λr s' hq=>?_);cases r with
     |error e=>exact hq.elim
     |ok fl=>
      cases fl with
      |ret u=>exact I2.after hq
      |next=>exact aAk hq
      |brk=>exact aAk hq
      |cont=>exact aAk hq
   ·exact q.elim
  |_=>exact q.elim
end
def oj (K:PySem.W.Frag)(Φ:(List D->R D)->Hp->(Addr->Prop)->Addr->Prop)(M:D->(List D->R D)->(List D->R D)->R D):Sp:=λvs H Q _=>∃O v1 d1 a1 m1 a2 m2 d,vs=[v1,.ref a1,.ref a2]/\Rep K H O v1 d1/\(∀H2 O2,Kp H O H2 O2->Φ m1 H2 O2 a1)/\(∀H2 O2,Kp H O H2 O2->Φ m2 H2 O2 a2)/\
 (∀a,O a->∃o,H a=some o/\Mt o)/\Tb H/\bY K O/\M d1 m1 m2=.ok d/\∀v H',Same H H'->Rep K H' O v d->Q v H'
def jN (N:List Str)(Φ:(List D->R D)->Hp->(Addr->Prop)->Addr->Prop)(d1:D)(m1 m2:List D->R D):Ev:=.v d1::.c m1 (Φ m1)::.c m2 (Φ m2)::aCH (N.length-3) Sl.no
def BC {K:PySem.W.Frag}{H:Hp}{O:Addr->Prop}{N:List Str}{v1:V}{d1:D}{a1 a2:Addr}{m1 m2:List D->R D}{Φ:(List D->R D)->Hp->(Addr->Prop)->Addr->Prop}(r:Rep K H O v1 d1)(c1:∀H2 O2,Kp H O H2 O2->Φ m1 H2 O2 a1)(c2:∀H2 O2,Kp H O H2 O2->Φ m2 H2 O2 a2)
  (t:∀a,O a->∃o,H a=some o/\Mt o) (tb:Tb H):EnvOk K H O H O (start N [v1,.ref a1,.ref a2]) (jN N Φ d1 m1 m2)where
 len:=by simp[L2.start,jN]
 same:=Same.refl H
 sub:=λ_ h=>h
 trk:=t
 trk0:=λa h=>let⟨o,q,_⟩:=t a h;⟨o,q⟩
 tab:=tb
 slot:=λi sl h=>by
  match i with
  |0=>cases h;exact⟨v1,rfl,r⟩
  |1=>cases h;exact⟨a1,rfl,c1⟩
  |2=>cases h;exact⟨a2,rfl,c2⟩
  |i+3=>
   have h':(aCH (N.length-3) Sl.no)[i]?=some sl:=h;rw[aBr]at h';split at h'
   ·cases h';trivial
   ·cases h'
 inj:=λi j x y a h _ o=>by
  match i with
  |0=>cases h;exact o.elim
  |1=>cases h;exact o.elim
  |2=>cases h;exact o.elim
  |i+3=>
   have h':(aCH (N.length-3) Sl.no)[i]?=some x:=h;rw[aBr]at h';split at h'
   ·cases h';exact o.elim
   ·cases h'
section
variable{K:PySem.W.Frag}
def fnF {x qual:Str}{st:Stmt}{f:Addr}{fd:FuncData}{N ps:List Str}{k:Nat}{M:D->(List D->R D)->(List D->R D)->R D}{Φ:(List D->R D)->Hp->(Addr->Prop)->Addr->Prop}{F:Ev->R Out}(F0:Fun K x qual st f fd)(S:FnScope N ps (c8 st))(h3:ps.length=3)
  (hb:∀(cdv:Value) (A:Around) (outer:List Env) (s:Shared) (H:Hp) (E:XK),Room k (A.deeper (envOfC qual (c8 st) s.heap.objs.size f cdv))->aZ (TX P w K mg base N qual (c8 st) f cdv A outer s H E) (t9 st) F)
  (hm:∀d1 m1 m2 d,M d1 m1 m2=.ok d->K7 (F (jN N Φ d1 m1 m2))=.ok d):FnOk P w K mg base tR (k+1) f fd ps (oj K Φ M):=by
 refine F0.ok S (λvs H Q E z=>by obtain⟨O,v1,d1,a1,m1,a2,m2,d,e,_⟩:=z;rw[e,h3];rfl) (λcdv A outer s H vs Q E hr z=>?_);obtain⟨O,v1,d1,a1,m1,a2,m2,d,e0,r,c1,c2,ht,tb,fk,e,q⟩:=z;subst e0;refine⟨_,hb cdv A outer s H E hr H O,O,_,BC r c1 c2 ht tb,fk,?_⟩;have h:=hm d1 m1 m2 d e;cases e1:F (jN N Φ d1 m1 m2)with
 |ok o=>
  rw[e1]at h;cases o with
  |rt d'=>have h':R.ok d'=R.ok d:=h;injection h' with h';subst h';exact q
  |nx ρ=>have h':R.ok D.non=R.ok d:=h;injection h' with h';subst h';exactλai H' O' E' _ _=>q .non H' E'.same .non
  |bk ρ=>cases h
  |ct ρ=>cases h
 |ex x=>rw[e1]at h;cases h
 |bad=>rw[e1]at h;cases h
end
structure NScope (ps ls fn:List Str)(sc:Scope):Prop where
 kind:sc.kind=.function
 co:sc.isCoroutine=false
 gen:sc.isGenerator=false
 nd:(ps++(ls++fn)).Nodup
 par:∀x∈ps,sc.names.lookup x=some .local
 fre:∀x∈fn,sc.names.lookup x=some .free
 all:∀x,sc.names.lookup x=some .free->x∈fn
 nocell:∀y∈sc.names,y.2≠.cell
abbrev bj (P:Program)(w:World)(K:PySem.W.Frag)(mg:cP)(base:Heap)(N:List Str)(env:Env)(A:Around)(outer:List Env)(s:Shared)(H:Hp):Cx where
 prog:=P
 w:=w
 K:=K
 mg:=mg
 base:=base
 A:=A.deeper env
 N:=N
 sa:=s
 H9:=H
 env:=env
 outer:=outer
 stack:=env::outer
 ex:=[]
 calm:=true
 fn:=λ_=>false
 pn:=[]
 xe:=λ_ _=>False
def L0 {α:Type}(vs:List α)(n:Nat)(no:α)(ws:List α):List α:=vs++(aCH n no++ws)
def fS {α:Type}{vs ws:List α}{n i:Nat}{no a:α}(h:(L0 vs n no ws)[i]?=some a):vs[i]?=some a\/a=no\/(vs.length+n<=i/\ws[i-(vs.length+n)]?=some a):=by
 unfold L0 at h;by_cases h1:i<vs.length
 ·rw[aAR h1]at h;exact .inl h
 ·rw[aAx (by lia)]at h;by_cases h2:i-vs.length<n
  ·rw[aAR (by simpa using h2),aBr,if_pos h2]at h;exact .inr (.inl (Option.some.inj h).symm)
  ·rw[aAx (by simpa using h2),aCh]at h;exact .inr (.inr ⟨by lia,by rw[show i-(vs.length+n)=i-vs.length-n by lia];exact h⟩)
def JM {α:Type}{vs ws:List α}{n i:Nat}{no a:α}(h:vs[i]?=some a):(L0 vs n no ws)[i]?=some a:=by unfold L0;rw[aAR (aAC.mp h).1];exact h
def LR {α:Type}{vs ws:List α}{n i:Nat}{no a:α}(h:ws[i]?=some a):(L0 vs n no ws)[vs.length+n+i]?=some a:=by unfold L0;rw[aAx (by lia),aAx (by simp;lia),aCh,show vs.length+n+i-vs.length-n=i by lia];exact h
section
variable{K:PySem.W.Frag}
def BD {A:Around}{outer:List Env}{s:Shared}{H:Hp}{us:List Value}{vs wv:List V}{h₁:Heap}{tk:Nat}(S:NScope ps ls fn scope)(hd:A.handled=none)(e0:Env0 P w K mg base A outer s H)(hl:vs.length=ps.length)(r:m6 vs us)(qe:wv.length=fn.length)
  (xr:∀(i:Nat) (x:Str) (v:V),fn[i]?=some x->wv[i]?=some v->∃c u,clos.lookup x=some c/\RelV v u/\s.heap.IsCell c (some u)) (hcc:∀x c,clos.lookup x=some c->(∃v,s.heap.IsCell c v)/\H c=none)
  (lh:∀x y c,clos.lookup x=some c->clos.lookup y=some c->x=y) (yh:h₁.Ns s.heap.objs.size (λx=>(ps.zip us).reverse.lookup x)) (hk:∀b o,s.heap.get? b=some o->h₁.get? b=some o):
  Inv (bj P w K mg base (ps++(ls++fn)) (PySem.W.envX qual scope s.heap.objs.size fa cd clos) A outer s H) [] (L0 (vs.map some) ls.length none (wv.map some)) H {s with heap:=h₁,toks:=tk}:=by
 have noA:∀b:Addr,b∉(bj P w K mg base (ps++(ls++fn)) (PySem.W.envX qual scope s.heap.objs.size fa cd clos) A outer s H).ex:=λb z=>absurd (show b∈([]:List Addr)from z) (by simp);have nd1:ps.Nodup:=(aCS.mp S.nd).1;refine⟨⟨e0.mod,S.kind,rfl,rfl,aAg _,lh,λy hy=>?_,λy c hf _=>(by cases hf),λ_=>hd,aFK e0.frames,.inr ⟨rfl,rfl⟩,λb z=>absurd z (noA b),e0.bs,e0.bsz,λb _ _=>noA b,λb z=>absurd z (noA b),e0.funs,e0.frf⟩,
  rfl,e0.bare,Un.kept hk,⟨_,yh,λi y v h1 h2 h3=>?_⟩,λy c h=>?_,e0.hok.fresh (aAg _),λy c h=>(hcc y c h).2,λp hp=>absurd (show p∈([]:L8)from hp) (by simp),e0.hok.kept hk,?_⟩
 ·have hy:scope.names.lookup y=some .cell\/scope.names.lookup y=some .free:=hy;rcases hy with hy|hy
  ·exact absurd rfl (S.nocell _<|PySem.mem_of_lookup hy)
  ·have hm:=S.all y hy;obtain⟨i,hi,e⟩:=aBs hm;have hw:i<wv.length:=by rw[qe];exact hi
   obtain⟨c,u,q,_⟩:=xr i y wv[i] (by rw[aAh hi,e]) (aAh hw);exact⟨c,q⟩
 ·have hN:(ps++(ls++fn))[i]?=some y:=h1;rcases fS h2 with h2|h2|⟨h4,h2⟩
  ·rw[aAG]at h2;cases e:vs[i]? with
   |none=>rw[e]at h2;cases h2
   |some a=>
    rw[e]at h2;have ea:a=v:=Option.some.inj (Option.some.inj h2);subst ea;obtain⟨u,hu,rv⟩:=r.get e;have hi:i<ps.length:=by rw[<-hl];exact(aAC.mp e).1
    rw[aAR hi]at hN;refine⟨u,rv,.inl ⟨S.par y (aAt hN),?_⟩⟩;refine bQ ?_ ?_
    ·rw[aFu];refine(List.reverse_perm _).nodup_iff.mpr ?_;rw[List.map_fst_zip (by rw[<-hl,r.length];exact aAg _)];exact nd1
    ·rw[aDa];exact aAt (i:=i) (by rw[aBA];exact⟨hN,hu⟩)
  ·cases h2
  ·rw[aAl]at h4 h2;rw[aAG]at h2;cases e:wv[i-(vs.length+ls.length)]? with
   |none=>rw[e]at h2;cases h2
   |some a=>rw[e]at h2;have ea:a=v:=Option.some.inj (Option.some.inj h2);subst ea;rw[aAx (by lia),aAx (by lia),<-hl,show i-vs.length-ls.length=i-(vs.length+ls.length)by lia]at hN;obtain⟨c,u,q1,q2,q3⟩:=xr _ y a hN e;exact⟨u,q2,.inr ⟨.inr (S.fre y<|aAt hN),c,q1,q3.keeps hk⟩⟩
 ·obtain⟨⟨v,z⟩,_⟩:=hcc y c h;exact⟨v,z.keeps hk⟩
 ·unfold L0;simp[hl,qe]
def AI {H:Hp}{O:Addr->Prop}{vs wv:List V}{ds wd:List D}{n:Nat}(r:Reps K H O vs ds)(r2:Reps K H O wv wd)(t:∀a,O a->∃o,H a=some o/\Mt o)(tb:Tb H):
  EnvOk K H O H O (L0 (vs.map some) n none (wv.map some)) (L0 (ds.map Sl.v) n .no (wd.map Sl.v))where
 len:=by unfold L0;simp[r.length,r2.length]
 same:=Same.refl H
 sub:=λ_ h=>h
 trk:=t
 trk0:=λa h=>let⟨o,q,_⟩:=t a h;⟨o,q⟩
 tab:=tb
 slot:=λi sl h=>by
  rcases fS h with h|h|⟨h1,h⟩
  ·rw[aAG]at h;cases e:ds[i]? with
   |none=>rw[e]at h;cases h
   |some d=>rw[e]at h;have h':Sl.v d=sl:=Option.some.inj h;subst h';obtain⟨v,e1,e2⟩:=r.get e;exact⟨v,JM (by rw[aAG,e1];rfl),e2⟩
  ·subst h;trivial
  ·rw[aAG,aAl]at h;rw[aAl]at h1;cases e:wd[i-(ds.length+n)]? with
   |none=>rw[e]at h;cases h
   |some d=>rw[e]at h;have h':Sl.v d=sl:=Option.some.inj h;subst h';obtain⟨v,e1,e2⟩:=r2.get e;refine⟨v,?_,e2⟩;have:=LR (vs:=vs.map some) (n:=n) (no:=(none:Option V)) (ws:=wv.map some) (i:=i-(ds.length+n)) (a:=some v) (by rw[aAG,e1];rfl);rw[aAl,r.length,show ds.length+n+(i-(ds.length+n))=i by lia]at this;exact this
 inj:=λi j x y a h _ o=>by
  rcases fS h with h|h|⟨_,h⟩
  ·obtain⟨d,_,rfl⟩:=aAi.mp (aAt h);exact o.elim
  ·subst h;exact o.elim
  ·obtain⟨d,_,rfl⟩:=aAi.mp (aAt h);exact o.elim
def WZ {name:Str}{params:Arguments}{body:List Stmt}{doc pm ctv:Value}{c':Addr}{oc:Obj}{k:Nat}{m:List D->R D}{F:Ev->R Out}{H:Hp}{O:Addr->Prop}{cs:L8}{wv:List V}{wd:List D}(S:NScope ps ls fn scope)
  (hb:∀(A:Around) (outer:List Env) (s:Shared) (H:Hp),Room k (A.deeper (PySem.W.envX qual scope s.heap.objs.size fa (.ref c') clos))->aZ (bj P w K mg base (ps++(ls++fn)) (PySem.W.envX qual scope s.heap.objs.size fa (.ref c') clos) A outer s H) body F)
  (hm:∀ds d,ds.length=ps.length->m ds=.ok d->K7 (F (L0 (ds.map Sl.v) ls.length .no (wd.map Sl.v)))=.ok d)
  (wu:∀(s:Shared) (us:List Value),us.length=ps.length->BindsTo s (PySem.W.fnX name qual params body scope clos .none .none doc pm none (.ref c') ctv) ⟨us,[]⟩ (ps.zip us))
  (hfa:H fa=some (.frz (PySem.W.fnMade name qual params body scope clos doc pm c' ctv) (.own fa))) (hc:H c'=some (.frz oc (.own c'))) (cg:∃vs t,oc.data=.fields vs/\vs[1]?=some (.str qual t))
  (vg:∀b o,cs.lookup b=some o->H b=some (.frz o (.own b))/\sI o) (xr:∀(i:Nat) (x:Str) (v:V),fn[i]?=some x->wv[i]?=some v->∃c u o,clos.lookup x=some c/\cs.lookup c=some o/\o.data=.cell (some u)/\RelV v u)
  (hcc:∀x c,clos.lookup x=some c->∃o,cs.lookup c=some o) (lh:∀x y c,clos.lookup x=some c->clos.lookup y=some c->x=y) (qe:wv.length=fn.length) (hr:Reps K H O wv wd) (hO:∀a,O a->∃o,H a=some o/\Mt o):
  ∀H2 O2,Kp H O H2 O2->IR P w K mg base (k+1) ps.length m H2 O2 fa:=by
 intro H2 O2 kp;have fz:∀b o u,H b=some (.frz o u)->H2 b=some (.frz o u):=λb o u e=>(kp b _ e λz=>by obtain⟨o',q,mt⟩:=hO b z;rw[e]at q;cases q;exact mt).1;have zl:∀b o,cs.lookup b=some o->H2 b=some (.frz o (.own b)):=λb o q=>fz _ _ _ (vg b o q).1;refine⟨⟨_,_,_,_,fz _ _ _ hfa⟩,λA outer s us vs ds d Q E ou e0 rv rr hl ht tb fk em q=>?_⟩;have KX:K.In s.heap:=e0.mod.kin.keeps λb o e=>(e0.bs b o e).1;have lim:s.heap.NoLimit:=e0.mod.nolimit.keeps λb o e=>(e0.bs b o e).1;have gfa:=(e0.hok fa _<|fz _ _ _ hfa).1;have goc:=(e0.hok c' _<|fz _ _ _ hc).1;obtain⟨ovs,ot,od1,od2⟩:=cg;have hidn:∀b,H2 b=none->P6 H2 cs b=none:=λb n=>by
  cases z:cs.lookup b with
  |none=>rw[L3 z];exact n
  |some o=>exact bJ z
 have e1:Env0 P w K mg base A outer s (P6 H2 cs):=⟨e0.frames,e0.mod,λb o e=>⟨(e0.bs b o e).1,hidn b (e0.bs b o e).2⟩,e0.bsz,e0.funs,λb hb=>hidn b (e0.frf b hb),OE e0.hok λb o z=>⟨zl b o z,(vg b o z).2⟩,e0.bare⟩;have zo:∀b o,cs.lookup b=some o->s.heap.get? b=some o:=λb o z=>(e0.hok b _<|zl b o z).1;have cfs:∀b o,cs.lookup b=some o->b∉xG outer:=λb o z hb=>by have:=e0.frf b hb;rw[zl b o z]at this;cases this
 have hul:us.length=ps.length:=by rw[<-rv.length,rr.length];exact hl
 have hvl:vs.length=ps.length:=by rw[rr.length];exact hl
 have rwv:Reps K (P6 H2 cs) O2 wv wd:=(kp.ab8 hO fk hr).hid zl;have tb1:Tb (P6 H2 cs):=λp hp=>w4 zl (tb p hp) λo _ z=>by cases z
 have ht1:∀a,O2 a->∃o,P6 H2 cs a=some o/\Mt o:=λa z=>by obtain⟨o,q1,q2⟩:=ht a z;exact⟨o,w4 zl q1 λo' _ z'=>by subst z';exact q2,q2⟩
 let Q':VK:=λv H3=>(∀b o,cs.lookup b=some o->H3 b=none)->Q v (cZ H3 cs)
 have qq:∀v H',Same (P6 H2 cs) H'->Rep K H' O2 v d->Q' v H':=λv H' sm r hn=>by
  refine q v _ (λb u e=>?_) (r.same<|eJ hn);cases z:cs.lookup b with
  |none=>exact D2 hn (sm b u (by rw[L3 z];exact e))
  |some o=>rw[zl b o z]at e;cases e;exact dF z
 have fin:∀{u:Value} {s':Shared},CE outer P w (P6 H2 cs) s Q' u s'->CE outer P w H2 s Q u s':=λ{u s'} ⟨v,H3,os,bare,un,hok,r,qv⟩=>by obtain⟨U2,k2,ym⟩:=XC un hok λb o z=>⟨zo b o z,zl b o z,cfs b o z⟩;exact⟨v,_,os,bare,U2,k2,r,qv λb o z=>un.free b o (zo b o z) (bJ z) (by simp)⟩
 refine codeAny_call_def (fd:=PySem.W.fnX name qual params body scope clos .none .none doc pm none (.ref c') ctv) (body:=body) (binds:=ps.zip us) ou.depth gfa rfl lim ⟨c',oc,ovs,ot,rfl,goc,od1,od2⟩ rfl (wu s us hul) S.nocell (λy hy=>S.par y.1 (aDK hy).1) (λh₁ yh hk=>?_) S.co S.gen S.kind;show wpAny (model P w) (A.deeper<|PySem.W.envX qual scope s.heap.objs.size fa (.ref c') clos) (execs body<|PySem.W.envX qual scope s.heap.objs.size fa (.ref c') clos) _ _ _;have I:=BD (qual:=qual) (fa:=fa) (cd:=.ref c') (clos:=clos) (tk:=s.toks+(ps.zip us).length) S ou.hd e1 hvl rv qe (λi x v h1 h2=>by
   obtain⟨c,u,o,q1,q2,q3,q4⟩:=xr i x v h1 h2;exact⟨c,u,q1,q4,o,zo c o q2,q3⟩) (λx c h=>by
   obtain⟨o,z⟩:=hcc x c h;obtain⟨v,z2⟩:=(vg c o z).2;exact⟨⟨v,o,zo c o z,z2⟩,bJ z⟩) lh yh hk
 have hx:=hb A outer s (P6 H2 cs) (ou.deeper _) (P6 H2 cs) O2 [] _ _ _ {nx:=λ_ H'=>Q' .non H',rt:=Q'} I ⟨O2,_,AI (rr.hid zl) rwv ht1 tb1,fk,?_⟩
 ·refine aCb hx (λfl s' hs=>?_) λe s' hs=>hs.elim;have fin2:∀{ai:St} {H':Hp} {v:V} {u:Value},Inv (bj P w K mg base (ps++(ls++fn)) (PySem.W.envX qual scope s.heap.objs.size fa (.ref c') clos) A outer s<|P6 H2 cs) [] ai H' s'->RelV v u->Q' v H'->CE outer P w H2 s Q u s':=
   λ{ai H' v u} J rv q=>fin ⟨v,H',J.os,J.bare,J.base,J.hok,rv,q⟩
  cases fl with
  |ret u=>obtain⟨v,ai,H',J,rv,q⟩:=hs;exact fin2 J rv q
  |next=>obtain⟨ai,H',J,q⟩:=hs;exact fin2 (v:=V.non) (u:=Value.none) J rfl q
  |brk=>obtain⟨_,_,_,q⟩:=hs;exact aAk q
  |cont=>obtain⟨_,_,_,q⟩:=hs;exact aAk q
 ·have h:=hm ds d hl em;cases e1:F (L0 (ds.map Sl.v) ls.length .no (wd.map Sl.v))with
  |ok o=>
   rw[e1]at h;cases o with
   |rt d'=>have h':R.ok d'=R.ok d:=h;injection h' with h';subst h';exact qq
   |nx ρ=>have h':R.ok D.non=R.ok d:=h;injection h' with h';subst h';exactλai H' O' E' _ _=>qq .non H' E'.same .non
   |bk ρ=>cases h
   |ct ρ=>cases h
  |ex x=>rw[e1]at h;cases h
  |bad=>rw[e1]at h;cases h
end
def gW (mg:cP)(base:Heap):Prop:=∃bm ob,mg "__builtins__"=some (.ref bm)/\bm≠builtinsNs/\base.get? bm=some ob/\ob.cls=.type "module"/\ob.dict=some builtinsNs/\ob.data=.plain
def qM:∀(l:List Value),TriplesOk l->codeAmong pos l=some x->codeAmong pos (l++[rawInt a,rawInt b,c])=some x:=λl h e=>by
 fun_induction TriplesOk l with
 |case1=>simp[codeAmong]at e
 |case2 a' t b' u y rest ih=>
  simp only[aBl,codeAmong]at e⊢;split at e
  ·rename_i hc;rw[if_pos hc];exact e
  ·rename_i hc;rw[if_neg hc];exact ih h e
 |case3 l h1 h2=>exact h.elim
def LH (ne:¬(a=pos.line/\b=pos.col)):∀(l:List Value),TriplesOk l->codeAmong pos l=none->codeAmong pos (l++[rawInt a,rawInt b,c])=none:=λl h e=>by
 fun_induction TriplesOk l with
 |case1=>simp only[aEz,rawInt,codeAmong];rw[if_neg];simp only[aAI,beq_iff_eq];exact ne
 |case2 a' t b' u y rest ih=>
  simp only[aBl,codeAmong]at e⊢;split at e
  ·cases e
  ·rename_i hc;rw[if_neg hc];exact ih h e
 |case3 l h1 h2=>exact h.elim
def fQ (H:Hp)(fa:Addr)(name qual:Str)(params:Arguments)(body:List Stmt)(scope:Scope)(clos:List (Str×Addr)):Prop:=
 ∃c' oc doc pm ctv,H fa=some (.frz (PySem.W.fnMade name qual params body scope clos doc pm c' ctv) (.own fa))/\H c'=some (.frz oc (.own c'))/\∃vs t,oc.data=.fields vs/\vs[1]?=some (.str qual t)
def fQ.same (h:fQ H fa name qual params body scope clos)(s:Same H H'):fQ H' fa name qual params body scope clos:=
 let⟨c',oc,doc,pm,ctv,h1,h2,h3⟩:=h;⟨c',oc,doc,pm,ctv,s _ _ h1,s _ _ h2,h3⟩
section
def xN {Q:Flow->Shared->Prop}(I:Inv X pins σ H s)(hB:gW X.mg X.base)(km:X.env.code=.ref c)(hK:PySem.W.codeHdIn X.K c Pt=true)(hT:H Pt=some (.tbl tb))(hq:qualnameIn X.env name name=qual)(hm:(pos,qual)∈tb)(hu:∀p∈tb,p.1.line=pos.line->p.1.col=pos.col->p.2=qual)(xr:closureFor scope X.env=pure clos)(hd0:params.defaults=[])(hk0:params.kw_defaults=[])(ha:annTrees params none X.env=[])(hN:X.N.Nodup)(hi:X.N[i]?=some name)(hx:Loc X.env.scope name)(hf:X.fn name=true\/X.env.scope.names.lookup name=some .local)(h:∀fa H' s',Inv X pins (σ.set i (some (.ref fa))) H' s'->Same H H'->fQ H' fa name qual params body scope clos->Q .next s'):wpAny (model X.prog X.w) X.A (exec (.FunctionDef name params body [] none [] scope none name pos) X.env) Q X.xe s:=by
 refine PySem.W.nestDef_K hd0 hk0 ha ?_;rw[hq];have hg:s.heap.Ns mainGlobals X.mg:=I.mod.glob.keeps I.bk;have C:PySem.W.CodeHd s.heap c Pt:=PySem.W.codeHd_of_K I.kIn hK;obtain⟨ps,hP,hTr,hTb⟩:=I.hok Pt _ hT;have hgP:mainGlobals≠Pt:=λq=>by obtain⟨o,es,ep,e,hd,_⟩:=hg;rw[q,hP]at e;cases e;cases hd
 have hb:s.heap.BuiltinsAt X.mg Pt:=by
  obtain⟨bm,ob,b1,b2,b3,b4,b5,b6⟩:=hB;have b3':=I.bk _ _ b3;refine⟨bm,ob,b1,b2,λq=>?_,λq=>?_,b3',b4,b5,b6⟩
  ·obtain⟨o,es,ep,e,hd,_⟩:=hg;rw[<-q,b3']at e;cases e;rw[hd]at b6;cases b6
  ·rw[q,hP]at b3';cases b3';cases b4
 have neP:∀b,H b=none->b≠Pt:=λb n z=>by rw[z,hT]at n;cases n
 have neL:X.env.locals≠Pt:=neP _ I.free;rcases hTb _ hm with hnf|⟨c',oc,vs,t,hf',xh,eu⟩
 ·refine PySem.W.makeFunction_K (mg:=X.mg) xr I.ok.glob hg km C hP hTr hnf hgP hb λc' ctv doc h' tk hx' hge ao hrec htb=>?_;obtain⟨c2,oc,vs,t,e2,cg,hd,hv⟩:=hrec;cases e2;have old:∀b u,H b=some u->b<s.heap.objs.size:=λb u e=>I.hok.lt e;have hcN:H c'=none:=I.hok.fresh hge;have hfN:H h'.objs.size=none:=I.hok.fresh (aAo hge<|aDl ao);have ncf:c'≠h'.objs.size:=aAj ao;have sm:Same H (upd (upd H c'<|.frz oc (.own c')) h'.objs.size<|.frz (PySem.W.fnMade name qual params body scope clos doc ((X.mg "__name__").getD .none) c' ctv) (.own h'.objs.size)):=λb u e=>by rw[k8 (t4 e hfN),k8 (t4 e hcN)];exact e
  have ph:∀b o,b≠Pt->s.heap.get? b=some o->(h'.push<|PySem.W.fnMade name qual params body scope clos doc ((X.mg "__name__").getD .none) c' ctv).get? b=some o:=λb o hb e=>aAc _ (hx' b o hb e);have lts:∀b o,s.heap.get? b=some o->b≠c'/\b≠h'.objs.size:=λb o e=>⟨aAj (aAq (aAf e) hge),aAj (aAq (aAf e)<|aAo hge<|aDl ao)⟩;have I1:=I.step (H':=upd (upd H c'<|.frz oc (.own c')) h'.objs.size (.frz (PySem.W.fnMade name qual params body scope clos doc ((X.mg "__name__").getD .none) c' ctv) (.own h'.objs.size)))
   (h':=h'.push (PySem.W.fnMade name qual params body scope clos doc ((X.mg "__name__").getD .none) c' ctv)) (g':=s.gens) (t':=tk) (d':=s.drawn) (ch:=[]) (λ_ z=>nomatch z) (λb o _ _ _ e n=>ph b o (neP b n) e) (λb o _ _ _ e n=>⟨o.slots,ph b o (neP b n) e⟩)
   (λb o _ e n=>by rw[k8 (lts b o e).2,k8 (lts b o e).1];exact n) (λb o _ e=>by
    by_cases hb:b=Pt
    ·subst hb;exact⟨_,aAc _ htb⟩
    ·exact⟨o,ph b o hb e⟩) (λb xs e=>sm _ _ e) (λb o u e=>sm _ _ e) (λb tb e=>sm _ _ e) (λm' hm'=>by
    obtain⟨o,es,ep,e,r⟩:=hm';exact⟨o,es,ep,ph _ o neL e,r⟩) (λb u e=>by
    by_cases xv:b=h'.objs.size
    ·subst xv;rw[j4]at e;cases e;exact⟨aAp _ rfl,_,aAp _ rfl⟩
    ·rw[k8 xv]at e;by_cases hbc:b=c'
     ·subst hbc;rw[j4]at e;cases e;exact⟨aAc _ cg,_,aAc _ cg⟩
     ·rw[k8 hbc]at e;by_cases hbP:b=Pt
      ·subst hbP;rw[hT]at e;cases e;refine⟨_,aAc _ htb,?_,λp hp=>?_⟩
       ·rw[aFZ];exact TriplesOk_snoc _ _ _ _ hTr
       ·rw[aFZ];show codeAmong p.1 (ps.toList++[rawInt pos.line,rawInt pos.col,.ref c'])=none\/_;by_cases hpp:(pos.line:Int)=p.1.line/\(pos.col:Int)=p.1.col
        ·rcases hTb p hp with h0|⟨c3,oc3,vs3,t3,h0,h1,h2⟩
         ·have e1:pos.line=p.1.line:=by exact_mod_cast hpp.1
          have e2:pos.col=p.1.col:=by exact_mod_cast hpp.2
          refine .inr ⟨c',oc,vs,t,?_,by rw[k8 ncf,j4],hd,?_⟩
          ·rw[e1,e2];exact codeAmong_snoc _ hTr h0
          ·rw[hu p hp e1.symm e2.symm];exact hv
         ·exact .inr ⟨c3,oc3,vs3,t3,qM _ hTr h0,sm _ _ h1,h2⟩
        ·rcases hTb p hp with h0|⟨c3,oc3,vs3,t3,h0,h1,h2⟩
         ·exact .inl (LH hpp _ hTr h0)
         ·exact .inr ⟨c3,oc3,vs3,t3,qM _ hTr h0,sm _ _ h1,h2⟩
      ·refine(I.hok b u e).ab7 (λb2 v hc q=>ph b2 v (λz=>?_) q) (λb2 z=>sm _ _ z) λb2 u _ z=>sm _ _ z;rcases hc with hc|hc
       ·exact hbP (hc▸z)
       ·rw[z,hT]at hc;cases hc) I.bare
  refine P4 I1 hN hi hx (show RelV (.ref h'.objs.size) _ from rfl) (λs' I'=>h _ _ s' I' sm ⟨c',oc,doc,_,ctv,j4,by rw[k8 ncf,j4],vs,t,hd,hv⟩) hf
 ·refine PySem.W.makeFunction_hit (mg:=X.mg) xr I.ok.glob hg km C hP hTr hf' hb λctv doc h' tk hk hsz=>?_;have hfN:H h'.objs.size=none:=I.hok.fresh hsz;have I1:=I.laid (a:=h'.objs.size) (o:=.frz (PySem.W.fnMade name qual params body scope clos doc ((X.mg "__name__").getD .none) c' ctv) (.own h'.objs.size)) (h':=h'.push (PySem.W.fnMade name qual params body scope clos doc ((X.mg "__name__").getD .none) c' ctv)) (t':=tk)
   (λb u e=>aAc _ (hk b u e)) hsz ⟨aAp _ rfl,_,aAp _ rfl⟩
  refine P4 I1 hN hi hx (show RelV (.ref h'.objs.size) _ from rfl) (λs' I'=>h _ _ s' I' (j7 hfN _) ⟨c',oc,doc,_,ctv,j4,j7 hfN _ _ _ xh,vs,t,eu⟩) hf
end
structure Nst where
 name:Str
 qual:Str
 params:Arguments
 body:List Stmt
 scope:Scope
 pos:Pos
 ps:List Str
 ls:List Str
 fn:List Str
 js:List Nat
 F:Ev->R Out
 mm:List D->List D->R D
 i:Nat
abbrev Nst.stmt (n:Nst):Stmt:=.FunctionDef n.name n.params n.body [] none [] n.scope none n.name n.pos
structure NstOk (X:Cx)(k:Nat)(n:Nst):Prop where
 sc:NScope n.ps n.ls n.fn n.scope
 one:n.ps.length=1
 body:∀(fa:Addr) (cd:Value) (clos:List (Str×Addr)) (A:Around) (outer:List Env) (s:Shared) (H:Hp),Room k (A.deeper (PySem.W.envX n.qual n.scope s.heap.objs.size fa cd clos))->aZ (bj X.prog X.w X.K X.mg X.base (n.ps++(n.ls++n.fn)) (PySem.W.envX n.qual n.scope s.heap.objs.size fa cd clos) A outer s H) n.body n.F
 mm:∀wd ds d,wd.length=n.fn.length->ds.length=n.ps.length->n.mm wd ds=.ok d->K7 (n.F (L0 (ds.map Sl.v) n.ls.length .no (wd.map Sl.v)))=.ok d
 bind:∀(clos:List (Str×Addr)) (doc pm cd ctv:Value) (us:List Value),us.length=n.ps.length->bindArgs (PySem.W.fnX n.name n.qual n.params n.body n.scope clos .none .none doc pm none cd ctv) ⟨us,[]⟩=pure (n.ps.zip us)
 len:n.js.length=n.fn.length
 at_:∀(i j:Nat) (x:Str),n.js[i]?=some j->n.fn[i]?=some x->X.N[j]?=some x/\X.env.scope.names.lookup x=some .cell
 d0:n.params.defaults=[]
 k0:n.params.kw_defaults=[]
 nm:X.N[n.i]?=some n.name
 lc:Loc X.env.scope n.name
 st:X.fn n.name=true\/X.env.scope.names.lookup n.name=some .local
 dbg:(n.name==("__debug__":Str))=false
 cdt:(n.name==("__classdict__":Str))=false
structure ClosOk (X:Cx)(n:Nst)(clos:List (Str×Addr)):Prop where
 eq:closureFor n.scope X.env=pure clos
 ann:annTrees n.params none X.env=[]
 qn:qualnameIn X.env n.name n.name=n.qual
 sub:∀x c,clos.lookup x=some c->X.env.cells.lookup x=some c
 has:∀x∈n.fn,∃c,clos.lookup x=some c
def bZ:List Nat->Ev->R (List D)
 |[],_=>.ok []
 |j::js,ρ=>(W9 j ρ).bind λd=>(bZ js ρ).bind λds=>.ok (d::ds)
theorem LF {K:PySem.W.Frag}{H9 H:Hp}{O0 O:Addr->Prop}{σ:St}{ρ:Ev}(E:EnvOk K H9 O0 H O σ ρ):∀{js:List Nat} {wd:List D},bZ js ρ=.ok wd->∃wv,Reps K H O wv wd/\wv.length=js.length/\∀(i j:Nat) (v:V),js[i]?=some j->wv[i]?=some v->σ[j]?=some (some v)
 |[],wd,h=>by cases h;exact⟨[],.nil,rfl,λi j v e=>by simp at e⟩
 |j::js,wd,h=>by
  unfold bZ at h;cases e1:W9 j ρ with
  |ok d=>
   rw[e1,R.aa0]at h;cases e2:bZ js ρ with
   |ok ds=>
    rw[e2,R.aa0]at h;cases h;obtain⟨wv,r,hl,at_⟩:=LF E e2;have:ρ[j]?=some (.v d):=by
     unfold W9 at e1;split at e1
     ·rename_i q;cases e1;exact q
     ·cases e1
    obtain⟨v,h1,h2⟩:=E.val j d this;refine⟨v::wv,.cons h2 r,by simp[hl],λi j' v' q1 q2=>?_⟩;cases i with
    |zero=>simp at q1 q2;subst q1 q2;exact h1
    |succ i=>exact at_ i j' v' (by simpa using q1) (by simpa using q2)
   |ex z=>rw[e2]at h;cases h
   |bad=>rw[e2]at h;cases h
  |ex z=>rw[e1]at h;cases h
  |bad=>rw[e1]at h;cases h
section
def R6 (h:Heap)(cl:List (Str×Addr)):List (Addr×Obj):=cl.filterMap λp=>(h.get? p.2).map λo=>(p.2,o)
def K4 (e:(R6 h cl).lookup b=some o):h.get? b=some o/\∃x,(x,b)∈cl:=by
 obtain⟨p,hp,q⟩:=aBR.mp (mem_lookup e);cases z:h.get? p.2 with
 |none=>rw[z]at q;cases q
 |some o'=>rw[z]at q;have q':(p.2,o')=(b,o):=Option.some.inj q;injection q' with q1 q2;subst q1 q2;exact⟨z,p.1,hp⟩
def lG (hm:(x,b)∈cl)(e:h.get? b=some o):∃o',(R6 h cl).lookup b=some o':=by
 have:(b,o)∈R6 h cl:=aBR.mpr ⟨(x,b),hm,by show(h.get? b).map _=_;rw[e];rfl⟩;cases q:(R6 h cl).lookup b with
 |some o'=>exact⟨o',rfl⟩
 |none=>have:=List.lookup_eq_none_iff.mp q (b,o) this;simp at this
def ij (X:Cx)(n1 n2:Nst)(clos1 clos2:List (Str×Addr))(f:Ev->R D)(M:D->(List D->R D)->(List D->R D)->R D):TE:=λσ H Q=>∃H9 O0 O ρ yb fa2,EnvOk X.K H9 O0 H O σ ρ/\σ[n1.i]?=some (some<|V.ref yb)/\σ[n2.i]?=some (some<|V.ref fa2)/\
 fQ H yb n1.name n1.qual n1.params n1.body n1.scope clos1/\fQ H fa2 n2.name n2.qual n2.params n2.body n2.scope clos2/\RC X H O ((f ρ).bind λd1=>(bZ n1.js ρ).bind λw1=>(bZ n2.js ρ).bind λw2=>M d1 (n1.mm w1) (n2.mm w2)) Q
def xF {n:Nst}{clos clA:List (Str×Addr)}{k:Nat}{pins:L8}{σ:St}{H:Hp}{s:Shared}{H9:Hp}{O0 O:Addr->Prop}{ρ:Ev}{fa:Addr}{wd:List D}(ok:NstOk X k n)(hc:ClosOk X n clos)(I:Inv X pins σ H s)(E:EnvOk X.K H9 O0 H O σ ρ)
  (hA:∀p∈clos,p∈clA) (hAc:∀x b,(x,b)∈clA->X.env.cells.lookup x=some b) (made:fQ H fa n.name n.qual n.params n.body n.scope clos) (hw:bZ n.js ρ=.ok wd):
  ∀H2 O2,Kp (cZ H (R6 s.heap clA)) O H2 O2->IR X.prog X.w X.K X.mg X.base (k+1) 1 (n.mm wd) H2 O2 fa:=by
 obtain⟨c',oc,doc,pm,ctv,h1,h2,h3⟩:=made;obtain⟨wv,jt,hl,at_⟩:=LF E hw;have hn:∀b o,(R6 s.heap clA).lookup b=some o->H b=none:=λb o q=>by obtain⟨_,x,hm⟩:=K4 q;exact I.freeC x b (hAc x b hm)
 have sm:=eJ hn
 suffices key:∀H2 O2,Kp (cZ H<|R6 s.heap clA) O H2 O2->IR X.prog X.w X.K X.mg X.base (k+1) n.ps.length (n.mm wd) H2 O2 fa by rw[ok.one]at key;exact key
 refine WZ (cs:=R6 s.heap clA) (wv:=wv) (wd:=wd) (F:=n.F) ok.sc (λA outer s H hr=>ok.body fa (.ref c') clos A outer s H hr) (λds d og e=>ok.mm wd ds d (by rw[<-jt.length,hl,ok.len]) og e) (λs us og=>.of_eq (ok.bind clos doc pm (.ref c') ctv us og)) (sm _ _ h1) (sm _ _ h2) h3
  (λb o q=>⟨dF q,?_⟩) (λi x v q1 q2=>?_) (λx c q=>?_) (λx y c q1 q2=>I.ok.inj x y c (hc.sub x c q1) (hc.sub y c q2)) (by rw[hl,ok.len]) (jt.same sm) (E.grow sm).trk
 ·obtain⟨e1,x,hm⟩:=K4 q;obtain⟨v,o',e2,e3⟩:=I.cell x b (hAc x b hm);rw[e1]at e2;cases e2;exact⟨v,e3⟩
 ·have hi:i<n.js.length:=by rw[ok.len];exact(aAC.mp q1).1
  have ej:n.js[i]?=some n.js[i]:=aAh hi;obtain⟨hN,hk⟩:=ok.at_ i _ x ej q1;have hσ:=at_ i _ v ej q2;obtain⟨m,yh,hloc⟩:=I.loc;obtain⟨u,ru,look⟩:=hloc _ x v hN hσ (.inr (.inl hk));rcases look with⟨kr,_⟩|⟨_,c,dg,o,ho,hd⟩
  ·have hk'':X.env.scope.names.lookup x=some .local:=kr;rw[hk]at hk'';cases hk''
  ·obtain⟨c2,q3⟩:=hc.has x (aAt q1);have q4:=hc.sub x c2 q3;rw[dg]at q4;cases q4;obtain⟨o',q5⟩:=lG (hA _<|PySem.mem_of_lookup q3) ho;have:=(K4 q5).1;rw[ho]at this;cases this;exact⟨c,u,o,q3,q5,hd,ru⟩
 ·obtain⟨v,o,ho,_⟩:=I.cell x c (hc.sub x c q);exact lG (hA _<|PySem.mem_of_lookup q) ho
def SH (sv:NstOk X k n1)(td:NstOk X k n2)(ya:ClosOk X n1 clos1)(jc:ClosOk X n2 clos2)(hA:∀x b,(x,b)∈clos1++clos2->X.env.cells.lookup x=some b)(FF:FnOk X.prog X.w X.K X.mg X.base tR kf g gd ps3 (oj X.K (IR X.prog X.w X.K X.mg X.base (k+1) 1) M))(hr:Room kf X.A)(hm:X.mg x=some (.ref g))(hk:PySem.W.keepIn X.K (.ref g)=true)(hb:Binds X.K gd ps3 [])(h3:ps3.length=3)(he:PD X e f)(xg:∀y,X.fn y=true)(hg:Gl X x:=by rfl)(il:(x==("__debug__":Str))=false:=by decide)(yi:starEach [e,.Name n1.name p1,.Name n2.name p2] X.env=(false,eval e X.env)::starEach [.Name n1.name p1,.Name n2.name p2] X.env:=by rfl)(zg:starEach [.Name n1.name p1,.Name n2.name p2] X.env=(false,eval (.Name n1.name p1) X.env)::starEach [.Name n2.name p2] X.env:=by rfl)(hs3:starEach [.Name n2.name p2] X.env=(false,eval (.Name n2.name p2) X.env)::starEach [] X.env:=by rfl)(bf:(backTo pos (starEach [.Name n1.name p1,.Name n2.name p2] X.env)).any (·.1)=false:=by rfl):
  PE X (.Call (.Name x p) [e,.Name n1.name p1,.Name n2.name p2] [] pos) (ij X n1 n2 clos1 clos2 f M):=by
 intro pins s σ H Q I ⟨H9,O0,O,ρ,yb,fa2,E,h1,h2,md1,md2,q⟩;have vis:∀{y:Str},Loc X.env.scope y->BI X.env.scope y:=λh=>h.elim .inl λz=>.inr (.inl z);have ku:PA X [e,.Name n1.name p1,.Name n2.name p2] _:=J1 he (J1 (Q7 sv.nm (vis sv.lc) sv.dbg sv.cdt) (J1 (Q7 td.nm (vis td.lc) td.dbg td.cdt) X1 hs3) zg) yi;refine aAM (tJ I hg hm ?_ il);refine PySem.W.callWith_K (h₀:=X.base) I.ok.mod.kin hk (D8 (ku pos pins s σ H (λvs H1=>∃v1 d1 w1 w2 d,vs=[v1,.ref yb,.ref fa2]/\Same H H1/\Rep X.K H1 O v1 d1/\bZ n1.js ρ=.ok w1/\bZ n2.js ρ=.ok w2/\M d1 (n1.mm w1) (n2.mm w2)=.ok d/\∀v H',Same H1 H'->Rep X.K H' O v d->Q v H') I ⟨H9,O0,O,ρ,E,?_⟩) λus s1 ⟨vs,H1,I1,r,v1,d1,w1,w2,d,ev,sm,r1,c1,c2,em,qq⟩=>⟨I1.kIn,?_⟩) yi bf
 ·cases e1:f ρ with
  |ex z=>rw[e1]at q;exact q
  |bad=>rw[e1]at q;exact q
  |ok d1=>
   rw[e1,R.aa0]at q;cases e2:bZ n1.js ρ with
   |ex z=>rw[e2]at q;exact(q H<|Same.refl _).elim
   |bad=>rw[e2]at q;exact q.elim
   |ok w1=>
    rw[e2,R.aa0]at q;cases e3:bZ n2.js ρ with
    |ex z=>rw[e3]at q;exact(q H<|Same.refl _).elim
    |bad=>rw[e3]at q;exact q.elim
    |ok w2=>
     rw[e3,R.aa0]at q;cases e4:M d1 (n1.mm w1) (n2.mm w2)with
     |ex z=>rw[e4]at q;exact(q H<|Same.refl _).elim
     |bad=>rw[e4]at q;exact q.elim
     |ok d=>rw[e4]at q;exactλv1 H1 s1 r1=>⟨_,h1,_,h2,v1,d1,w1,w2,d,rfl,s1,r1,rfl,rfl,e4,λv H' s2 r2=>q v H' (s1.trans s2) r2⟩
 ·subst ev;have E1:=E.grow sm;generalize vg:R6 s1.heap (clos1++clos2)=cs;have hn:∀b o,cs.lookup b=some o->s1.heap.get? b=some o/\H1 b=none/\sI o:=λb o z=>by rw[<-vg]at z;obtain⟨e1,y,hm⟩:=K4 z;obtain⟨v,o',e2,e3⟩:=I1.cell y b (hA y b hm);rw[e1]at e2;cases e2;exact⟨e1,I1.freeC y b (hA y b hm),v,e3⟩
  have hn0:∀b o,cs.lookup b=some o->H1 b=none:=λb o z=>(hn b o z).2.1;have smf:Same H1 (cZ H1 cs):=eJ hn0;have E2:=E1.grow smf;have e0:=I1.af6;have nofr:∀b o,cs.lookup b=some o->b∉xG X.stack:=λb o z hb=>by
   rw[<-vg]at z;obtain⟨_,y,hmy⟩:=K4 z;rcases aAd.mp (I1.ab3 b hb)with e|hb
   ·exact I1.cne y b (hA y b hmy) e
   ·obtain⟨_,o',ho,_⟩:=I1.ok.funs.mem hb;exact absurd (aAq (aAf ho)<|I1.ok.cab y b (xg y)<|hA y b hmy) (aAX _)
  have nob:∀b o,X.base.get? b=some o->cs.lookup b=none:=λb o e=>by
   cases z:cs.lookup b with
   |none=>rfl
   |some o'=>rw[<-vg]at z;obtain⟨_,y,hm⟩:=K4 z;exact absurd (aAq (aAf e)<|aAo I1.ok.bsz<|I1.ok.cab y b (xg y)<|hA y b hm) (aAX _)
  have e2:Env0 X.prog X.w X.K X.mg X.base X.A X.stack s1 (cZ H1 cs):=⟨e0.frames,e0.mod,λb o e=>⟨(e0.bs b o e).1,by rw[O6 (nob b o e)];exact(e0.bs b o e).2⟩,e0.bsz,e0.funs,λb hb=>by
   cases z:cs.lookup b with
   |none=>rw[O6 z];exact e0.frf b hb
   |some o=>exact absurd hb (nofr b o z),JI e0.hok λb o z=>⟨(hn b o z).1,(hn b o z).2.1⟩,e0.bare⟩
  have cl1:=xF sv ya I1 E1 (λp hp=>aBB _ hp) hA (md1.same sm) c1;have cl2:=xF td jc I1 E1 (λp hp=>aAF _ hp) hA (md2.same sm) c2;rw[vg]at cl1 cl2;have hl:us.length=ps3.length:=by rw[<-r.length,h3];rfl
  have hbs:=hb s1 us I1.kIn (by rw[aCg];exact hl);rw[aCg]at hbs;refine wpAny_call (aDF (FF.run X.A X.stack s1 (cZ H1 cs) ⟨us,[]⟩ us _ (λv H'=>Q v (P6 H' cs)) (λ_ _ _=>False) hr e2 hbs r ⟨O,v1,d1,yb,_,fa2,_,d,rfl,r1.same smf,cl1,cl2,E2.trk,E2.tab,oD I1 O E1.trk,em,λv H' s2 r2=>?_⟩) λrr s' hq=>?_)
  ·have hz:∀b o,cs.lookup b=some o->H' b=some (.frz o (.own b)):=λb o z=>s2 _ _ (dF z);refine qq v _ (λb u e=>w4 hz (s2 b u<|smf b u e) λo z _=>?_) (r2.hid hz);rw[hn0 b o z]at e;cases e
  ·cases rr with
   |error e=>exact hq.elim
   |ok fl=>
    cases fl with
    |next=>exact aAk hq
    |brk=>exact aAk hq
    |cont=>exact aAk hq
    |ret u=>obtain⟨v,H',os,bare,un,hok,rv,qv⟩:=hq;obtain⟨U2,k2,_⟩:=ZF un hok hn;exact I1.after ⟨v,_,os,bare,U2,k2,rv,qv⟩
def GS (sv:NstOk X k n1)(td:NstOk X k n2)(ya:ClosOk X n1 clos1)(jc:ClosOk X n2 clos2)(hA:∀x b,(x,b)∈clos1++clos2->X.env.cells.lookup x=some b)(hB:gW X.mg X.base)(km:X.env.code=.ref c)(hK:PySem.W.codeHdIn X.K c Pt=true)(hTt:(Pt,tb)∈Tabs.tbs)(hm1:(n1.pos,n1.qual)∈tb)(jr:(n2.pos,n2.qual)∈tb)(eh:∀p∈tb,p.1.line=n1.pos.line->p.1.col=n1.pos.col->p.2=n1.qual)(hu2:∀p∈tb,p.1.line=n2.pos.line->p.1.col=n2.pos.col->p.2=n2.qual)(ah:n1.i≠n2.i)(hN:X.N.Nodup)(FF:FnOk X.prog X.w X.K X.mg X.base tR kf g gd ps3 (oj X.K (IR X.prog X.w X.K X.mg X.base (k+1) 1) M))(hr:Room kf X.A)(hm:X.mg x=some (.ref g))(hk:PySem.W.keepIn X.K (.ref g)=true)(hb:Binds X.K gd ps3 [])(h3:ps3.length=3)(he:PD X e f)(xg:∀y,X.fn y=true)(hg:Gl X x:=by rfl)(il:(x==("__debug__":Str))=false:=by decide)(yi:starEach [e,.Name n1.name p1,.Name n2.name p2] X.env=(false,eval e X.env)::starEach [.Name n1.name p1,.Name n2.name p2] X.env:=by rfl)(zg:starEach [.Name n1.name p1,.Name n2.name p2] X.env=(false,eval (.Name n1.name p1) X.env)::starEach [.Name n2.name p2] X.env:=by rfl)(hs3:starEach [.Name n2.name p2] X.env=(false,eval (.Name n2.name p2) X.env)::starEach [] X.env:=by rfl)(bf:(backTo pos (starEach [.Name n1.name p1,.Name n2.name p2] X.env)).any (·.1)=false:=by rfl):
  aZ X [n1.stmt,n2.stmt,.Return (some (.Call (.Name x p) [e,.Name n1.name p1,.Name n2.name p2] [] pos)) rpos] (λρ=>((f ((ρ.set n1.i .no).set n2.i .no)).bind λd1=>(bZ n1.js ((ρ.set n1.i .no).set n2.i .no)).bind λw1=>(bZ n2.js ((ρ.set n1.i .no).set n2.i .no)).bind λw2=>M d1 (n1.mm w1) (n2.mm w2)).bind λd=>.ok (.rt d)):=by
 intro H9 O0 pins s σ H D I ⟨O,ρ,E,fk,q⟩;refine aEd (xN (σ:=σ) I hB km hK (E.tab _ hTt) ya.qn hm1 eh ya.eq sv.d0 sv.k0 ya.ann hN sv.nm sv.lc sv.st λyb H1 s1 I1 sm1 md1=>?_);have E1:EnvOk X.K H9 O0 H1 O (σ.set n1.i<|some<|.ref yb) (ρ.set n1.i .no):=(E.grow sm1).put n1.i (λz=>z) trivial;refine aEd (xN (σ:=σ.set n1.i (some<|.ref yb)) I1 hB km hK (E1.tab _ hTt) jc.qn jr hu2 jc.eq td.d0 td.k0 jc.ann hN td.nm td.lc td.st λfa2 H2 s2 I2 ym md2=>?_);have E2:EnvOk X.K H9 O0 H2 O ((σ.set n1.i<|some<|.ref yb).set n2.i (some<|.ref fa2)) ((ρ.set n1.i .no).set n2.i .no):=(E1.grow ym).put n2.i (λz=>z) trivial;have l1:n1.i<σ.length:=by rw[I.len];exact(aAC.mp sv.nm).1
 have l2:n2.i<σ.length:=by rw[I.len];exact(aAC.mp td.nm).1
 refine DG (OH<|SH sv td ya jc hA FF hr hm hk hb h3 he xg hg il yi zg hs3 bf) pins s2 _ H2 D I2 ⟨H9,O0,O,_,yb,fa2,E2,?_,?_,md1.same ym,md2,?_⟩
 ·rw[aCo (aBQ ah),aBH l1]
 ·rw[aBH (by rw[aFB];exact l2)]
 ·revert q;dsimp only;generalize((f<|(ρ.set n1.i .no).set n2.i .no).bind λd1=>(bZ n1.js<|(ρ.set n1.i .no).set n2.i .no).bind λw1=>(bZ n2.js<|(ρ.set n1.i .no).set n2.i .no).bind λw2=>M d1 (n1.mm w1) (n2.mm w2))=rr;intro q;cases rr with
  |ok d=>exactλv H' s r=>q v H' (E2.same.trans s) (r.sub E2.sub)
  |ex z=>exactλH' s=>q H' (E2.same.trans s)
  |bad=>exact q
end
def uA (K:PySem.W.Frag):Sp:=λvs H Q _=>∃(a:Addr) (ns:List Int),vs=[.ref a]/\L7 K H a (ns.map V.int)/\ns.length<=63/\(∀x∈ns,aAV x<=1048576)/\Tb H/\∀H',Q (.bl true) H'
def PY {P:Program}{w:World}{K:PySem.W.Frag}{mg:cP}{base:Heap}{k:Nat}{f:Addr}{fd:FuncData}{m:List D->R D}(F:FnOk P w K mg base tR k f fd ["script"] (ZK K 1 m))
  (h:∀ns:List Int,ns.length<=63->(∀x∈ns,aAV x<=1048576)->m [.lst (ns.map D.int)]=.ok (.bl true)):FnOk P w K mg base tR k f fd ["script"] (uA K):=
 F.imp λvs H Q E ⟨a,ns,e,hS,hl,hb,tb,q⟩=>⟨λ_=>False,_,_,by rw[e];exact .cons (.lst hS (λz=>z) (Reps.ints ns)) .nil,rfl,λ_ z=>z.elim,tb,λ_ _ _ z=>z,h ns hl hb,λv H' _ r=>by cases r;exact q H'⟩
def EZ {P:Program}{w:World}{K:PySem.W.Frag}{mg mb:cP}{k:Nat}{fa a:Addr}{fd:FuncData}{aa:Shared}{vs:List Value}{ns:List Int}
  (KX:K.In aa.heap) (yh:aa.heap.Ns mainGlobals mg) (hb:aa.heap.Ns builtinsNs mb) (hbb:∀x:Str,x≠ "__name__"->mb x=bootBuiltins x) (hlim:aa.heap.NoLimit) (hB:gW mg aa.heap) (hg:aa.gens=#[])
  (ha:aa.heap.get? a=some {cls:=.type "list",data:=.seq vs.toArray}) (hi:IntsAre vs ns) (hl:ns.length<=63) (xa:∀x∈ns,aAV x<=1048576) (hr:Room k callerA)
  (hT:∀p∈Tabs.tbs,aa.heap.get? p.1=some (PySem.W.tabObj #[])/\isCodeTable aa.heap p.1) (hTd:(Tabs.tbs.map (·.1)).Nodup) (hKn:PySem.W.noTabs K=true)
  (F:∀base:Heap,K.In base->base.Ns mainGlobals mg->gW mg base->FnOk P w K mg base tR k fa fd ["script"] (uA K)) (wu:∀(s:Shared) (u:Value),BindsTo s fd ⟨[u],[]⟩ [("script",u)]):
  codeAny (model P w) callerA (.call (.ref fa) ⟨[.ref a],[]⟩) (λr s'=>r=.ok (.ret (.bool true))/\OldK aa.heap s'.heap/\s'.os=aa.os/\AllBare s'.gens) aa:=by
 have rv:=L2.aD hi;have lenV:=hi.length;have ig:ns.length<=sizeLine:=aAo hl (by decide);have uh:∀b tb,Tabs.tbs.lookup b=some tb->aa.heap.get? b=some (PySem.W.tabObj #[])/\isCodeTable aa.heap b:=λb tb e=>hT (b,tb) (mem_lookup e);have nta:Tabs.tbs.lookup a=none:=by
  cases e:Tabs.tbs.lookup a with
  |none=>rfl
  |some tb=>have:=(uh a tb e).1;rw[ha]at this;cases this
 have noK:∀b o,K.lookup b=some o->Tabs.tbs.lookup b=none:=λb o e=>by
  cases z:Tabs.tbs.lookup b with
  |none=>rfl
  |some tb=>have e1:=KX b o e;rw[(uh b tb z).1]at e1;cases e1;have h2:=aAW.mp hKn (b,_) (PySem.W.mem_of_lookupK e);exact absurd (show false=true from h2) aAT
 let put:Hp->Hp:=λH b=>match Tabs.tbs.lookup b with
  |some tb=>some (.tbl tb)
  |none=>H b
 have nM:∀(H:Hp) b tb,Tabs.tbs.lookup b=some tb->put H b=some (.tbl tb):=λH b tb e=>by show(match Tabs.tbs.lookup b with|some tb=>some (HO.tbl tb)|none=>H b)=_;rw[e]
 have gh:∀(H:Hp) b,Tabs.tbs.lookup b=none->put H b=H b:=λH b e=>by show(match Tabs.tbs.lookup b with|some tb=>some (HO.tbl tb)|none=>H b)=_;rw[e]
 have core:∀H0:Hp,(∀b,H0 b=none\/∃xs,H0 b=some (.frz {cls:=.type "list",data:=.seq vs.toArray} (.lst xs)))->L7 K (put H0) a (ns.map V.int)->(∀b u,H0 b=some u->ObjOk P w (put H0) aa.heap b u)->(∀b,H0 b≠none->b=a)->(H0 a≠none->K.lookup a=none)->
   codeAny (model P w) callerA (.call (.ref fa) ⟨[.ref a],[]⟩) (λr s'=>r=.ok (.ret (.bool true))/\OldK aa.heap s'.heap/\s'.os=aa.os/\AllBare s'.gens) aa:=by
  intro H0 hO hS hok0 hA hK;have hok:fC P w (put H0) aa.heap:=λb u e=>by
   cases z:Tabs.tbs.lookup b with
   |none=>rw[gh _ b z]at e;exact hok0 b u e
   |some tb=>rw[nM _ b tb z]at e;cases e;exact⟨#[],(uh b tb z).1,trivial,λp _=>.inl rfl⟩
  have oa:∀{b:Addr} {o:Obj},aa.heap.get? b=some o->put H0 b=none->(pK aa.heap<|put H0).get? b=some o:=λe n=>MY e n;have none_of:∀{b:Addr} {o:Obj},aa.heap.get? b=some o->o≠PySem.W.tabObj #[]->o≠{cls:=.type "list",data:=.seq vs.toArray}->put H0 b=none:=λ{b o} e n1 n2=>by
   cases z:Tabs.tbs.lookup b with
   |some tb=>have:=(uh b tb z).1;rw[e]at this;exact absurd (Option.some.inj this) n1
   |none=>
    rw[gh _ b z];cases q:H0 b with
    |none=>rfl
    |some u=>have e':b=a:=hA b (by rw[q];simp);subst e';rw[ha]at e;exact absurd (Option.some.inj e).symm n2
  have nsK:∀{b:Addr} {m:cP},aa.heap.Ns b m->(pK aa.heap<|put H0).Ns b m:=λ{b m} ⟨o,es,ep,e,d,r⟩=>⟨o,es,ep,oa e (none_of e (λz=>by rw[z]at d;cases d) λz=>by rw[z]at d;cases d),d,r⟩;have hKb:K.In (pK aa.heap<|put H0):=λb o e=>oa (KX b o e) (by
   rw[gh _ b (noK b o e)];cases q:H0 b with
   |none=>rfl
   |some u=>have e':b=a:=hA b (by rw[q];simp);subst e';rw[hK (by rw[q];simp)]at e;cases e)
  have hBb:gW mg (pK aa.heap<|put H0):=by obtain⟨bm,ob,b1,b2,b3,b4,b5,b6⟩:=hB;exact⟨bm,ob,b1,b2,oa b3 (none_of b3 (λz=>by rw[z]at b6;cases b6) λz=>by rw[z]at b6;cases b6),b4,b5,b6⟩
  have hM:Mod K mg (pK aa.heap<|put H0):=⟨hKb,nsK yh,⟨mb,nsK hb,hbb⟩,let⟨mc,h1,h2⟩:=hlim;⟨mc,nsK h1,h2⟩⟩;have e0:Env0 P w K mg (pK aa.heap<|put H0) callerA [] aa (put H0):=⟨rfl,hM,λb o e=>OY e,aDY (GI _ _),trivial,λb hb=>absurd (show b∈([]:List Addr)from hb) (by simp),hok,.of_eq hg⟩;have tb0:Tb (put H0):=λp hp=>nM _ p.1 p.2 (bQ hTd hp);refine aDF ((F _ hKb (nsK yh) hBb).run callerA [] aa (put H0) ⟨[.ref a],[]⟩ [.ref a] [.ref a] (λv _=>v=.bl true) (λ_ _ _=>False) hr e0 (wu aa<|.ref a) (.cons rfl .nil) ⟨a,ns,rfl,hS,hl,xa,tb0,λ_=>rfl⟩) λr s' h=>?_;cases r with
  |error e=>exact(show False from h).elim
  |ok fl=>
   cases fl with
   |next=>exact aAk h
   |brk=>exact aAk h
   |cont=>exact aAk h
   |ret u=>
    obtain⟨v,H',os,bare,un,yn,r',q⟩:=h;have q':v=.bl true:=q;subst q';obtain rfl:u=aDc true:=r';have each:∀b o,aa.heap.get? b=some o->s'.heap.get? b=some o\/(isCodeTable aa.heap b/\o=PySem.W.tabObj #[]/\∃ps,s'.heap.get? b=some (PySem.W.tabObj ps)):=λb o e=>by
     cases z:Tabs.tbs.lookup b with
     |some tb=>have:=(uh b tb z).1;rw[e]at this;obtain⟨ps,hps,_⟩:=yn b _ (un.tbls b tb<|nM _ b tb z);exact .inr ⟨(uh b tb z).2,Option.some.inj this,ps,hps⟩
     |none=>
      refine .inl ?_;rcases hO b with n|⟨xs,n⟩
      ·exact un.keep b o e (by rw[gh _ b z];exact n) (by intro z;exact absurd (show b∈([]:List Addr)from z) (by simp)) (by simp)
      ·have z1:put H0 b=some (.frz {cls:=.type "list",data:=.seq vs.toArray} (.lst xs)):=by rw[gh _ b z];exact n
       have z2:=un.frzs b _ _ z1;obtain⟨e1,_⟩:=hok b _ z1;obtain⟨e2,_⟩:=yn b _ z2;rw[e]at e1;cases e1;exact e2
    refine⟨rfl,⟨λb o e=>?_,λb o e=>?_⟩,os,bare⟩
    ·rcases each b o e with h|⟨h1,h2,ps,h3⟩
     ·exact .inl h
     ·subst h2;exact .inr (.inl ⟨h1,rfl,#[],ps,rfl,by rw[Array.empty_append];exact h3⟩)
    ·rcases each b o e with h|⟨h1,h2,ps,h3⟩
     ·exact⟨o,h⟩
     ·exact⟨_,h3⟩
 cases hk:K.lookup a with
 |some o=>have e:=KX a o hk;rw[ha]at e;cases e;refine core (λ_=>none) (λ_=>.inl rfl) (.inr ⟨_,vs.toArray,_,hk,rfl,rfl,rfl,by rw[aAm,lenV];exact ig,by simpa using rv⟩) (λb u z=>by have z':(none:Option HO)=some u:=z;cases z') (λb z=>absurd rfl z) λz=>absurd rfl z
 |none=>
  obtain⟨H0,h1,h2⟩:∃H0:Hp,H0 a=some (.frz {cls:=.type "list",data:=.seq vs.toArray} (.lst (ns.map V.int)))/\∀b,b≠a->H0 b=none:=⟨λb=>if b=a then _ else none,if_pos rfl,λb hb=>if_neg hb⟩;refine core H0 (λb=>?_) (.inl (.inr ⟨{cls:=.type "list",data:=.seq vs.toArray},(gh H0 a nta).trans h1⟩)) (λb u z=>?_) (λb z=>?_) λ_=>hk
  ·by_cases hb:b=a
   ·subst hb;exact .inr ⟨_,h1⟩
   ·exact .inl (h2 b hb)
  ·by_cases hb:b=a
   ·subst hb;rw[h1]at z;cases z;exact⟨ha,by rw[aAl];exact ig,vs,_,rv,ha⟩
   ·rw[h2 b hb]at z;cases z
  ·by_cases hb:b=a
   ·exact hb
   ·exact absurd (h2 b hb) z
def RK {l:PySem.W.OpenLaw}{k:Nat}{q:Program}{loose:List Str}{XP:(Str->Option Value)->Heap->Prop}{YP:World->Heap->Prop}{d:DefRec}{K:Params->PySem.W.Frag}{ts:List Addr}
  (hn:l.most=some 63) (hdf:d.params.defaults=[]) (hr:Room k callerA)
  (hY:∀(w:World) (h:Heap),YP w h->(K w.params).In h/\∀P∈ts,h.get? P=some (PySem.W.tabObj #[]))
  (hTs:∀p∈Tabs.tbs,p.1∈ts/\∃c,∀w:World,PySem.W.codeHdIn (K w.params) c p.1=true) (hTd:(Tabs.tbs.map (·.1)).Nodup) (hKn:∀w:World,PySem.W.noTabs (K w.params)=true)
  (F:∀(w:World) (mg:cP) (fa:Addr) (h:Heap),(K w.params).In h->h.Ns mainGlobals mg->mg d.name=some (.ref fa)->
   ∃fd:FuncData,(∀(s:Shared) (u:Value),BindsTo s fd ⟨[u],[]⟩ [("script",u)])/\
    ∀base:Heap,(K w.params).In base->base.Ns mainGlobals mg->gW mg base->FnOk l.prog w (K w.params) mg base tR k fa fd ["script"] (uA (K w.params))):
  PySem.W.WalkO q loose XP YP l.row.toRowW d [] (λf vs=>PySem.call f vs):=by
 refine Att2.attach_bits hn hdf λw sa aa mg mb fa o pm cd doc a vs ns G Y ho hd eu oo hobj hints hlen xa hg=>?_;obtain⟨KX,hT⟩:=hY w _ Y;obtain⟨fd,hb,hF⟩:=F w mg fa _ KX G.T.g oo;refine EZ KX G.T.g G.T.b G.T.builtins G.T.nolimit G.T.bmain hg hobj hints hlen xa hr (λp hp=>?_) hTd (hKn w) hF hb;obtain⟨h1,c,h2⟩:=hTs p hp;have h3:=hT p.1 h1;exact⟨h3,((PySem.W.codeHd_of_K KX<|h2 w).tab h3).isCodeTable⟩
section
variable{K:PySem.W.Frag}
structure FunC (K:PySem.W.Frag)(x qual:Str)(st:Stmt)(f:Addr)(fd:FuncData)(cd:Addr):Prop where
 ex:∃(oc:Value) (od:Option Addr) (kV doc pm:Value) (an:Option Addr) (ct:Value) (osl:Array (Option Value)),
  fd=PySem.W.fnOf x qual (D6 st) (t9 st) (c8 st) .none kV doc pm an (.ref cd) ct/\K.lookup f=some ⟨oc,od,.func fd,osl⟩/\PySem.W.codeIn K (.ref cd) qual=true
 kp:PySem.W.keepIn K (.ref f)=true
omit [Tabs]in
def FunC.fn {x qual:Str}{st:Stmt}{f:Addr}{fd:FuncData}{cd:Addr}(F:FunC K x qual st f fd cd):Fun K x qual st f fd:=
 let⟨oc,od,kV,doc,pm,an,ct,osl,h1,h2,h3⟩:=F.ex
 ⟨⟨oc,od,kV,doc,pm,an,.ref cd,ct,osl,h1,h2,h3⟩,F.kp⟩
omit [Tabs]in
def RN {x qual:Str}{st:Stmt}{f cd:Addr}{oc:Value}{od an:Option Addr}{osl:Array (Option Value)}{kV doc pm cdv ct:Value}(l:K.lookup f=some ⟨oc,od,.func (PySem.W.fnOf x qual (D6 st) (t9 st) (c8 st) .none kV doc pm an cdv ct),osl⟩)
  (e:cdv=.ref cd) (c:PySem.W.codeIn K cdv qual=true) (k:PySem.W.keepIn K (.ref f)=true):FunC K x qual st f (PySem.W.fnOf x qual (D6 st) (t9 st) (c8 st) .none kV doc pm an cdv ct) cd:=by
 subst e;exact⟨⟨oc,od,kV,doc,pm,an,ct,osl,rfl,l,c⟩,k⟩
def yk {x qual:Str}{st:Stmt}{f cd:Addr}{fd:FuncData}{N ps:List Str}{k:Nat}{m:List D->R D}{F:Ev->R Out}(F0:FunC K x qual st f fd cd)(S:FnScope N ps (c8 st))
  (hb:∀(A:Around) (outer:List Env) (s:Shared) (H:Hp) (E:XK),Room k (A.deeper (envOfC qual (c8 st) s.heap.objs.size f (.ref cd)))->aZ (TX P w K mg base N qual (c8 st) f (.ref cd) A outer s H E) (t9 st) F)
  (hm:∀ds d,ds.length=ps.length->m ds=.ok d->K7 (F (j5 N ds))=.ok d):FnOk P w K mg base tR (k+1) f fd ps (ZK K ps.length m):=by
 obtain⟨oc,od,kV,doc,pm,an,ct,osl,rfl,lk,eu⟩:=F0.ex;refine UM lk eu S (λvs H Q E ⟨O,ds,d,r,hl,_⟩=>by rw[r.length];exact hl) λA outer s H vs Q E hr ⟨O,ds,d,r,hl,ht,tb,fk,e,q⟩=>?_;refine⟨_,uR.nox (hb A outer s H E hr H O),O,_,qT r ht tb,fk,?_⟩;have h:=hm ds d hl e;cases e1:F (j5 N ds)with
 |ok o=>
  rw[e1]at h;cases o with
  |rt d'=>have h':R.ok d'=R.ok d:=h;injection h' with h';subst h';exact q
  |nx ρ=>have h':R.ok D.non=R.ok d:=h;injection h' with h';subst h';exactλai H' O' E' _ _=>q .non H' E'.same .non
  |bk ρ=>cases h
  |ct ρ=>cases h
 |ex x=>rw[e1]at h;cases h
 |bad=>rw[e1]at h;cases h
def RP {x qual:Str}{st:Stmt}{f cd:Addr}{fd:FuncData}{N ps:List Str}{k:Nat}{m:List D->R D}{F:Ev->R Out}(F0:FunC K x qual st f fd cd)(S:FnScope N ps (c8 st))(hb0:Binds K fd ps [])(oo:mg x=some (.ref f))
  (hb:∀(A:Around) (outer:List Env) (s:Shared) (H:Hp) (E:XK),Room k (A.deeper (envOfC qual (c8 st) s.heap.objs.size f (.ref cd)))->aZ (TX P w K mg base N qual (c8 st) f (.ref cd) A outer s H E) (t9 st) F)
  (hm:∀ds d,ds.length=ps.length->m ds=.ok d->K7 (F (j5 N ds))=.ok d):x4 P w K mg base (k+1) x ps.length m:=
 ⟨f,fd,ps,yk F0 S hb hm,hb0,F0.kp,oo⟩
def QX (P:Program)(w:World)(K:PySem.W.Frag)(mg:cP)(base:Heap)(k kc:Nat)(x:Str)(M:D->(List D->R D)->(List D->R D)->R D):Prop:=
 ∃g gd ps,FnOk P w K mg base tR k g gd ps (oj K (IR P w K mg base kc 1) M)/\Binds K gd ps []/\PySem.W.keepIn K (.ref g)=true/\mg x=some (.ref g)/\ps.length=3
def PM {x qual:Str}{st:Stmt}{f:Addr}{fd:FuncData}{N ps:List Str}{k kc:Nat}{M:D->(List D->R D)->(List D->R D)->R D}{F:Ev->R Out}(F0:Fun K x qual st f fd)(S:FnScope N ps (c8 st))(h3:ps.length=3)(hb0:Binds K fd ps [])(oo:mg x=some (.ref f))
  (hb:∀(cdv:Value) (A:Around) (outer:List Env) (s:Shared) (H:Hp) (E:XK),Room k (A.deeper (envOfC qual (c8 st) s.heap.objs.size f cdv))->aZ (TX P w K mg base N qual (c8 st) f cdv A outer s H E) (t9 st) F)
  (hm:∀d1 m1 m2 d,M d1 m1 m2=.ok d->K7 (F (jN N (IR P w K mg base kc 1) d1 m1 m2))=.ok d):QX P w K mg base (k+1) kc x M:=
 ⟨f,fd,ps,fnF F0 S h3 hb hm,hb0,F0.kp,oo,h3⟩
end
section
def xQ (i:Nat){Φ:(List D->R D)->Hp->(Addr->Prop)->Addr->Prop}(hΦ:IR X.prog X.w X.K X.mg X.base k n=Φ)(ha:IN X (e::es) f)(hl:ID f n)(hr:Room k X.A)(hN:X.N[i]?=some x:=by rfl)(hv:BI X.env.scope x:=by first|exact aCN rfl|exact aBS (aCN rfl)|exact aBS (aBS rfl))(hd:(x==("__debug__":Str))=false:=by decide)(eu:(x==("__classdict__":Str))=false:=by decide)(he:starEach (e::es) X.env=(false,eval e X.env)::starEach es X.env:=by rfl)(bf:(backTo pos (starEach es X.env)).any (·.1)=false:=by rfl):
  PD X (.Call (.Name x p) (e::es) [] pos) (callC Φ i f):=by
 subst hΦ;exact JN i ha hl hr hN hv hd eu he bf
def BF (sv:NstOk X k n1)(td:NstOk X k n2)(ya:ClosOk X n1 clos1)(jc:ClosOk X n2 clos2)(hA:∀x b,(x,b)∈clos1++clos2->X.env.cells.lookup x=some b)(hB:gW X.mg X.base)(km:X.env.code=.ref c)(hK:PySem.W.codeHdIn X.K c Pt=true)(hTt:(Pt,tb)∈Tabs.tbs)(hm1:(n1.pos,n1.qual)∈tb)(jr:(n2.pos,n2.qual)∈tb)(eh:∀p∈tb,p.1.line=n1.pos.line->p.1.col=n1.pos.col->p.2=n1.qual)(hu2:∀p∈tb,p.1.line=n2.pos.line->p.1.col=n2.pos.col->p.2=n2.qual)(ah:n1.i≠n2.i)(hN:X.N.Nodup)(cf:QX X.prog X.w X.K X.mg X.base kf (k+1) x M)(hr:Room kf X.A)(he:PD X e f)(xg:∀y,X.fn y=true)(hg:Gl X x:=by rfl)(il:(x==("__debug__":Str))=false:=by decide)(yi:starEach [e,.Name n1.name p1,.Name n2.name p2] X.env=(false,eval e X.env)::starEach [.Name n1.name p1,.Name n2.name p2] X.env:=by rfl)(zg:starEach [.Name n1.name p1,.Name n2.name p2] X.env=(false,eval (.Name n1.name p1) X.env)::starEach [.Name n2.name p2] X.env:=by rfl)(hs3:starEach [.Name n2.name p2] X.env=(false,eval (.Name n2.name p2) X.env)::starEach [] X.env:=by rfl)(bf:(backTo pos (starEach [.Name n1.name p1,.Name n2.name p2] X.env)).any (·.1)=false:=by rfl):
  aZ X [n1.stmt,n2.stmt,.Return (some (.Call (.Name x p) [e,.Name n1.name p1,.Name n2.name p2] [] pos)) rpos] (λρ=>((f ((ρ.set n1.i .no).set n2.i .no)).bind λd1=>(bZ n1.js ((ρ.set n1.i .no).set n2.i .no)).bind λw1=>(bZ n2.js ((ρ.set n1.i .no).set n2.i .no)).bind λw2=>M d1 (n1.mm w1) (n2.mm w2)).bind λd=>.ok (.rt d)):=by
 obtain⟨g,gd,ps,FF,hb,hk,hm,h3⟩:=cf;exact GS sv td ya jc hA hB km hK hTt hm1 jr eh hu2 ah hN FF hr hm hk hb h3 he xg hg il yi zg hs3 bf
end
end DL
namespace DL
open PySem L2
def _root_.L2.Room.ae3 (r:Room k A):A.units+130<cLine:=by have:=r.un;lia
def _root_.L2.Room.ad5 (r:Room k A)(h:7<=k):A.units+300<cLine:=by have:=r.un;lia
def GV {y:Str}{b0:Addr}{cells:List (Str×Addr)}(h:cells.lookup y=some b0:=by rfl):∀(x:Str) (b:Addr),(x,b)∈[(y,b0)]++[(y,b0)]->cells.lookup x=some b:=λx b hm=>by
 have:(x,b)=(y,b0):=by simpa using hm
 injection this with h1 h2;subst h1 h2;exact h
def CT {sc:Scope}{fn:List Str}{x:Str}(h:sc.names.lookup x=some .free)(hs:(sc.names.all λp=>p.2 !=.free||fn.contains p.1)=true:=by decide+kernel):x∈fn:=by have h1:=aAW.mp hs _ (PySem.mem_of_lookup h);simpa using h1
def EL:Stmt->Pos
 |.FunctionDef _ _ _ _ _ _ _ _ _ p=>p
 |_=>⟨0,0,0,0⟩
end DL
namespace G
def iP {a b:V}(h:a-b=0):a=b:=by have q1:=congrArg V.x h;have q2:=congrArg V.y h;have q3:=congrArg V.z h;simp at q1 q2 q3;exact ext (by lia) (by lia) (by lia)
def IsFace.aa2 (ho:pts.Pairwise (λa b=>f6 (b-a)))(h:IsFace pts n d):Sheet n (u9 n d pts)where
 nz:=h.prim.ne
 pl:=λX hX Y hY=>by have:=(d5.mp hX).2;have:=(d5.mp hY).2;rw[i9];lia
 ord:=aFP _ ho
 two:=by obtain⟨A,hA,B,hB,C,hC,a,b,c,e⟩:=h.three;refine⟨A,d5.mpr ⟨hA,a⟩,B,d5.mpr ⟨hB,b⟩,λz=>e ?_⟩;subst z;rw[w8];apply ext<;>simp
def IsFace.ac7 {pts:List V}{n:V}{d:Int}(h:IsFace pts n d){a b:V}(he:EdgeOf n (λX=>X∈u9 n d pts) a b):∃X∈u9 n d pts,0<i8 n (b-a) (X-a):=by
 by_cases z:∃X∈u9 n d pts,0<i8 n (b-a) (X-a)
 ·exact z
 ·exfalso;have hn:=h.prim.ne;obtain⟨pa,da⟩:=d5.mp he.p;obtain⟨pb,db⟩:=d5.mp he.q;have hba:d7 n (b-a)=0:=by rw[i9];lia
  have ah:b-a≠0:=λe=>he.ne (iP e).symm;have k:∀X∈pts,d7 n X=d->cr (b-a) (X-a)=0:=λX hX dX=>by have tX:=d5.mpr ⟨hX,dX⟩;have l:=he.left X tX;have l':¬0<i8 n (b-a) (X-a):=λq=>z ⟨X,tX,q⟩;exact bM hn hba (by rw[i9];lia) (by lia)
  obtain⟨A,hA,B,hB,C,hC,eA,eB,eC,e⟩:=h.three;have k2:∀X∈pts,d7 n X=d->∀Y∈pts,d7 n Y=d->cr (X-Y) (b-a)=0:=λX hX dX Y hY dY=>by have q1:=k X hX dX;have q2:=k Y hY dY;have a1:=congrArg V.x q1;have a2:=congrArg V.y q1;have a3:=congrArg V.z q1;have b1:=congrArg V.x q2;have b2:=congrArg V.y q2;have b3:=congrArg V.z q2;simp at a1 a2 a3 b1 b2 b3;apply ext<;>simp<;>grind
  exact e (uG ah (k2 B hB eB A hA eA)<|k2 C hC eC A hA eA)
def LZ (hs:j9 pts)(hf:IsFace pts n d)(hg:IsFace pts m e)(h1:EdgeOf n (λX=>X∈u9 n d pts) a b)(h2:EdgeOf m (λX=>X∈u9 m e pts) b a)(hX:X∈u9 n d pts)(hx:0<i8 n (b-a) (X-a)):d7 m X<e:=by
 obtain⟨pX,dX⟩:=d5.mp hX;have le:=hg.sup X pX;by_cases z:d7 m X=e
 ·exfalso;obtain⟨pa,da⟩:=d5.mp h1.p;obtain⟨pb,db⟩:=d5.mp h1.q;obtain⟨_,ea⟩:=d5.mp h2.q;obtain⟨_,eb⟩:=d5.mp h2.p;obtain⟨Z,hZ,hz⟩:=hs.below hf.prim.ne hf.sup;have hc:cr (b-a) (X-a)≠0:=λq=>by unfold i8 at hx;rw[q,P7]at hx;lia
  obtain⟨rfl,rfl⟩:=mF hf.prim hg.prim hf.sup hg.sup da db dX ea eb z hc hZ hz;have:=h2.left X hX;have e1:i8 n (a-b) (X-b)=-i8 n (b-a) (X-a):=by simp[i8,d7];grind
  lia
 ·lia
def vG:List V->V
 |[]=>0
 |X::l=>X+vG l
theorem oQ (n:V):∀l:List V,d7 n (vG l)=(l.map (d7 n)).sum
 |[]=>P7 n
 |X::l=>by simp only[vG,aAv,aDP];rw[aT,oQ n l]
theorem BL {α:Type}(f g:α->Int):∀l:List α,(∀x∈l,f x<=g x)->(l.map f).sum<=(l.map g).sum
 |[],_=>aCn _
 |x::l,h=>by
  simp only[aAv,aDP];have:=h x (by simp);have:=BL f g l (λy hy=>h y (aAe _ hy))
  lia
theorem AX {α:Type}(f g:α->Int):∀l:List α,(∀x∈l,f x<=g x)->(∃x∈l,f x<g x)->(l.map f).sum<(l.map g).sum
 |[],_,⟨x,hx,_⟩=>by cases hx
 |x::l,h,⟨y,hy,ao⟩=>by
  simp only[aAv,aDP];have h1:=h x (by simp);have h2:=BL f g l (λy hy=>h y (aAe _ hy));rcases aAd.mp hy with e|e
  ·subst e;lia
  ·have:=AX f g l (λy hy=>h y (aAe _ hy)) ⟨y,e,ao⟩
   lia
theorem aH {α:Type}(c:Int):∀l:List α,(l.map λ_=>c).sum=(l.length:Int)*c
 |[]=>by simp
 |x::l=>by simp only[aAv,aDP,aAu];rw[aH c l];push_cast;grind
def A7 (pts:List V)(X:V):V:=(pts.length:Int)*X-vG pts
def R5 (pts:List V)(n:V)(d:Int):Int:=(pts.length:Int)*d-d7 n (vG pts)
def sN (pts:List V)(n X:V):d7 n (A7 pts X)=(pts.length:Int)*d7 n X-d7 n (vG pts):=by unfold A7;rw[i9,t8]
def dJ (hs:j9 pts)(hn:n≠0)(h:∀X∈pts,d7 n X<=d):0<R5 pts n d:=by
 unfold R5;rw[oQ,<-aH];have:=AX (d7 n) (λ_=>d) pts h (hs.below hn h)
 lia
def len_pos (hs:j9 pts):0<(pts.length:Int):=by
 obtain⟨A,hA,_⟩:=hs;have:0<pts.length:=aDR hA
 lia
def X3 (h:d7 n X=d):d7 n (A7 pts X)=R5 pts n d:=by rw[sN,h];rfl
def nE (h:d7 n X<=d):d7 n (A7 pts X)<=R5 pts n d:=by
 rw[sN];unfold R5;have:=aAD h (show(0:Int)<=pts.length by lia)
 lia
def NF (hl:0<(pts.length:Int))(h:d7 n X<d):d7 n (A7 pts X)<R5 pts n d:=by
 rw[sN];unfold R5;have:=aEE h hl
 lia
def TR (pts:List V)(a b X:V):i8 (A7 pts a) (A7 pts b) (A7 pts X)=(pts.length:Int)*(pts.length:Int)*d7 (A7 pts a) (cr (b-a) (X-a)):=by unfold A7;generalize(pts.length:Int)=N;generalize vG pts=s;simp[i8,d7];grind
def yE (h:cr w c=0)(x y:V):d7 w y*d7 c x=d7 w x*d7 c y:=by
 have e:d7 w y*d7 c x-d7 w x*d7 c y=d7 (cr w c) (cr y x):=by simp[d7];grind
 rw[h]at e;have:d7 0 (cr y x)=0:=by simp[d7]
 lia
def DR (hs:j9 pts)(hf:IsFace pts n d)(ha:d7 n a=d)(hb:d7 n b=d)(hX:d7 n X=d)(h:0<i8 n (b-a) (X-a)):0<i8 (A7 pts a) (A7 pts b) (A7 pts X):=by
 rw[TR];have hl:=len_pos hs;refine aBe (aBe hl hl) ?_;have hn:=hf.prim.ne;have p:cr n (cr (b-a)<|X-a)=0:=S4 (by rw[i9];lia) (by rw[i9];lia);have q:=yE p n (A7 pts a);have h1:0<d7 n (A7 pts a):=by rw[X3 ha];exact dJ hs hn hf.sup
 have h2:0<d7 (cr (b-a)<|X-a) n:=by rw[cI];exact h
 have h3:=aBe h1 h2;have h4:=x5 hn;rw[cI (A7 pts a)];by_cases z:0<d7 (cr (b-a)<|X-a) (A7 pts a)
 ·exact z
 ·exfalso;have:d7 n n*d7 (cr (b-a)<|X-a) (A7 pts a)<=0:=by have:=aAD (show d7 (cr (b-a)<|X-a) (A7 pts a)<=0 by lia) (aAO h4);simpa using this
  lia
def RT (hs:j9 pts)(hf:IsFace pts n d)(hg:IsFace pts m e)(h1:EdgeOf n (λX=>X∈u9 n d pts) a b)(h2:EdgeOf m (λX=>X∈u9 m e pts) b a)(hB:d7 m B*R5 pts n d<=d7 n B*R5 pts m e):0<=i8 (A7 pts a) (A7 pts b) B:=by
 obtain⟨X,hX,hx⟩:=hf.ac7 h1;have ao:=LZ hs hf hg h1 h2 hX hx;obtain⟨pX,dX⟩:=d5.mp hX;obtain⟨pa,da⟩:=d5.mp h1.p;obtain⟨pb,db⟩:=d5.mp h1.q;obtain⟨_,ea⟩:=d5.mp h2.q;obtain⟨_,eb⟩:=d5.mp h2.p;have c0:=dJ hs hf.prim.ne hf.sup;have c1:=dJ hs hg.prim.ne hg.sup;have dp:=DR hs hf da db dX hx;by_cases z:0<=i8 (A7 pts a) (A7 pts b) B
 ·exact z
 ·exfalso;have wd:∀y,d7 (R5 pts n d*m-R5 pts m e*n) y=R5 pts n d*d7 m y-R5 pts m e*d7 n y:=λy=>by rw[cI,i9,t8,t8,cI y m,cI y n]
  have wa:d7 (R5 pts n d*m-R5 pts m e*n) (A7 pts a)=0:=by rw[wd,X3 da,X3 ea];grind
  have wb:d7 (R5 pts n d*m-R5 pts m e*n) (A7 pts b)=0:=by rw[wd,X3 db,X3 eb];grind
  have wx:d7 (R5 pts n d*m-R5 pts m e*n) (A7 pts X)<0:=by
   rw[wd,X3 dX];have h3:=NF (len_pos hs) ao;have:=aEE h3 c0;have e1:R5 pts m e*R5 pts n d=R5 pts n d*R5 pts m e:=aGp _ _
   lia
  have p:=yE (S4 wa wb) (A7 pts X) B;have e2:d7 (cr (A7 pts a)<|A7 pts b) (A7 pts X)=i8 (A7 pts a) (A7 pts b) (A7 pts X):=S7 _ _ _;have e3:d7 (cr (A7 pts a)<|A7 pts b) B=i8 (A7 pts a) (A7 pts b) B:=S7 _ _ _;rw[e2,e3]at p;have r:0<d7 (R5 pts n d*m-R5 pts m e*n) (A7 pts X)*i8 (A7 pts a) (A7 pts b) B:=Int.mul_pos_of_neg_of_neg wx (by lia);rw[<-p]at r;have s:0<d7 (R5 pts n d*m-R5 pts m e*n) B:=by
   by_cases q:0<d7 (R5 pts n d*m-R5 pts m e*n) B
   ·exact q
   ·have:=aBd (show d7 (R5 pts n d*m-R5 pts m e*n) B<=0 by lia) (aAO dp);simp at this;lia
  rw[wd]at s;have e4:d7 m B*R5 pts n d=R5 pts n d*d7 m B:=aGp _ _;have e5:d7 n B*R5 pts m e=R5 pts m e*d7 n B:=aGp _ _
  lia
def yX {a b c d e f:Int}(hb:0<b)(hd:0<d)(hf:0<f)(h1:a*d<=c*b)(h2:c*f<=e*d):a*f<=e*b:=by
 have h3:=aBd h1 (aAO hf);have h4:=aBd h2 (aAO hb);have h5:(a*f)*d<=(e*b)*d:=by grind
 exact aEF h5 hd
theorem EQ {α:Type}(p q:α->Int):∀(l:List α),l≠[]->(∀x∈l,0<q x)->∃x∈l,∀y∈l,p y*q x<=p x*q y
 |[],h,_=>absurd rfl h
 |[x],_,_=>⟨x,by simp,λy hy=>by simp at hy;subst hy;exact aCn _⟩
 |x::y::l,_,hq=>by
  obtain⟨z,hz,h⟩:=EQ p q (y::l) (by simp) (λw hw=>hq w (aAe _ hw));by_cases c:p x*q z<=p z*q x
  ·refine⟨z,aAe _ hz,λw hw=>?_⟩;rcases aAd.mp hw with e|e
   ·subst e;exact c
   ·exact h w e
  ·refine⟨x,by simp,λw hw=>?_⟩;rcases aAd.mp hw with e|e
   ·subst e;exact aCn _
   ·exact yX (hq w hw) (hq z<|aAe _ hz) (hq x (by simp)) (h w e) (by lia)
theorem jk (h:V->Int):∀(x:V) (l:List V),0<=h x->(∀z,(x::l).getLast?=some z->h z<=0)->l≠[]->∃u v,(u,v)∈q9 (x::l)/\0<=h u/\h v<=0
 |x,[],_,_,hl=>absurd rfl hl
 |x,y::r,h1,h2,_=>by
  by_cases c:h y<=0
  ·exact⟨x,y,by simp[q9],h1,c⟩
  ·match r,h2 with
   |[],h2=>exact absurd (h2 y rfl) c
   |z::r,h2=>obtain⟨u,v,m,p⟩:=jk h y (z::r) (by lia) (λw hw=>h2 w (by rw[aBh];exact hw)) (by simp);exact⟨u,v,by simp only[q9]at m⊢;exact aAe _ m,p⟩
theorem lA:∀(l:List V) (x z w:V),(x::l).getLast?=some z->(z,w)∈q9 (x::l++[w])
 |[],x,z,w,h=>by simp at h;subst h;simp[q9]
 |y::l,x,z,w,h=>by rw[aBh]at h;have:=lA l y z w h;simp only[aBl,q9]at this⊢;exact aAe _ this
theorem gF:∀(l:List V) (x w:V),∀e∈q9 (x::l),e∈q9 (x::l++[w])
 |[],x,w,e,h=>by simp[q9]at h
 |y::l,x,w,e,h=>by
  simp only[aBl,q9]at h⊢;rcases aAd.mp h with q|q
  ·subst q;simp
  ·exact aAe _ (gF l y w e q)
def V5 (ho:pts.Pairwise (λa b=>f6 (b-a)))(hf:IsFace pts n d):∃r s t l,l6 n (u9 n d pts)=r::s::t::l:=by
 have S:=hf.aa2 ho;obtain⟨r,l,e,_⟩:=S.ab2;match l,e with
 |[],e=>
  have h:(r,r)∈L9 (l6 n<|u9 n d pts):=by rw[e];simp[L9]
  exact absurd rfl (S.pair h).ne
 |[s],e=>
  have h1:(r,s)∈L9 (l6 n<|u9 n d pts):=by rw[e];simp[L9]
  have h2:(s,r)∈L9 (l6 n<|u9 n d pts):=by rw[e];simp[L9]
  have g1:=S.pair h1;have g2:=S.pair h2;obtain⟨X,hX,hx⟩:=hf.ac7 g1;have:=g2.left X hX;have e1:i8 n (r-s) (X-s)=-i8 n (s-r) (X-r):=by simp[i8,d7];grind
  lia
 |s::t::l,e=>exact⟨r,s,t,l,e⟩
def qY (hs:j9 pts)(ho:pts.Pairwise (λa b=>f6 (b-a)))(fs:List (V×Int))(ah:fs≠[])(hf:∀f∈fs,IsFace pts f.1 f.2)(hc:∀f∈fs,∀a b,EdgeOf f.1 (λX=>X∈u9 f.1 f.2 pts) a b->∃g∈fs,EdgeOf g.1 (λX=>X∈u9 g.1 g.2 pts) b a)(hn:IsFace pts n d):(n,d)∈fs:=by
 obtain⟨B,hBd⟩:∃B,B=vG ((u9 n d pts).map (A7 pts)):=⟨_,rfl⟩;have dB:∀m,d7 m B=((u9 n d pts).map λX=>d7 m (A7 pts X)).sum:=λm=>by rw[hBd,oQ,aBk];rfl
 have cn:=dJ hs hn.prim.ne hn.sup;have ub:∀m e,(∀X∈pts,d7 m X<=e)->d7 m B<=((u9 n d pts).length:Int)*R5 pts m e:=λm e hm=>by rw[dB,<-aH];exact BL _ _ _ λX hX=>nE (hm X (d5.mp hX).1)
 have eB:d7 n B=((u9 n d pts).length:Int)*R5 pts n d:=by rw[dB,<-aH];congr 1;exact aDE λX hX=>X3 (d5.mp hX).2
 obtain⟨⟨m,e⟩,hm,htop⟩:=EQ (λf:V×Int=>d7 f.1 B) (λf=>R5 pts f.1 f.2) fs ah λf h=>dJ hs (hf f h).prim.ne (hf f h).sup;have xb:=hf _ hm;have ins:∀a b,EdgeOf m (λX=>X∈u9 m e pts) a b->0<=i8 (A7 pts a) (A7 pts b) B:=λa b hab=>by obtain⟨g,hg,za⟩:=hc _ hm a b hab;exact RT hs xb (hf g hg) hab za (htop g hg)
 have S:=xb.aa2 ho;obtain⟨r,s,t,l,er⟩:=V5 ho xb;have nd:=S.aa4;have pr:=λ{P Q}=>S.aa1 (P:=P) (Q:=Q);rw[er]at pr nd;have rm:r∈l6 m (u9 m e pts):=by rw[er];simp
 have on:∀X∈r::s::t::l,d7 m X=e:=λX hX=>by rw[<-er]at hX;exact(d5.mp<|S.aa3 hX).2
 obtain⟨z,hz⟩:∃z,(s::t::l).getLast?=some z:=by simp[aEN]
 have c1:(r,s)∈L9 (r::s::t::l):=by rw[U9];simp[q9]
 have c2:(z,r)∈L9 (r::s::t::l):=by rw[U9];exact lA _ _ _ _ (by rw[aBh];exact hz)
 have w1:=ins _ _ (pr.mp c1);have w2:=ins _ _ (pr.mp c2);obtain⟨u,v,huv,hu,hv⟩:=jk (λX=>i8 (A7 pts r) (A7 pts X) B) s (t::l) w1 (λy hy=>by
  have:y=z:=Option.some.inj (hy.symm.trans hz);subst this;have e1:i8 (A7 pts r) (A7 pts y) B=-i8 (A7 pts y) (A7 pts r) B:=by simp[i8,d7];grind
  lia) (by simp)
 have c3:(u,v)∈L9 (r::s::t::l):=by rw[U9];have:=gF (t::l) s r _ huv;simp only[aBl,q9]at this⊢;exact aAe _ this
 have g3:=pr.mp c3;have mu:u∈s::t::l/\v∈s::t::l:=by
  have:=huv;have hh:∀(l:List V) (p q:V),(p,q)∈q9 l->p∈l/\q∈l:=λl=>by
   induction l with
   |nil=>intro p q h;simp[q9]at h
   |cons x l ih=>
    intro p q h;match l,h,ih with
    |[],h,_=>simp[q9]at h
    |y::l,h,ih=>
     simp only[q9]at h;rcases aAd.mp h with c|c
     ·cases c;simp
     ·have:=ih p q c;exact⟨aAe _ this.1,aAe _ this.2⟩
  exact hh _ _ _ huv
 have nr:=(aAE.mp nd).1;have ru:r≠u:=λq=>by subst q;exact nr mu.1
 have rv:r≠v:=λq=>by subst q;exact nr mu.2
 have st:=S.strict g3 rm ru rv;have du:=on u (aAe _ mu.1);have dv:=on v (aAe _ mu.2);have dr:=on r (by simp);have D0:=DR hs xb du dv dr st;have w3:=ins _ _ g3;have cram:=GZ B (A7 pts r) (A7 pts u) (A7 pts v);have a1:i8 B (A7 pts u) (A7 pts v)=i8 (A7 pts u) (A7 pts v) B:=by simp[i8,d7];grind
 have a2:i8 B (A7 pts v) (A7 pts r)=-i8 (A7 pts r) (A7 pts v) B:=by simp[i8,d7];grind
 have a3:i8 B (A7 pts r) (A7 pts u)=i8 (A7 pts r) (A7 pts u) B:=by simp[i8,d7];grind
 have a4:i8 (A7 pts r) (A7 pts u) (A7 pts v)=i8 (A7 pts u) (A7 pts v) (A7 pts r):=by simp[i8,d7];grind
 rw[a1,a2,a3,a4]at cram;obtain⟨al,hal⟩:∃al,al=i8 (A7 pts u) (A7 pts v) B:=⟨_,rfl⟩;obtain⟨be,yc⟩:∃be,be=-i8 (A7 pts r) (A7 pts v) B:=⟨_,rfl⟩;obtain⟨ga,hga⟩:∃ga,ga=i8 (A7 pts r) (A7 pts u) B:=⟨_,rfl⟩;obtain⟨De,hDe⟩:∃De,De=i8 (A7 pts u) (A7 pts v) (A7 pts r):=⟨_,rfl⟩;rw[<-hal,<-yc,<-hga,<-hDe]at cram;have al0:0<=al:=by lia
 have be0:0<=be:=by lia
 have ga0:0<=ga:=by lia
 have De0:0<De:=by lia
 have cd:∀f:V,De*d7 f B=ga*d7 f (A7 pts v)+al*d7 f (A7 pts r)+be*d7 f (A7 pts u):=λf=>by
  have:=congrArg (d7 f) cram;rw[aT,aT,t8,t8,t8,t8]at this
  lia
 have q1:=cd m;rw[X3 dr,X3 du,X3 dv]at q1;have q2:=cd n;have cm:=dJ hs xb.prim.ne xb.sup;have pt:∀X∈r::s::t::l,X∈pts:=λX hX=>by rw[<-er]at hX;exact(d5.mp<|S.aa3 hX).1
 have r1:=nE (pts:=pts) (hn.sup r (pt r (by simp)));have r2:=nE (pts:=pts) (hn.sup u<|pt u<|aAe _ mu.1);have r3:=nE (pts:=pts) (hn.sup v<|pt v<|aAe _ mu.2);have s1:=aAD r1 al0;have s2:=aAD r2 be0;have s3:=aAD r3 ga0;obtain⟨L,hL⟩:∃L:Int,L=((u9 n d pts).length:Int):=⟨_,rfl⟩;have ub1:=ub m e xb.sup;rw[<-hL]at eB ub1;have k1:De*L<=al+be+ga:=by
  have:(De*L)*R5 pts n d<=(al+be+ga)*R5 pts n d:=by
   rw[eB]at q2;have e1:De*L*R5 pts n d=De*(L*R5 pts n d):=aEp _ _ _;have e2:(al+be+ga)*R5 pts n d=al*R5 pts n d+be*R5 pts n d+ga*R5 pts n d:=by grind
   lia
  exact aEF this cn
 have k2:De*d7 m B=(al+be+ga)*R5 pts m e:=by rw[q1];grind
 have k3:(De*L)*R5 pts m e<=De*d7 m B:=by rw[k2];exact aBd k1 (aAO cm)
 have k4:L*R5 pts m e<=d7 m B:=by rw[aEp]at k3;exact aEU k3 De0
 have all:∀X∈u9 n d pts,d7 m X=e:=λX hX=>by
  have le:d7 m X<=e:=xb.sup X (d5.mp hX).1;by_cases z:d7 m X=e
  ·exact z
  ·exfalso;have:=AX (λX=>d7 m (A7 pts X)) (λ_=>R5 pts m e) (u9 n d pts) (λY hY=>nE (xb.sup Y (d5.mp hY).1)) ⟨X,hX,NF (len_pos hs) (by lia)⟩;rw[<-dB,aH,<-hL]at this
   lia
 obtain⟨A,hA,B',hB',C,hC,ea,eb,ec,hcr⟩:=hn.three;obtain⟨Z,hZ,hz⟩:=hs.below hn.prim.ne hn.sup;obtain⟨rfl,rfl⟩:=mF hn.prim xb.prim hn.sup xb.sup ea eb ec (all A<|d5.mpr ⟨hA,ea⟩) (all B'<|d5.mpr ⟨hB',eb⟩) (all C<|d5.mpr ⟨hC,ec⟩) hcr hZ hz;exact hm
end G
namespace G
def j8 (pts:List V)(f:V×Int):List V:=l6 f.1 (u9 f.1 f.2 pts)
structure LInv (pts:List V)(p0:V×V)(fs:List (V×Int))(walked:V×V->Prop)(waiting:List (V×V)):Prop where
 face:∀f∈fs,IsFace pts f.1 f.2
 nd:fs.Nodup
 wk:∀e,walked e↔∃f∈fs,e∈L9 (j8 pts f)
 cl:∀f∈fs,∀a b,(a,b)∈L9 (j8 pts f)->(∃g∈fs,(b,a)∈L9 (j8 pts g))\/(b,a)∈waiting
 wt:∀p∈waiting,(∃f∈fs,(p.2,p.1)∈L9 (j8 pts f))\/(fs=[]/\p=p0)
 ne:fs=[]->waiting=[p0]
structure Good (pts:List V)(m:V):Prop where
 solid:j9 pts
 ord:pts.Pairwise (λa b=>f6 (b-a))
 mem:m∈pts
 least:∀X∈pts,X=m\/f6 (X-m)
section
variable{pts:List V} {m:V} (G:Good pts m) {fs:List (V×Int)} {walked:V×V->Prop} {waiting rest:List (V×V)} {p:V×V}
include G
theorem AT:LInv pts (e9 m pts) [] (λ_=>False) [e9 m pts]where
 face:=λf h=>by cases h
 nd:=aCK
 wk:=λe=>⟨λh=>h.elim,λ⟨f,h,_⟩=>by cases h⟩
 cl:=λf h=>by cases h
 wt:=λq h=>.inr ⟨rfl,by simpa using h⟩
 ne:=λ_=>rfl
theorem MU (h:LInv pts (e9 m pts) fs walked waiting)(hW:waiting=rest++[p])(hp:walked p):LInv pts (e9 m pts) fs walked rest:=by
 have hw:∀q,q∈waiting↔q=p\/q∈rest:=λq=>by rw[hW];simp[or_comm]
 obtain⟨f0,hf0,e0⟩:=(h.wk p).mp hp;have ah:fs≠[]:=λe=>by subst e;cases hf0
 refine⟨h.face,h.nd,h.wk,λf hf a b hab=>?_,λq hq=>h.wt q ((hw q).mpr (.inr hq)),λe=>absurd e ah⟩;rcases h.cl f hf a b hab with q|q
 ·exact .inl q
 ·rcases(hw (b,a)).mp q with z|z
  ·subst z;exact .inl ⟨f0,hf0,e0⟩
  ·exact .inr z
theorem wY (h:LInv pts (e9 m pts) fs walked waiting)(hp:p∈waiting)(hn:¬walked p):IsFace pts (b8 p.1 p.2 pts).1 (b8 p.1 p.2 pts).2/\b8 p.1 p.2 pts∉fs/\(fs≠[]->p∈L9 (j8 pts (b8 p.1 p.2 pts))):=by
 rcases h.wt p hp with⟨f,hf,he⟩|⟨e1,e2⟩
 ·have hfc:=h.face f hf;have S:=hfc.aa2 G.ord;have ed:=S.aa1.mp he;obtain⟨t1,t2⟩:=rC hfc.prim.ne hfc.sup (G.solid.below hfc.prim.ne hfc.sup) ed;have S':=t1.aa2 G.ord;have e3:p∈L9 (j8 pts<|b8 p.1 p.2 pts):=S'.aa1.mpr t2;exact⟨t1,λz=>hn ((h.wk p).mpr ⟨_,z,e3⟩),λ_=>e3⟩
 ·subst e1 e2;exact⟨fX G.solid G.ord G.mem G.least,by simp,λz=>absurd rfl z⟩
theorem ML (h:LInv pts (e9 m pts) fs walked waiting)(hW:waiting=rest++[p])(hn:¬walked p){walked':V×V->Prop}(h1:∀e,walked' e↔walked e\/e∈L9 (j8 pts (b8 p.1 p.2 pts)))(h2:∀q,q∈waiting'↔q∈rest\/(q.2,q.1)∈L9 (j8 pts (b8 p.1 p.2 pts))):
  LInv pts (e9 m pts) (fs++[b8 p.1 p.2 pts]) walked' waiting':=by
 have hw:∀q,q∈waiting↔q=p\/q∈rest:=λq=>by rw[hW];simp[or_comm]
 obtain⟨n1,n2,n3⟩:=wY G h ((hw p).mpr (.inl rfl)) hn;refine⟨λf hf=>?_,?_,λe=>?_,λf hf a b hab=>?_,λq hq=>?_,λe=>by simp at e⟩
 ·rcases aAN.mp hf with z|z
  ·exact h.face f z
  ·have:f=b8 p.1 p.2 pts:=by simpa using z
   subst this;exact n1
 ·rw[aCS];exact⟨h.nd,by simp,λa ha b hb=>λe=>by
   have:b=b8 p.1 p.2 pts:=by simpa using hb
   subst e this;exact n2 ha⟩
 ·rw[h1,h.wk];constructor
  ·rintro(⟨f,hf,he⟩|he)
   ·exact⟨f,aBB _ hf,he⟩
   ·exact⟨_,aAF _ (by simp),he⟩
  ·rintro⟨f,hf,he⟩;rcases aAN.mp hf with z|z
   ·exact .inl ⟨f,z,he⟩
   ·have:f=b8 p.1 p.2 pts:=by simpa using z
    subst this;exact .inr he
 ·rcases aAN.mp hf with z|z
  ·rcases h.cl f z a b hab with⟨g,hg,e⟩|q
   ·exact .inl ⟨g,aBB _ hg,e⟩
   ·rcases(hw (b,a)).mp q with y|y
    ·have ah:fs≠[]:=λe=>by subst e;cases z
     exact .inl ⟨b8 p.1 p.2 pts,aAF _ (by simp),by rw[y];exact n3 ah⟩
    ·exact .inr ((h2 _).mpr (.inl y))
  ·have:f=b8 p.1 p.2 pts:=by simpa using z
   subst this;exact .inr ((h2 _).mpr (.inr hab))
 ·rcases(h2 q).mp hq with z|z
  ·rcases h.wt q ((hw q).mpr (.inr z))with⟨f,hf,e⟩|⟨e1,e2⟩
   ·exact .inl ⟨f,aBB _ hf,e⟩
   ·have:=h.ne e1;exfalso;rw[hW]at this;have hl:=congrArg List.length this;simp at hl;subst hl;cases z
  ·exact .inl ⟨_,aAF _ (by simp),z⟩
theorem JR (h:LInv pts (e9 m pts) fs walked []):fs≠[]/\∀n d,(n,d)∈fs↔IsFace pts n d:=by
 have ah:fs≠[]:=λe=>by have:=h.ne e;cases this
 refine⟨ah,λn d=>⟨λhf=>h.face _ hf,λhf=>?_⟩⟩;refine qY G.solid G.ord fs ah h.face (λf hf a b hab=>?_) hf;have S:=(h.face f hf).aa2 G.ord;rcases h.cl f hf a b (S.aa1.mpr hab)with⟨g,hg,e⟩|q
 ·exact⟨g,hg,((h.face g hg).aa2 G.ord).aa1.mp e⟩
 ·cases q
end
def jW (h:IsFace pts n d):∃A∈pts,∃B∈pts,∃C∈pts,cr (B-A) (C-A)≠0/\j6 A B C=(n,d):=by
 obtain⟨A,hA,B,hB,C,hC,a,b,c,e⟩:=h.three;have key:∀B∈pts,∀C∈pts,d7 n B=d->d7 n C=d->cr (B-A) (C-A)≠0->0<d7 n (cr (B-A)<|C-A)->j6 A B C=(n,d):=λB hB C hC b c e pos=>by
  obtain⟨g,g0,ge,gp,gd⟩:=pF e;have p:cr n (cr (B-A)<|C-A)=0:=S4 (by rw[i9];lia) (by rw[i9];lia);obtain⟨k,l,hk,e1⟩:=B6 h.prim.ne p;have hl:0<l:=by
   have q:=congrArg (d7 n) e1;rw[t8,t8]at q;have:=aBe hk pos;have hn:=x5 h.prim.ne;by_cases z:0<l
   ·exact z
   ·have:=aBd (show l<=0 by lia) (aAO hn);simp at this;lia
  rw[ge]at e1;have e2:(k*g)*(j6 A B C).1=l*n:=by rw[<-e1];apply ext<;>simp<;>grind
  have e3:=CP gp h.prim (aBe hk g0) hl e2;refine aFJ e3 ?_;rw[gd,e3];exact a
 by_cases z:0<d7 n (cr (B-A)<|C-A)
 ·exact⟨A,hA,B,hB,C,hC,e,key B hB C hC b c e z⟩
 ·have sw:cr (C-A) (B-A)=-cr (B-A) (C-A):=by apply ext<;>simp<;>grind
  have e':cr (C-A) (B-A)≠0:=λq=>e (by rw[sw]at q;have q1:=congrArg V.x q;have q2:=congrArg V.y q;have q3:=congrArg V.z q;simp only[kw,lq,gw,X9,X5,Y2]at q1 q2 q3;exact ext (by simp only[X9];lia) (by simp only[X5];lia) (by simp only[Y2];lia))
  have ah:d7 n (cr (B-A)<|C-A)≠0:=λq=>e (bM h.prim.ne (by rw[i9];lia) (by rw[i9];lia) q);refine⟨A,hA,C,hC,B,hB,e',key C hC B hB c b e' ?_⟩;have:d7 n (cr (C-A)<|B-A)=-d7 n (cr (B-A)<|C-A):=by rw[sw];simp[d7];grind
  lia
def cands (pts:List V):List (V×Int):=pts.flatMap λA=>pts.flatMap λB=>pts.map λC=>j6 A B C
def HR (pts:List V):(cands pts).length=pts.length*(pts.length*pts.length):=by
 unfold cands;have h:∀(l:List V) (f:V->List (V×Int)) (k:Nat),(∀x,(f x).length=k)->(l.flatMap f).length=l.length*k:=λl f k hk=>by
  induction l with
  |nil=>simp
  |cons x l ih=>rw[List.flatMap_cons,aAz,ih,hk,aAu,aFI,Nat.add_comm]
 rw[h pts _ (pts.length*pts.length) λA=>h pts _ pts.length λB=>by simp]
theorem C9 {α:Type}[DecidableEq α]:∀{l m:List α},l.Nodup->(∀x∈l,x∈m)->l.length<=m.length
 |[],_,_,_=>aBc _
 |x::l,m,h,hs=>by
  have hx:=hs x (by simp);have h':=aAE.mp h;have:=C9 (l:=l) (m:=m.erase x) h'.2 (λy hy=>by
   have ne:y≠x:=λe=>by subst e;exact h'.1 hy
   exact(aFQ ne).mpr (hs y<|aAe _ hy))
  rw[aFg hx]at this;have:0<m.length:=aDR hx;simp only[aAu]
  lia
def FK {pts:List V}{fs:List (V×Int)}(nd:fs.Nodup)(hf:∀f∈fs,IsFace pts f.1 f.2):fs.length<=pts.length*(pts.length*pts.length):=by rw[<-HR];refine C9 nd λf h=>?_;obtain⟨A,hA,B,hB,C,hC,_,e⟩:=jW (hf f h);unfold cands;rw[aBa];refine⟨A,hA,?_⟩;rw[aBa];exact⟨B,hB,aAi.mpr ⟨C,hC,e⟩⟩
end G
namespace G
section
variable{pts:List V} (hs:j9 pts) (ho:pts.Pairwise (λa b=>f6 (b-a)))
include hs ho
theorem sT (hf:IsFace pts n d)(h:EdgeOf n (λX=>X∈u9 n d pts) a b):
 IsFace pts (b8 b a pts).1 (b8 b a pts).2/\EdgeOf (b8 b a pts).1 (λX=>X∈u9 (b8 b a pts).1 (b8 b a pts).2 pts) b a:=rC hf.prim.ne hf.sup (hs.below hf.prim.ne hf.sup) h
theorem QT (hf:IsFace pts n d)(h1:EdgeOf n (λX=>X∈u9 n d pts) a b)(h2:EdgeOf n (λX=>X∈u9 n d pts) b a):False:=by
 obtain⟨X,hX,hx⟩:=hf.ac7 h1;have:=h2.left X hX;have e1:i8 n (a-b) (X-b)=-i8 n (b-a) (X-a):=by simp[i8,d7];grind
 lia
theorem GO (hf:IsFace pts n d)(hg:IsFace pts m e)(h:EdgeOf n (λX=>X∈u9 n d pts) a b)(ga:d7 m a=e)(gb:d7 m b=e):(m,e)=(n,d)\/(m,e)=b8 b a pts:=by
 obtain⟨pa,da⟩:=d5.mp h.p;obtain⟨pb,db⟩:=d5.mp h.q;obtain⟨f1,b1⟩:=sT hs ho hf h;have hab:d7 n (a-b)=0:=by rw[i9];lia
 have C:=rF (n:=n) hf.prim.ne hab;have ah:a-b≠0:=λq=>h.ne (iP q);obtain⟨P,pP,eP,hP⟩:∃P∈pts,d7 m P=e/\cr (a-b) (P-b)≠0:=by
  by_cases z:∃P∈pts,d7 m P=e/\cr (a-b) (P-b)≠0
  ·exact z
  ·exfalso;obtain⟨A,hA,B,hB,D,hD,eA,eB,eD,hc⟩:=hg.three;have k:∀X∈pts,d7 m X=e->cr (a-b) (X-b)=0:=λX hX dX=>by
    by_cases q:cr (a-b) (X-b)=0
    ·exact q
    ·exact absurd ⟨X,hX,dX,q⟩ z
   have k2:∀X∈pts,d7 m X=e->∀Y∈pts,d7 m Y=e->cr (X-Y) (a-b)=0:=λX hX dX Y hY dY=>by have q1:=k X hX dX;have q2:=k Y hY dY;have a1:=congrArg V.x q1;have a2:=congrArg V.y q1;have a3:=congrArg V.z q1;have b1:=congrArg V.x q2;have b2:=congrArg V.y q2;have b3:=congrArg V.z q2;simp at a1 a2 a3 b1 b2 b3;apply ext<;>simp<;>grind
   exact hc (uG ah (k2 B hB eB A hA eA)<|k2 D hD eD A hA eA)
 have mab:d7 m (a-b)=0:=by rw[i9];lia
 have mP:d7 m (P-b)=0:=by rw[i9];lia
 have par:cr m (cr (a-b)<|P-b)=0:=S4 mab mP;obtain⟨k,l,hk,ek⟩:=B6 hg.prim.ne par;have dl:∀w,k*i8 (a-b) (P-b) w=l*d7 m w:=λw=>by have:=congrArg (λv=>d7 v w) ek;simp only[X0,S7]at this;exact this
 have l0:l≠0:=λq=>hP (by rw[q,u8]at ek;have q1:=congrArg V.x ek;have q2:=congrArg V.y ek;have q3:=congrArg V.z ek;simp only[OO,NA,JW,X9,X5,Y2]at q1 q2 q3;exact ext ((aAw.mp q1).resolve_left (by lia)) ((aAw.mp q2).resolve_left (by lia)) ((aAw.mp q3).resolve_left (by lia)))
 have mle:∀Q∈pts,d7 m (Q-b)<=0:=λQ hQ=>by rw[i9];have:=hg.sup Q hQ;lia
 obtain⟨Z,hZ,hz⟩:=hs.below hf.prim.ne hf.sup;by_cases hl:0<l
 ·
  right;obtain⟨O,hO,eO⟩:∃O∈u9 (b8 b a pts).1 (b8 b a pts).2 pts,0<i8 (b8 b a pts).1 (a-b) (O-b):=f1.ac7 b1;obtain⟨pO,dO⟩:=d5.mp hO;obtain⟨_,e1b⟩:=d5.mp b1.p;obtain⟨_,e1a⟩:=d5.mp b1.q;have t1:i8 (a-b) (P-b) (O-b)<=0:=by
   have q:=dl (O-b);have:=aAD (mle O pO) (aAO hl);rw[aDI]at this;by_cases z:i8 (a-b) (P-b) (O-b)<=0
   ·exact z
   ·have:=aBe hk (show 0<i8 (a-b) (P-b) (O-b)by lia);lia
  have par2:cr (b8 b a pts).1 (cr (a-b)<|O-b)=0:=S4 (by rw[i9];lia) (by rw[i9];lia);obtain⟨k',l',kr,ek'⟩:=B6 f1.prim.ne par2;have dl':∀w,k'*i8 (a-b) (O-b) w=l'*d7 (b8 b a pts).1 w:=λw=>by have:=congrArg (λv=>d7 v w) ek';simp only[X0,S7]at this;exact this
  have ig:0<l':=by
   have q:=congrArg (d7 (b8 b a pts).1) ek';rw[t8,t8]at q;have q2:0<d7 (b8 b a pts).1 (cr (a-b)<|O-b):=eO;have:=aBe kr q2;have hn:=x5 f1.prim.ne;by_cases z:0<l'
   ·exact z
   ·have:=aBd (show l'<=0 by lia) (aAO hn);simp at this;lia
  have t2:i8 (a-b) (O-b) (P-b)<=0:=by
   have q:=dl' (P-b);have h0:d7 (b8 b a pts).1 (P-b)<=0:=by rw[i9];have:=f1.sup P pP;lia
   have:=aAD h0 (aAO ig);rw[aDI]at this;by_cases z:i8 (a-b) (O-b) (P-b)<=0
   ·exact z
   ·have:=aBe kr (show 0<i8 (a-b) (O-b) (P-b)by lia);lia
  have t3:i8 (a-b) (O-b) (P-b)=0:=by rw[l4]at t1;lia
  have q0:=dl' (P-b);rw[t3,aDI]at q0;have onP':d7 (b8 b a pts).1 P=(b8 b a pts).2:=by have:=(aAw.mp q0.symm).resolve_left (by lia);rw[i9]at this;lia
  obtain⟨Z',hZ',hz'⟩:=hs.below hg.prim.ne hg.sup;obtain⟨q1,q2⟩:=mF hg.prim f1.prim hg.sup f1.sup gb ga eP e1b e1a onP' hP hZ' hz';exact aFJ q1 q2
 ·
  left;have og:l<0:=by lia
  obtain⟨O,hO,eO⟩:=hf.ac7 h;obtain⟨pO,dO⟩:=d5.mp hO;rw[nP]at eO;have t1:0<=i8 (a-b) (P-b) (O-b):=by
   have q:=dl (O-b);have h2:0<=l*d7 m (O-b):=by
    have:=aCt (show 0<=-l by lia) (show 0<=-d7 m (O-b)by have:=mle O pO;lia)
    rwa [aFD]at this
   by_cases z:0<=i8 (a-b) (P-b) (O-b)
   ·exact z
   ·have:=aBK hk (show i8 (a-b) (P-b) (O-b)<0 by lia);lia
  have par2:cr n (cr (b-a)<|O-b)=0:=S4 (by rw[i9];lia) (by rw[i9];lia);obtain⟨k',l',kr,ek'⟩:=B6 hf.prim.ne par2;have dl':∀w,k'*i8 (b-a) (O-b) w=l'*d7 n w:=λw=>by have:=congrArg (λv=>d7 v w) ek';simp only[X0,S7]at this;exact this
  have ig:0<l':=by
   have q:=congrArg (d7 n) ek';rw[t8,t8]at q;have q2:0<d7 n (cr (b-a)<|O-b):=eO;have:=aBe kr q2;have hn:=x5 hf.prim.ne;by_cases z:0<l'
   ·exact z
   ·have:=aBd (show l'<=0 by lia) (aAO hn);simp at this;lia
  have t2:i8 (b-a) (O-b) (P-b)<=0:=by
   have q:=dl' (P-b);have h0:d7 n (P-b)<=0:=by rw[i9];have:=hf.sup P pP;lia
   have:=aAD h0 (aAO ig);rw[aDI]at this;by_cases z:i8 (b-a) (O-b) (P-b)<=0
   ·exact z
   ·have:=aBe kr (show 0<i8 (b-a) (O-b) (P-b)by lia);lia
  have e3:i8 (b-a) (O-b) (P-b)=i8 (a-b) (P-b) (O-b):=by simp[i8,d7];grind
  have t3:i8 (b-a) (O-b) (P-b)=0:=by lia
  have q0:=dl' (P-b);rw[t3,aDI]at q0;have onn:d7 n P=d:=by have:=(aAw.mp q0.symm).resolve_left (by lia);rw[i9]at this;lia
  obtain⟨Z',hZ',hz'⟩:=hs.below hg.prim.ne hg.sup;obtain⟨q1,q2⟩:=mF hg.prim hf.prim hg.sup hf.sup gb ga eP db da onn hP hZ' hz';exact aFJ q1 q2
end
end G
namespace M
open PySem L2 DL
def pS:D->Option G.V
 |.tup [.int a,.int b,.int c]=>some ⟨a,b,c⟩
 |_=>none
@[simp]def mE (v:G.V):pS (vd v)=some v:=rfl
def jY (h:pS d=some v):d=vd v:=by
 unfold pS at h;split at h
 ·cases h;rfl
 ·cases h
def D5:List D->Option (List G.V)
 |[]=>some []
 |d::ds=>match pS d,D5 ds with
  |some v,some vs=>some (v::vs)
  |_,_=>none
@[simp]theorem t5:∀vs:List G.V,D5 (vs.map vd)=some vs
 |[]=>rfl
 |v::vs=>by rw[aAv,D5,mE,t5 vs]
theorem n9:∀{ds:List D} {vs:List G.V},D5 ds=some vs->ds=vs.map vd
 |[],vs,h=>by cases h;rfl
 |d::ds,vs,h=>by
  unfold D5 at h;split at h
  ·rename_i v ws h1 h2;cases h;rw[jY h1,n9 h2];rfl
  ·cases h
def bK (h:vd u=vd v):u=v:=by
 have:pS (vd u)=pS (vd v):=by rw[h]
 simpa using this
def QU {u v:List G.V}(h:u.map vd=v.map vd):u=v:=by
 have:D5 (u.map vd)=D5 (v.map vd):=by rw[h]
 simpa using this
def N9 (n:Nat)(pts:List G.V):Prop:=(∀P∈pts,Sz n P)/\pts.length<=1000
def zR:Option G.V->D
 |some v=>vd v
 |none=>.non
def y6:List D->R D
 |[.lst xs]=>match D5 xs with
  |some ws=>.ok (zR (G.z7 ws))
  |none=>.bad
 |_=>.bad
open Classical in
def B4:List D->R D
 |[.lst xs]=>match D5 xs with
  |some pts=>if pts≠[]/\N9 1000 pts then .ok (.int (G.R7 pts))else .bad
  |none=>.bad
 |_=>.bad
open Classical in
def D3:List D->R D
 |[.lst xs]=>match D5 xs with
  |some pts=>if N9 1000 pts/\G.R7 pts=3 then .ok .non else .bad
  |none=>.bad
 |_=>.bad
open Classical in
def x9:List D->R D:=v4 λa b c d=>OQ λxs=>uW (match D5 xs with
 |some pts=>if Sz 10000 ⟨a,b,c⟩/\N9 1000 pts then .ok (.lst ((G.u9 ⟨a,b,c⟩ d pts).map vd))else .bad
 |none=>.bad)
open Classical in
def D1:List D->R D:=oq λys=>OQ λxs=>uW ((v1 λa b c=>v1 λd e f=>uW (match D5 xs with
 |some pts=>if Sz 1000 ⟨a,b,c⟩/\Sz 1000 ⟨d,e,f⟩/\N9 1000 pts/\G.S5 (G.b8 ⟨a,b,c⟩ ⟨d,e,f⟩ pts).1 then .ok (pT (G.b8 ⟨a,b,c⟩ ⟨d,e,f⟩ pts).1 (G.b8 ⟨a,b,c⟩ ⟨d,e,f⟩ pts).2)else .bad
 |none=>.bad)) ys)
abbrev A6 (p:G.V×G.V):D:=.tup [vd p.1,vd p.2]
structure Land (pts:List G.V)(m:G.V):Prop where
 good:G.Good pts m
 sz:N9 900 pts
 few:pts.length<=63
 head:pts.head?=some m
open Classical in
def F8:List D->R D
 |[.lst xs]=>match D5 xs with
  |some (m::pts)=>if Land (m::pts) m then .ok (A6 (G.e9 m (m::pts)))else .bad
  |_=>.bad
 |_=>.bad
open Classical in
def dZ:List D->R D:=v1 λa b c=>v1 λd e f=>v1 λg h i=>v1 λj k l=>uW (
 if Sz 10000 ⟨a,b,c⟩/\Sz 1000 ⟨d,e,f⟩/\Sz 1000 ⟨g,h,i⟩/\Sz 1000 ⟨j,k,l⟩then .ok (.int (G.turn ⟨a,b,c⟩ ⟨d,e,f⟩ ⟨g,h,i⟩ ⟨j,k,l⟩))else .bad)
open Classical in
def R8:List D->R D:=v1 λa b c=>OQ λxs=>uW (match D5 xs with
 |some pts=>if Sz 10000 ⟨a,b,c⟩/\N9 1000 pts then .ok (.lst ((G.y9 ⟨a,b,c⟩ pts).reverse.map vd))else .bad
 |none=>.bad)
open Classical in
def N1:List D->R D:=v1 λa b c=>OQ λxs=>uW (match D5 xs with
 |some pts=>if Sz 10000 ⟨a,b,c⟩/\N9 1000 pts then .ok (.lst ((G.l6 ⟨a,b,c⟩ pts).map vd))else .bad
 |none=>.bad)
def v6:List D->R D
 |[.lst xs]=>match D5 xs with
  |some pts=>if pts.length<=3000 then .ok (.lst ((G.L9 pts).map A6))else .bad
  |none=>.bad
 |_=>.bad
abbrev l7 (pts:List G.V)(f:G.V×Int):D:=.tup [pT f.1 f.2,.lst ((G.j8 pts f).map vd)]
def cD (pts:List G.V)(fs:List (G.V×Int)):Prop:=(∀f,f∈fs↔G.IsFace pts f.1 f.2)/\lO Q5 (fs.map<|l7 pts)
open Classical in
def k9 (pts:List G.V):List (G.V×Int):=if h:∃fs,cD pts fs then h.choose else[]
def G9:List D->List D->R D
 |[w],[_]=>.ok w
 |_,_=>.bad
def C6:List D->List D->R D
 |[w],[p]=>x9 [p,w]
 |_,_=>.bad
open Classical in
def F1 (d:D) (m1 m2:List D->R D):R D:=match m1 [.non]with
 |.ok (.lst xs)=>match D5 xs with
  |some (m::pts)=>if Land (m::pts) m/\(m::pts).length<=14/\d=A6 (G.e9 m (m::pts))/\m1=G9 [.lst xs]/\m2=C6 [.lst xs]then .ok (.lst ((k9 (m::pts)).map (l7 (m::pts))))else .bad
  |_=>.bad
 |_=>.bad
def c7 (pts:List G.V):List G.V:=(W7<|pts.map vd).filterMap pS
open Classical in
def J6:List D->R D
 |[.lst xs]=>match D5 xs with
  |some pts=>if N9 900 pts/\G.j9 pts/\(c7 pts).length<=14 then .ok (.lst ((k9 (c7 pts)).map (l7 (c7 pts))))else .bad
  |none=>.bad
 |_=>.bad
def YT:D->Option (List G.V)
 |.tup [_,.lst xs]=>D5 xs
 |_=>none
def rN:List D->Option (List (List G.V))
 |[]=>some []
 |d::ds=>match YT d,rN ds with
  |some v,some vs=>some (v::vs)
  |_,_=>none
open Classical in
def F4:List D->R D
 |[.lst xs]=>match rN xs with
  |some rs=>if rs.flatten.length<=3000/\(c7 rs.flatten).length<=63 then .ok (.lst ((c7 rs.flatten).map vd))else .bad
  |none=>.bad
 |_=>.bad
def C0 (pts:List G.V):List G.V:=c7 ((k9<|c7 pts).flatMap (G.j8<|c7 pts))
open Classical in
def Z8:List D->R D
 |[.lst xs]=>match D5 xs with
  |some pts=>if N9 900 pts/\G.j9 pts/\(c7 pts).length<=14 then .ok (.lst ((C0 pts).map vd))else .bad
  |none=>.bad
 |_=>.bad
end M
namespace M
open PySem L2 DL
def xj (v:G.V):FJ (vd v) (.tup [.int 0,.int 0,.int 0])=.ok (.bl (!decide (v=0))):=by rw[kI];congr 3;rw[aDo];simp only[aAI,beq_iff_eq,decide_eq_true_eq,G.mR];exact⟨λh=>h,λh=>h⟩
def eq0 (v:G.V):UT (vd v) (.tup [.int 0,.int 0,.int 0])=.ok (.bl (decide (v=0))):=by rw[YF];congr 2;rw[aDo];simp only[aAI,beq_iff_eq,decide_eq_true_eq,G.mR];exact⟨λh=>h,λh=>h⟩
def S8 (h1:G d ρ=.ok ρ1)(h2:F ρ1=.ok (.nx ρ2)):P1 G F (d::ds) ρ=P1 G F ds ρ2:=by rw[P1,h1];dsimp only;rw[h2]
def iT (h1:G d ρ=.ok ρ1)(h2:F ρ1=.ok (.rt x)):P1 G F (d::ds) ρ=.ok (.rt x):=by rw[P1,h1];dsimp only;rw[h2]
theorem M3 {α:Type}(rep:α->D)(p:α->Bool)(g:α->D):∀(l:List α),(∀a∈l,∃ρ1,G (rep a) ρ=.ok ρ1/\ft ρ1=.ok (p a)/\(p a=true->fe ρ1=.ok (g a)))->u5 G ft fe ρ (l.map rep)=.ok ((l.filter p).map g)
 |[],_=>rfl
 |a::l,h=>by
  obtain⟨ρ1,h1,h2,h3⟩:=h a (.head _);have ih:=M3 rep p g l λb hb=>h b (.tail _ hb);rw[aAv,u5,h1];dsimp only;rw[h2,R.aa0,ih];cases hp:p a with
  |false=>rw[if_neg (by decide),List.filter_cons_of_neg (by simp[hp])]
  |true=>rw[if_pos rfl,h3 hp,R.aa0,R.aa0,List.filter_cons_of_pos hp];rfl
def F7 {α:Type}(rep:α->D)(g:α->D)(l:List α)(h:∀a∈l,∃ρ1,G (rep a) ρ=.ok ρ1/\fe ρ1=.ok (g a)):u5 G (λ_=>.ok true) fe ρ (l.map rep)=.ok (l.map g):=by
 have:=M3 rep (G:=G) (ft:=λ_=>.ok true) (fe:=fe) (ρ:=ρ) (λ_=>true) g l λa ha=>let⟨ρ1,h1,h2⟩:=h a ha;⟨ρ1,h1,rfl,λ_=>h2⟩
 rw[this,List.filter_eq_self.mpr λ_ _=>rfl]
def small (h:n<=1000):n<=sizeLine:=aAo h (by decide)
def MJ (h:n<=3000):n<=sizeLine:=aAo h (by decide)
def N9.sub (h:N9 n pts)(hs:∀P∈qs,P∈pts)(hl:qs.length<=pts.length):N9 n qs:=⟨λP hP=>h.1 P (hs P hP),aAo hl h.2⟩
def N9.mono (h:N9 m pts)(hm:m<=n:=by decide):N9 n pts:=⟨λP hP=>(h.1 P hP).mono hm,h.2⟩
def vk (t:Int):(sgn t==0)=decide (t=0):=by
 unfold sgn;by_cases h:0<t
 ·rw[if_pos h];simp;lia
 ·rw[if_neg h];by_cases h2:t<0
  ·rw[if_pos h2];simp;lia
  ·rw[if_neg h2];simp;lia
def iJ (h1:Sz 10000 n)(h2:N9 1000 pts):x9 [pT n d,.lst (pts.map vd)]=.ok (.lst ((G.u9 n d pts).map vd)):=by simp only[x9,v4,OQ,uW,t5];exact if_pos ⟨h1,h2⟩
def KP (h1:pts≠[])(h2:N9 1000 pts):B4 [.lst (pts.map vd)]=.ok (.int (G.R7 pts)):=by simp only[B4,t5];exact if_pos ⟨h1,h2⟩
def BR (ws:List G.V):y6 [.lst (ws.map vd)]=.ok (zR (G.z7 ws)):=by simp only[y6,t5]
def AJ (bs:List Bool):cB (bs.map D.bl)=some bs:=by
 induction bs with
 |nil=>rfl
 |cons b bs ih=>rw[aAv,cB,ih];rfl
def WV (bs:List Bool):anyR [.lst (bs.map D.bl)]=.ok (.bl (bs.any id)):=by simp only[anyR,AJ]
def QB (xs:List D):NH (.lst xs) none (some (-1))=.ok (.lst xs.dropLast):=by
 show R.ok (D.lst<|cutD xs none<|some (-1))=_;unfold cutD HT.sIx;rw[aDX];simp;congr 1
 lia
def OW (xs:List D):NH (.lst xs) (some 1) none=.ok (.lst xs.tail):=by
 show R.ok (D.lst<|cutD xs (some 1) none)=_;unfold cutD HT.sIx;cases xs with
 |nil=>rfl
 |cons a l=>simp
def XF (xs:List D):NH (.lst xs) none (some 1)=.ok (.lst (xs.take 1)):=by
 show R.ok (D.lst<|cutD xs none<|some 1)=_;unfold cutD HT.sIx;cases xs with
 |nil=>rfl
 |cons a l=>simp
def UR (xs:List D)(a b:D):lP (xs++[a,b]) (-1)=some b:=by
 have hl:(xs++[a,b]).length=xs.length+2:=by simp
 unfold lP yW;rw[hl,if_neg (by decide),if_pos (by lia)];show(xs++[a,b])[((-1:Int)+((xs.length+2:Nat):Int)).toNat]?=_;have:((-1:Int)+((xs.length+2:Nat):Int)).toNat=xs.length+1:=by lia
 rw[this,aAx (by lia),show xs.length+1-xs.length=1 by lia];rfl
def UP (xs:List D)(a b:D):lP (xs++[a,b]) (-2)=some a:=by
 have hl:(xs++[a,b]).length=xs.length+2:=by simp
 unfold lP yW;rw[hl,if_neg (by decide),if_pos (by lia)];show(xs++[a,b])[((-2:Int)+((xs.length+2:Nat):Int)).toNat]?=_;have:((-2:Int)+((xs.length+2:Nat):Int)).toNat=xs.length:=by lia
 rw[this,aAx (by lia),Nat.sub_self];rfl
def ZS (a:D)(xs:List D):lP (a::xs) 0=some a:=by rw[Y8 (by decide)];rfl
def jq (a b:D)(xs:List D):lP (a::b::xs) 1=some b:=by rw[Y8 (by decide)];rfl
def QV {P Q R:G.V}(h:G.S5 (G.j6 P Q R).1):G.cr (Q-P) (R-P)≠0:=λe=>by
 have:(G.j6 P Q R).1=0:=by show G.gE (G.cr (Q-P)<|R-P) _=0;rw[e];rfl
 rw[this]at h;unfold G.S5 at h;exact absurd h (by decide)
theorem xK:∀{c:List G.V},(G.V8 n P c).length<=c.length
 |[]=>aAg _
 |[a]=>aAg _
 |b::a::r=>by
  unfold G.V8;split
  ·exact aAo (xK (c:=a::r)) (by simp)
  ·exact aAg _
theorem oZ:∀(qs c:List G.V),(qs.foldl (λc P=>P::G.V8 n P c) c).length<=qs.length+c.length
 |[],c=>by simp
 |P::qs,c=>by refine aAo (oZ qs _) ?_;have:=xK (n:=n) (P:=P) (c:=c);simp;lia
def qV (n:G.V)(ps:List G.V):(G.y9 n ps).length<=ps.length:=by simpa[G.y9]using oZ (n:=n) ps []
theorem qL {α β:Type}(f:α->D):∀(xs ys:List α),jK (xs.map f) (ys.map f)=(xs.zip ys).map λp=>D.tup [f p.1,f p.2]
 |[],_=>by simp[jK]
 |_::_,[]=>by simp[jK]
 |x::xs,y::ys=>by have:=qL (β:=β) f xs ys;simp only[jK]at this⊢;simp[this]
def UV (h1:Sz 10000 n)(h2:N9 1000 pts):R8 [vd n,.lst (pts.map vd)]=.ok (.lst ((G.y9 n pts).reverse.map vd)):=by simp only[R8,v1,OQ,uW,t5];exact if_pos ⟨h1,h2⟩
def EI {n P Q R:G.V}(h:Sz 10000 n)(h1:Sz 1000 P)(h2:Sz 1000 Q)(h3:Sz 1000 R):dZ [vd n,vd P,vd Q,vd R]=.ok (.int (G.turn n P Q R)):=if_pos ⟨h,h1,h2,h3⟩
def U6 (h1:Sz 1000 A)(h2:Sz 1000 B)(h3:N9 1000 pts)(h4:G.S5 (G.b8 A B pts).1):D1 [.tup [vd A,vd B],.lst (pts.map vd)]=.ok (pT (G.b8 A B pts).1 (G.b8 A B pts).2):=by simp only[D1,oq,OQ,v1,uW,t5];exact if_pos ⟨h1,h2,h3,h4⟩
def SS (h1:Sz 10000 n)(h2:N9 1000 pts):N1 [vd n,.lst (pts.map vd)]=.ok (.lst ((G.l6 n pts).map vd)):=by simp only[N1,v1,OQ,uW,t5];exact if_pos ⟨h1,h2⟩
def xH (h:pts.length<=3000):v6 [.lst (pts.map vd)]=.ok (.lst ((G.L9 pts).map A6)):=by simp only[v6,t5];exact if_pos h
def DA (h:a.length+b.length<=sizeLine):lV (.lst a) (.lst b)=.ok (.lst (a++b)):=if_pos h
end M
namespace G
def xD (hs:j9 pts)(hm:m∈pts)(hl:∀X∈pts,X=m\/f6 (X-m)):
  S5 (b8 m (m+kk) pts).1/\m∈u9 (b8 m (m+kk) pts).1 (b8 m (m+kk) pts).2 pts/\∃out∈u9 (b8 m (m+kk) pts).1 (b8 m (m+kk) pts).2 pts,m≠out:=by
 have C:ConeM (m+kk-m) (λw=>0<w.x\/(w.x=0/\0<w.y)):=by rw[K0];exact EN
 have ah:m+kk-m≠0:=by rw[K0];intro e;have:=congrArg V.z e;simp[kk]at this
 have hp:∀P∈pts,(0<(P-m).x\/((P-m).x=0/\0<(P-m).y))\/cr (m+kk-m) (P-m)=0:=λP hP=>by
  rw[K0];rcases hl P hP with e|e
  ·right;subst e;rw[w8];apply ext<;>simp
  ·unfold f6 at e;rcases e with e|⟨e1,e|⟨e2,e3⟩⟩
   ·exact .inl (.inl e)
   ·exact .inl (.inr ⟨e1,e⟩)
   ·right;apply ext
    ·simp[kk];simp at e2;lia
    ·simp[kk];simp at e1;lia
    ·simp[kk]
 have hx:∃P∈pts,0<(P-m).x\/((P-m).x=0/\0<(P-m).y):=by
  by_cases z:∃P∈pts,0<(P-m).x\/((P-m).x=0/\0<(P-m).y)
  ·exact z
  ·exfalso;obtain⟨Z,hZ,e⟩:=hs.off (n:=⟨1,0,0⟩) (d:=m.x) (λe=>by have:=congrArg V.x e;simp at this);have w:=(hp Z hZ).resolve_left λq=>z ⟨Z,hZ,q⟩;rw[K0]at w;have:=congrArg V.y w;simp[kk]at this;simp[d7]at e
   lia
 obtain⟨out,g,o1,o2,g0,ge,gp,gd,sup,sB,sO,sP⟩:=U6 C ah hp hx;refine⟨gp,d5.mpr ⟨hm,gd.symm⟩,out,d5.mpr ⟨o1,sO⟩,λe=>?_⟩;subst e;rw[w8]at o2;simp at o2
section
variable{pts:List V} (hs:j9 pts) (ho:pts.Pairwise (λa b=>f6 (b-a)))
include hs ho
theorem OF (hf:IsFace pts f.1 f.2)(hg:IsFace pts g.1 g.2)(h1:(a,b)∈L9 (j8 pts f))(h2:(a,b)∈L9 (j8 pts g)):f=g:=by
 have e1:=(hf.aa2 ho).aa1.mp h1;have e2:=(hg.aa2 ho).aa1.mp h2;obtain⟨f1,b1⟩:=sT hs ho hf e1;rcases GO hs ho hf hg e1 (d5.mp e2.p).2 (d5.mp e2.q).2 with q|q
 ·exact q.symm
 ·exfalso;have:g=b8 b a pts:=q;rw[<-this]at b1;exact QT hs ho hg e2 b1
theorem IK (h:l.Nodup):(L9 l).Nodup:=by
 have:((L9 l).map (·.1)).Nodup:=by
  unfold L9;rw[List.map_fst_zip]
  ·exact h
  ·simp;lia
 exact(aBg.mp this).imp λ{a b} h e=>h (by rw[e])
theorem RQ:(L9 l).length=l.length:=by unfold L9;simp;lia
def FZ (pts:List V)(fs:List (V×Int)):List (V×V):=fs.flatMap λf=>L9 (j8 pts f)
omit hs ho in
theorem MR (fs:List (V×Int)):(FZ pts fs).length=(fs.map λf=>(j8 pts f).length).sum:=by
 induction fs with
 |nil=>rfl
 |cons f fs ih=>show(L9 (j8 pts f)++FZ pts fs).length=_;rw[aAz,ih,aAv,aDP];congr 1;unfold L9;simp;lia
theorem oR:∀{fs:List (V×Int)},fs.Nodup->(∀f∈fs,IsFace pts f.1 f.2)->(FZ pts fs).Nodup
 |[],_,_=>aCK
 |f::fs,nd,hf=>by have n1:=aAE.mp nd;have h1:=hf f (.head _);show(L9 (j8 pts f)++FZ pts fs).Nodup;rw[aCS];refine⟨IK hs ho ((h1.aa2 ho).aa4),oR n1.2 λg hg=>hf g (.tail _ hg),λe he e' xn q=>?_⟩;subst q;obtain⟨g,hg,lu⟩:=aBa.mp xn;exact n1.1 (OF hs ho h1 (hf g<|.tail _ hg) (a:=e.1) (b:=e.2) he lu▸hg)
theorem eI {fs:List (V×Int)}(nd:fs.Nodup)(hf:∀f∈fs,IsFace pts f.1 f.2):(fs.map λf=>(j8 pts f).length).sum+pts.length<=pts.length*pts.length:=by
 have npts:pts.Nodup:=ho.imp λ{a b} h e=>by subst e;exact N4 h
 have h1:=oR hs ho nd hf;have h2:(FZ pts fs++pts.map λa=>(a,a)).Nodup:=by rw[aCS];refine⟨h1,aBg.mpr (npts.imp λ{a b} h e=>h (Prod.mk.inj e).1),λe he e' xn q=>?_⟩;subst q;obtain⟨g,hg,lu⟩:=aBa.mp he;obtain⟨a,_,rfl⟩:=aAi.mp xn;exact(((hf g hg).aa2 ho).aa1.mp lu).ne rfl
 have h3:∀e∈FZ pts fs++pts.map (λa=>(a,a)),e∈pts.flatMap λa=>pts.map λb=>(a,b):=λe he=>by
  rcases aAN.mp he with he|he
  ·obtain⟨g,hg,lu⟩:=aBa.mp he;have lu:(e.1,e.2)∈L9 (j8 pts g):=lu;have ed:=((hf g hg).aa2 ho).aa1.mp lu;exact aBa.mpr ⟨e.1,(d5.mp ed.p).1,aAi.mpr ⟨e.2,(d5.mp ed.q).1,rfl⟩⟩
  ·obtain⟨a,ha,rfl⟩:=aAi.mp he;exact aBa.mpr ⟨a,ha,aAi.mpr ⟨a,ha,rfl⟩⟩
 have h4:=C9 h2 h3;have h5:(pts.flatMap λa=>pts.map λb=>(a,b)).length=pts.length*pts.length:=by
  have:∀l:List V,(l.flatMap λa=>pts.map λb=>(a,b)).length=l.length*pts.length:=λl=>by
   induction l with
   |nil=>simp
   |cons a l ih=>rw[List.flatMap_cons,aAz,ih,aAl,aAu,aFI];lia
  exact this pts
 rw[aAz,MR,aAl,h5]at h4;exact h4
theorem kT {fs:List (V×Int)}(hf:∀f∈fs,IsFace pts f.1 f.2):3*fs.length<=(fs.map λf=>(j8 pts f).length).sum:=by
 induction fs with
 |nil=>simp
 |cons f fs ih=>
  have:=ih λg hg=>hf g (.tail _ hg);obtain⟨r,s,t,l,e⟩:=V5 ho (hf f<|.head _);have e2:(j8 pts f).length=l.length+3:=by show(l6 f.1 (u9 f.1 f.2 pts)).length=_;rw[e];simp
  rw[aAv,aDP,aAu,e2]
  lia
end
theorem kM:∀(pts:List V) (up out:V),(D7 a A pts up out).2∈pts\/(D7 a A pts up out).2=out
 |[],up,out=>.inr rfl
 |P::Ps,up,out=>by
  unfold D7;split
  ·rcases kM Ps (cr a (P-A)) P with h|h
   ·exact .inl (.tail _ h)
   ·exact .inl (by rw[h];exact .head _)
  ·rcases kM Ps up out with h|h
   ·exact .inl (.tail _ h)
   ·exact .inr h
end G
namespace M
open PySem L2 DL
def MX (a b:G.V):HT.lexLt (flat (vd a)) (flat (vd b))=true↔G.f6 (b-a):=by
 show HT.lexLt [a.x,a.y,a.z] [b.x,b.y,b.z]=true↔_;unfold G.f6;simp only[HT.lexLt,G.VQ,G.VD,G.UW];by_cases h1:a.x=b.x
 ·by_cases h2:a.y=b.y
  ·by_cases h3:a.z=b.z
   ·simp[h1,h2,h3]
   ·simp[h1,h2,h3];try lia
  ·simp[h1,h2];try lia
 ·simp[h1];try lia
def zK {pts:List G.V}(h:pts.Pairwise λa b=>G.f6 (b-a)):OT (pts.map vd):=aBg.mpr (h.imp λ{a b} q=>(MX a b).mpr q)
def VV {pts:List G.V}(h:OT (pts.map vd)):pts.Pairwise λa b=>G.f6 (b-a):=(aBg.mp h).imp λ{a b} q=>(MX a b).mp q
def nU (pts:List G.V):(pts.map vd).all N7=true:=aAW.mpr λd hd=>by obtain⟨v,_,rfl⟩:=aAi.mp hd;rfl
def YL [Tabs]{m:G.V}{pts:List G.V}(h:(m::pts).Pairwise λa b=>G.f6 (b-a)):OK [.lst ((m::pts).map vd)]=.ok (vd m):=by show(if(m::pts).map vd≠[]/\((m::pts).map vd).all N7=true then _ else _)=_;rw[if_pos ⟨by simp,nU _⟩,PJ (zK h) _ (by simp)];rfl
def mY {P Q R:G.V}(p:Sz 1000 P)(q:Sz 1000 Q)(r:Sz 1000 R):Sz 2003 (G.j6 P Q R).1:=by
 have sC:=(q.sub p).cr (r.sub p);by_cases hc:G.cr (Q-P) (R-P)=0
 ·have:(G.j6 P Q R).1=0:=by show G.gE (G.cr (Q-P)<|R-P) _=0;rw[hc];rfl
  rw[this];exact⟨by decide,by decide,by decide⟩
 ·obtain⟨g0,g1,g2⟩:=G.dG hc;have f1:=bits_fdiv (b:=(G.u7 (G.cr (Q-P)<|R-P):Int)) sC.1;have f2:=bits_fdiv (b:=(G.u7 (G.cr (Q-P)<|R-P):Int)) sC.2.1;have f3:=bits_fdiv (b:=(G.u7 (G.cr (Q-P)<|R-P):Int)) sC.2.2;rw[oU g0]at f1 f2 f3;exact⟨f1,f2,f3⟩
def xU {A B:G.V}{pts:List G.V}(p:Sz 1000 A)(q:Sz 1000 B)(r:N9 1000 pts):Sz 2003 (G.b8 A B pts).1:=by
 unfold G.b8;rcases G.kM (a:=B-A) (A:=A) pts 0 A with h|h
 ·exact mY p q (r.1 _ h)
 ·rw[h];exact mY p q p
def bw (m:G.V):vd (m+G.kk)=.tup [.int m.x,.int m.y,.int (m.z+1)]:=by simp[G.kk]
def OC (h:Sz 900 m):Sz 1000 (m+G.kk):=(h.add (v:=G.kk) ⟨by decide,by decide,by decide⟩).mono
def IZ (h:N9 k pts):N9 k (G.u9 n d pts):=h.sub (λP hP=>(G.d5.mp hP).1) (List.length_filter_le _ _)
def NK {α:Type}{l:List α}{a b:α}(ha:a∈l)(hb:b∈l)(h:a≠b):∃x y r,l=x::y::r:=by
 match l,ha,hb with
 |[x],ha,hb=>exact absurd ((aAZ.mp ha).trans (aAZ.mp hb).symm) h
 |x::y::r,_,_=>exact⟨x,y,r,rfl⟩
end M
namespace M
open PySem L2 DL
open Classical in
def NU {kvs:List (D×D)}{k v k':D}:k'∈(eU kvs k v).map (·.1)↔k'∈kvs.map (·.1)\/k'=k:=by
 unfold eU;split
 ·rename_i h;rw[aBk];have:((λx=>x.1)∘λp:D×D=>if p.1=k then(p.1,v)else p)=λp=>p.1:=by funext p;simp only[aGf];split<;>rfl
  rw[this];exact⟨.inl,λq=>q.elim id λe=>by rw[e];exact h⟩
 ·rw[aCk,aAN];simp
def NY {kvs:List (D×D)}{k v:D}:(eU kvs k v).length<=kvs.length+1:=by
 unfold eU;split
 ·simp
 ·simp
def SQ {p q:G.V×G.V}(h:A6 p=A6 q):p=q:=by injection h with h;injection h with h1 h2;injection h2 with h2 _;exact aFJ (bK h1) (bK h2)
def AB (p:G.V×G.V):Q9 7 (A6 p)=true/\II (A6 p)=true:=⟨rfl,rfl⟩
def ffC:Ev->R Bool:=λρ=>((((pI 5 ρ).bind λd=>R.ok [d]).bind QD).bind λx=>ZN x (D.int 0)).bind EA
def ffS:Ev->R Out:=λρ=>
 C1 ((W9 9 ρ).bind λkd=>vM 4 ρ kd (D.bl true)) λρ=>((((pI 9 ρ).bind λx=>M1 x (D.int 1)).bind λd=>(((pI 9 ρ).bind λx=>M1 x (D.int 0)).bind λd=>R.ok [d]).bind λds=>R.ok (d::ds)).bind Y5).bind (yQ 5 ρ)
theorem CI {a0 a1 a2 a3 a6 a7 a8:Sl}:∀(qs:List (G.V×G.V)) (kvs:List (D×D)) (W:List (G.V×G.V)) (a9:Sl),kvs.length+qs.length<=10000->W.length+qs.length<=10000->
  ∃ir a9',P1 (λd ρ=>R.ok (aCE ρ 9 (Sl.v d))) ffS (qs.map A6) [a0,a1,a2,a3,.d kvs,.o (W.map A6),a6,a7,a8,a9]=.ok (.nx [a0,a1,a2,a3,.d ir,.o ((W++qs.map λq=>(q.2,q.1)).map A6),a6,a7,a8,a9'])/\
   (∀e:G.V×G.V,A6 e∈ir.map (·.1)↔A6 e∈kvs.map (·.1)\/e∈qs)/\ir.length<=kvs.length+qs.length
 |[],kvs,W,a9,_,_=>⟨kvs,a9,by simp,λe=>by simp,by simp⟩
 |q::qs,kvs,W,a9,h1,h2=>by
  simp only[aAu]at h1 h2;have pl:=NY (kvs:=kvs) (k:=A6 q) (v:=.bl true);obtain⟨ir,a9',e,m,l⟩:=CI qs (eU kvs (A6 q)<|.bl true) (W++[(q.2,q.1)]) (.v (A6 q)) (by lia) (by simp;lia);refine⟨ir,a9',?_,λx=>?_,by simp;lia⟩
  ·rw[aAv];refine(S8 (ρ2:=[a0,a1,a2,a3,.d (eU kvs (A6 q)<|.bl true),.o ((W++[(q.2,q.1)]).map A6),a6,a7,a8,.v (A6 q)]) rfl ?_).trans ?_
   ·have hk:kvs.length<=sizeLine:=aAo (show kvs.length<=10000 by lia) (by decide);have hw:(W.map A6).length<sizeLine:=by rw[aAl];exact aDg (show W.length<=10000 by lia) (by decide)
    have d1:vM 4 [a0,a1,a2,a3,.d kvs,.o (W.map A6),a6,a7,a8,.v (A6 q)] (A6 q) (.bl true)=.ok (.nx [a0,a1,a2,a3,.d (eU kvs (A6 q)<|.bl true),.o (W.map A6),a6,a7,a8,.v (A6 q)]):=by show(if _ then _ else _)=_;rw[if_pos ⟨(AB q).1,(AB q).2,hk⟩];rfl
    have d2:yQ 5 [a0,a1,a2,a3,.d (eU kvs (A6 q)<|.bl true),.o (W.map A6),a6,a7,a8,.v (A6 q)] (A6 (q.2,q.1))=.ok (.nx [a0,a1,a2,a3,.d (eU kvs (A6 q)<|.bl true),.o ((W++[(q.2,q.1)]).map A6),a6,a7,a8,.v (A6 q)]):=by show(if _ then _ else _)=_;rw[if_pos hw,aCk];rfl
    show C1 ((R.ok<|A6 q).bind λkd=>vM 4 [a0,a1,a2,a3,.d kvs,.o (W.map A6),a6,a7,a8,.v (A6 q)] kd (D.bl true)) _=_;rw[R.aa0,d1];exact d2
   ·rw[e];simp
  ·rw[m x,NU,aAd];constructor
   ·rintro((h|h)|h)
    ·exact .inl h
    ·exact .inr (.inl (SQ h))
    ·exact .inr (.inr h)
   ·rintro(h|h|h)
    ·exact .inl (.inl h)
    ·exact .inl (.inr (by rw[h]))
    ·exact .inr h
section
variable(Φ:(List D->R D)->Hp->(Addr->Prop)->Addr->Prop)
def qz:Ev->R Out:=λρ=>
 C1 ((AC 5 ρ).bind λz=>R.ok (Out.nx<|aCE z.snd 6<|Sl.v z.fst)) λρ=>
  ((W9 6 ρ).bind (oF 4 ρ)).bind λt=>
   if t=true then
    C1
     ((((W9 6 ρ).bind λd=>((callC Φ 1 (o8 (λρ=>(pI 6 ρ).bind λx=>M1 x (D.int 0)) P3) ρ).bind λd=>R.ok [d]).bind λds=>R.ok (d::ds)).bind D1).bind λd=>R.ok (Out.nx<|aCE ρ 7<|Sl.v d))
     λρ=>
     C1
      (((((pI 7 ρ).bind λx=>NH x none (some 3)).bind λd=>((callC Φ 2 (o8 (W9 7) P3) ρ).bind λd=>R.ok [d]).bind λds=>R.ok (d::ds)).bind N1).bind λd=>R.ok (Out.nx<|aCE ρ 8<|Sl.v d))
      λρ=>
      C1 ((((W9 7 ρ).bind λd=>((W9 8 ρ).bind λd=>R.ok [d]).bind λds=>R.ok (d::ds)).bind Y5).bind (yQ 3 ρ))
       λρ=>((((W9 8 ρ).bind λd=>R.ok [d]).bind v6).bind S1).bind λds=>P1 (λd ρ=>R.ok (aCE ρ 9<|Sl.v d)) ffS ds ρ
   else R.ok (Out.nx ρ)
def yG (L:D) (p0:G.V×G.V) (fs:List D) (kvs:List (D×D)) (W:List (G.V×G.V)) (a b c d:Sl):Ev:=
 [Sl.v (A6 p0),Sl.c (G9 [L]) (Φ<|G9 [L]),Sl.c (C6 [L]) (Φ<|C6 [L]),.o fs,.d kvs,.o (W.map A6),a,b,c,d]
end
def xO {Φ:(List D->R D)->Hp->(Addr->Prop)->Addr->Prop}{i:Nat}{f:Ev->R (List D)}{ρ:Ev}{m:List D->R D}{ds:List D}(h:ρ[i]?=some (.c m (Φ m)))(hf:f ρ=.ok ds):callC Φ i f ρ=m ds:=by unfold callC;rw[h];dsimp only;rw[if_pos rfl,hf];rfl
def fK (pts:List G.V)(fs:List (G.V×Int)):Nat:=(fs.map λf=>(G.j8 pts f).length).sum
def dU (pts:List G.V)(fs:List (G.V×Int))(f:G.V×Int):fK pts (fs++[f])=fK pts fs+(G.j8 pts f).length:=by simp[fK]
def IV {pts:List G.V}{m:G.V}(h:Land pts m):Sz 1000 (G.e9 m pts).1/\Sz 1000 (G.e9 m pts).2:=by
 have sm:Sz 900 m:=h.sz.1 m h.good.mem;obtain⟨hp,tm,out,to,ah⟩:=G.xD h.good.solid h.good.mem h.good.least;unfold G.e9;dsimp only;split
 ·exact⟨sm.mono,OC sm⟩
 ·obtain⟨x,y,r,et⟩:=NK tm to ah;rw[et];have q:∀z∈x::y::r,Sz 1000 z:=λz hz=>by rw[<-et]at hz;exact(h.sz.1 z (G.d5.mp hz).1).mono
  exact⟨q x (.head _),q y (.tail _ (.head _))⟩
def TZ {pts:List G.V}{m:G.V}(h:Land pts m){fs:List (G.V×Int)}{wk:G.V×G.V->Prop}{W:List (G.V×G.V)}(L:G.LInv pts (G.e9 m pts) fs wk W){p:G.V×G.V}(hp:p∈W):Sz 1000 p.1/\Sz 1000 p.2:=by
 rcases L.wt p hp with⟨f,hf,he⟩|⟨_,e⟩
 ·have S:=(L.face f hf).aa2 h.good.ord;have ed:=S.aa1.mp he;exact⟨(h.sz.1 _ (G.d5.mp ed.q).1).mono,(h.sz.1 _ (G.d5.mp ed.p).1).mono⟩
 ·rw[e];exact IV h
def JO {pts:List G.V}{m:G.V}(h:Land pts m){f:G.V×Int}(hf:G.IsFace pts f.1 f.2):(G.j8 pts f).length<=pts.length:=by have S:=hf.aa2 h.good.ord;exact G.C9 S.aa4 λx hx=>(G.d5.mp<|S.aa3 hx).1
def vS {pts:List G.V}{f g:G.V×Int}(h:Q5 (l7 pts f)=Q5 (l7 pts g)):f=g:=by have h:[f.1.x,f.1.y,f.1.z,f.2]=[g.1.x,g.1.y,g.1.z,g.2]:=h;simp only[aEy,and_true]at h;exact aFJ (G.ext h.1 h.2.1 h.2.2.1) h.2.2.2
def pV {α β:Type}{f:α->β}(hf:∀a b,f a=f b->a=b){l:List α}(h:l.Nodup):(l.map f).Nodup:=aBg.mpr (h.imp λ{a b} n e=>n (hf a b e))
def QY {Φ:(List D->R D)->Hp->(Addr->Prop)->Addr->Prop}{pts:List G.V}{m:G.V}(hz:Land pts m){fs:List (G.V×Int)}{kvs:List (D×D)}{W:List (G.V×G.V)}{a b c d:Sl}(L:G.LInv pts (G.e9 m pts) fs (λe=>A6 e∈kvs.map (·.1)) W)
  (hk:kvs.length<=fK pts fs) (hW:W.length<=1+fK pts fs) {n:Nat} (hn:W.length+(pts.length*pts.length-fK pts fs)<n+1) (ah:W≠[]):
  ∃xc ir W' a' b' c' d',qz Φ (yG Φ (.lst (pts.map vd)) (G.e9 m pts) (fs.map (l7 pts)) kvs W a b c d)=.ok (.nx (yG Φ (.lst (pts.map vd)) (G.e9 m pts) (xc.map (l7 pts)) ir W' a' b' c' d'))/\
   G.LInv pts (G.e9 m pts) xc (λe=>A6 e∈ir.map (·.1)) W'/\ir.length<=fK pts xc/\W'.length<=1+fK pts xc/\W'.length+(pts.length*pts.length-fK pts xc)<n:=by
 obtain⟨rest,p,rfl⟩:∃rest p,W=rest++[p]:=⟨W.dropLast,W.getLast ah,(List.dropLast_concat_getLast ah).symm⟩;have sfew:=G.eI hz.good.solid hz.good.ord L.nd L.face;have few:=hz.few;have nn:pts.length*pts.length<=63*63:=aDW few few;have hsum:fK pts fs+pts.length<=pts.length*pts.length:=sfew;have hlW:(rest++[p]).length=rest.length+1:=by simp
 rw[hlW]at hW hn;have pop:AC 5 (yG Φ (.lst (pts.map vd)) (G.e9 m pts) (fs.map<|l7 pts) kvs (rest++[p]) a b c d)=.ok (A6 p,yG Φ (.lst (pts.map vd)) (G.e9 m pts) (fs.map<|l7 pts) kvs rest a b c d):=by show(match((rest++[p]).map A6)[((rest++[p]).map A6).length-1]? with|some d=>_|none=>_:R (D×Ev))=_;rw[aCk];simp;rfl
 have nin:oF 4 (yG Φ (.lst (pts.map vd)) (G.e9 m pts) (fs.map<|l7 pts) kvs rest (.v (A6 p)) b c d) (A6 p)=.ok (!(open Classical in decide (A6 p∈kvs.map (·.1)))):=by unfold oF;rw[show(yG Φ (.lst (pts.map vd)) (G.e9 m pts) (fs.map<|l7 pts) kvs rest (.v (A6 p)) b c d)[4]?=some (.d kvs)from rfl];dsimp only;rw[if_pos (AB p)]
 have s1:N9 1000 pts:=hz.sz.mono;unfold qz;rw[pop];show∃xc ir W' a' b' c' d',C1 (R.ok<|Out.nx<|yG Φ (.lst (pts.map vd)) (G.e9 m pts) (fs.map<|l7 pts) kvs rest (.v (A6 p)) b c d) _=_/\_;rw[A9];rw[show W9 6 (yG Φ (.lst (pts.map vd)) (G.e9 m pts) (fs.map<|l7 pts) kvs rest (.v (A6 p)) b c d)=.ok (A6 p)from rfl,R.aa0,nin,R.aa0];by_cases hp:A6 p∈kvs.map (·.1)
 ·refine⟨fs,kvs,rest,.v (A6 p),b,c,d,?_,G.MU hz.good L rfl hp,hk,by lia,by lia⟩;rw[decide_eq_true hp];rfl
 ·have hpm:p∈rest++[p]:=by simp
  obtain⟨n1,n2,n3⟩:=G.wY hz.good L hpm hp;obtain⟨sp1,sp2⟩:=TZ hz L hpm;have ab:=U6 sp1 sp2 s1 n1.prim;have asz:=xU sp1 sp2 s1;obtain⟨f,ef⟩:∃f,G.b8 p.1 p.2 pts=f:=⟨_,rfl⟩;rw[ef]at n1 n2 n3 ab asz;have po:=iJ (d:=f.2) asz.mono s1;have ro:=SS (n:=f.1) (pts:=G.u9 f.1 f.2 pts) asz.mono (IZ s1);have rl:=JO hz n1;have ro:N1 [vd f.1,.lst ((G.u9 f.1 f.2 pts).map vd)]=.ok (.lst ((G.j8 pts f).map vd)):=ro;have pr:=xH (pts:=G.j8 pts f) (by lia);have L':=λ{wk'} {W'} h1 h2=>G.ML hz.good L (rest:=rest) (p:=p) rfl hp (walked':=wk') (waiting':=W') h1 h2;rw[ef]at L';have nd':(fs++[f]).Nodup:=by
   have:=(L' (wk':=λe=>A6 e∈kvs.map (·.1)\/e∈G.L9 (G.j8 pts f)) (W':=rest++(G.L9<|G.j8 pts f).map λq=>(q.2,q.1)) (λe=>Iff.rfl) (λq=>by
    rw[aAN,aAi];constructor
    ·rintro(h|⟨x,hx,rfl⟩)
     ·exact .inl h
     ·exact .inr hx
    ·rintro(h|h)
     ·exact .inl h
     ·exact .inr ⟨_,h,rfl⟩))
   exact this.nd
  have sfew2:fK pts (fs++[f])+pts.length<=pts.length*pts.length:=G.eI hz.good.solid hz.good.ord nd' λg hg=>by
   rcases aAN.mp hg with z|z
   ·exact L.face g z
   ·rw[aAZ.mp z];exact n1
  rw[dU]at sfew2;have clen:(G.L9<|G.j8 pts f).length=(G.j8 pts f).length:=by unfold G.L9;simp;lia
  obtain⟨ir,a9',run,mem',len'⟩:=CI (a0:=Sl.v (A6<|G.e9 m pts)) (a1:=Sl.c (G9 [.lst (pts.map vd)]) (Φ<|G9 [.lst (pts.map vd)])) (a2:=Sl.c (C6 [.lst (pts.map vd)]) (Φ<|C6 [.lst (pts.map vd)])) (a3:=.o ((fs++[f]).map (l7 pts))) (a6:=.v (A6 p)) (a7:=.v (pT f.1 f.2)) (a8:=.v (.lst ((G.j8 pts f).map vd))) (G.L9<|G.j8 pts f) kvs rest d (by lia) (by lia);refine⟨fs++[f],ir,rest++(G.L9<|G.j8 pts f).map (λq=>(q.2,q.1)),.v (A6 p),.v (pT f.1 f.2),.v (.lst ((G.j8 pts f).map vd)),a9',?_,L' mem' (λq=>?_),?_,?_,?_⟩
  ·have ap:yQ 3 (yG Φ (.lst (pts.map vd)) (G.e9 m pts) (fs.map<|l7 pts) kvs rest (.v (A6 p)) (.v (pT f.1 f.2)) (.v (.lst ((G.j8 pts f).map vd))) d) (l7 pts f)=.ok (.nx (yG Φ (.lst (pts.map vd)) (G.e9 m pts) ((fs++[f]).map (l7 pts)) kvs rest (.v (A6 p)) (.v (pT f.1 f.2)) (.v (.lst ((G.j8 pts f).map vd))) d)):=by show(if(fs.map<|l7 pts).length<sizeLine then _ else _)=_;have h3:=G.kT hz.good.solid hz.good.ord L.face;have h3:3*fs.length<=fK pts fs:=h3;rw[if_pos (by rw[aAl];exact aDg (show fs.length<=4000 by lia) (by decide)),aCk];rfl
   have ca:callC Φ 1 (o8 (λρ=>(pI 6 ρ).bind λx=>M1 x (D.int 0)) P3) (yG Φ (.lst (pts.map vd)) (G.e9 m pts) (fs.map<|l7 pts) kvs rest (.v (A6 p)) b c d)=.ok (.lst (pts.map vd)):=by exact(xO (m:=G9 [.lst (pts.map vd)]) (ds:=[vd p.1]) rfl rfl).trans rfl
   have ct:callC Φ 2 (o8 (W9 7) P3) (yG Φ (.lst (pts.map vd)) (G.e9 m pts) (fs.map<|l7 pts) kvs rest (.v (A6 p)) (.v (pT f.1 f.2)) c d)=.ok (.lst ((G.u9 f.1 f.2 pts).map vd)):=by exact(xO (m:=C6 [.lst (pts.map vd)]) (ds:=[pT f.1 f.2]) rfl rfl).trans po
   have sl:NH (pT f.1 f.2) none (some 3)=.ok (vd f.1):=rfl;rw[decide_eq_false hp];simp only[Bool.not_false,if_true];rw[ca,R.aa0,R.aa0,R.aa0,R.aa0,ab,R.aa0];show C1 (R.ok<|Out.nx<|yG Φ (.lst (pts.map vd)) (G.e9 m pts) (fs.map<|l7 pts) kvs rest (.v (A6 p)) (.v (pT f.1 f.2)) c d) _=_;rw[A9];rw[ct];show C1 ((((R.ok<|pT f.1 f.2).bind λx=>NH x none (some 3)).bind λd=>(R.ok [D.lst ((G.u9 f.1 f.2 pts).map vd)]).bind λds=>R.ok (d::ds)).bind N1|>.bind λd=>R.ok (Out.nx<|aCE _ 8<|Sl.v d)) _=_;rw[R.aa0,sl,R.aa0,R.aa0,R.aa0,ro,R.aa0];show C1 (R.ok<|Out.nx<|yG Φ (.lst (pts.map vd)) (G.e9 m pts) (fs.map<|l7 pts) kvs rest (.v (A6 p)) (.v (pT f.1 f.2)) (.v (.lst ((G.j8 pts f).map vd))) d) _=_;rw[A9];show C1 (yQ 3 (yG Φ (.lst (pts.map vd)) (G.e9 m pts) (fs.map<|l7 pts) kvs rest (.v (A6 p)) (.v (pT f.1 f.2)) (.v (.lst ((G.j8 pts f).map vd))) d)<|l7 pts f) _=_;rw[ap,A9];show((v6 [.lst ((G.j8 pts f).map vd)]).bind S1).bind _=_;rw[pr,R.aa0];exact run
  ·rw[aAN,aAi];constructor
   ·rintro(h|⟨x,hx,rfl⟩)
    ·exact .inl h
    ·exact .inr hx
   ·rintro(h|h)
    ·exact .inl h
    ·exact .inr ⟨_,h,rfl⟩
  ·rw[dU];lia
  ·rw[dU,aAz,aAl];lia
  ·rw[dU,aAz,aAl];lia
end M
namespace M
open PySem L2 DL
def QR (pts:List G.V)(f:G.V×Int):List (G.V×Int)->List (G.V×Int)
 |[]=>[f]
 |x::xs=>if HT.lexLt (Q5 (l7 pts f)) (Q5 (l7 pts x))=true then f::x::xs else x::QR pts f xs
def EO (pts:List G.V)(fs:List (G.V×Int)):List (G.V×Int):=fs.foldr (QR pts) []
theorem yF (pts:List G.V)(f:G.V×Int):∀xs:List (G.V×Int),uH Q5 (l7 pts f) (xs.map (l7 pts))=(QR pts f xs).map (l7 pts)
 |[]=>rfl
 |x::xs=>by
  unfold QR;rw[aAv,uH];split
  ·rfl
  ·rw[aAv,yF pts f xs]
theorem dN (pts:List G.V):∀fs:List (G.V×Int),W6 Q5 (fs.map (l7 pts))=(EO pts fs).map (l7 pts)
 |[]=>rfl
 |f::fs=>by show uH Q5 (l7 pts f) (W6 Q5 (fs.map (l7 pts)))=_;rw[dN pts fs,yF];rfl
def jD (h:l7 pts f=l7 pts g):f=g:=vS (by rw[h])
theorem eY:∀{a b:List (G.V×Int)},a.map (l7 pts)=b.map (l7 pts)->a=b
 |[],[],_=>rfl
 |[],_::_,h=>by cases h
 |_::_,[],h=>by cases h
 |x::a,y::b,h=>by rw[aAv,aAv]at h;injection h with h1 h2;rw[jD h1,eY h2]
def HY:f∈EO pts fs↔f∈fs:=by
 have h:=(w6 Q5<|fs.map<|l7 pts).mem_iff (a:=l7 pts f);rw[dN]at h;constructor
 ·intro q;obtain⟨g,hg,e⟩:=aAi.mp (h.mp<|aBj q);rw[<-jD e];exact hg
 ·intro q;obtain⟨g,hg,e⟩:=aAi.mp (h.mpr<|aBj q);rw[<-jD e];exact hg
def qJ [Tabs]{pts:List G.V}{fs:List (G.V×Int)}(h:fs.Nodup):((fs.map (l7 pts)).map Q5).Nodup:=by rw[aBk];exact pV (λa b e=>vS (pts:=pts) e) h
def M9 (h:lO k l):l.Nodup:=h.imp λ{a b} q e=>by subst e;rw[TS.lex_irrefl]at q;cases q
def S6 {pts:List G.V}{fs:List (G.V×Int)}(h:(fs.map (l7 pts)).Nodup):fs.Nodup:=(aBg.mp h).imp λ{a b} n e=>n (by rw[e])
def vK {pts:List G.V}{fs gs:List (G.V×Int)}(h1:cD pts fs)(h2:cD pts gs):fs=gs:=by
 have n1:=S6 (M9 h1.2);have n2:=S6 (M9 h2.2);have p:fs.Perm gs:=(aCa n1 n2).mpr λf=>by rw[h1.1,h2.1]
 exact eY (T1 h1.2 h2.2 (p.map _))
def pC (h:cD pts fs):k9 pts=fs:=by unfold k9;have q:∃fs,cD pts fs:=⟨fs,h⟩;rw[dif_pos q];exact vK q.choose_spec h
def rO [Tabs]{pts:List G.V}{fs:List (G.V×Int)}(nd:fs.Nodup)(h:∀n d,(n,d)∈fs↔G.IsFace pts n d):cD pts (EO pts fs):=by refine⟨λf=>by rw[HY];exact h f.1 f.2,?_⟩;rw[<-dN];exact M6 (qJ nd)
def bz [Tabs]{Φ:(List D->R D)->Hp->(Addr->Prop)->Addr->Prop}{pts:List G.V}{m:G.V}(hz:Land pts m)(ui:pts.length<=14):
  K7 (C1 (Q8 ffC (qz Φ) 5000 (yG Φ (.lst (pts.map vd)) (G.e9 m pts) [] [] [G.e9 m pts] .no .no .no .no)) λρ=>(((pI 3 ρ).bind fw).bind λds=>R.ok (D.lst ds)).bind λd=>R.ok (Out.rt d))=.ok (.lst ((k9 pts).map (l7 pts))):=by
 refine IL (Iv:=λn ρ=>∃fs kvs W a b c d,ρ=yG Φ (.lst (pts.map vd)) (G.e9 m pts) (fs.map<|l7 pts) kvs W a b c d/\G.LInv pts (G.e9 m pts) fs (λe=>A6 e∈kvs.map (·.1)) W/\kvs.length<=fK pts fs/\W.length<=1+fK pts fs/\W.length+(pts.length*pts.length-fK pts fs)<n) ?_ ?_ ?_ (by rintro ρ ⟨_,_,_,_,_,_,_,_,_,_,_,h⟩;lia)
 ·rintro n ρ ⟨fs,kvs,W,a,b,c,d,rfl,L,hk,hW,hn⟩;by_cases ah:W=[]
  ·subst ah;exact .inl rfl
  ·refine .inr ⟨?_,?_⟩
   ·have hl:(0:Int)<((W.map A6).length:Int):=by have:=aDD.mpr ah;rw[aAl];lia
    show(R.ok<|D.bl<|decide ((0:Int)<((W.map A6).length:Int))).bind EA=_;rw[decide_eq_true hl];rfl
   ·obtain⟨xc,ir,W',a',b',c',d',e,L',kr,hW',hn'⟩:=QY (Φ:=Φ) (a:=a) (b:=b) (c:=c) (d:=d) hz L hk hW hn ah;exact⟨_,e,xc,ir,W',a',b',c',d',rfl,L',kr,hW',hn'⟩
 ·refine⟨[],[],[G.e9 m pts],.no,.no,.no,.no,rfl,?_,aAg _,aAg _,?_⟩
  ·have:=G.AT hz.good;refine⟨this.face,this.nd,λe=>?_,this.cl,this.wt,this.ne⟩;rw[<-this.wk e];simp
  ·have nn:pts.length*pts.length<=14*14:=aDW ui ui;show 1+(pts.length*pts.length-0)<5000
   lia
 ·rintro n ρ ⟨fs,kvs,W,a,b,c,d,rfl,L,hk,hW,hn⟩ hc;have hW0:W=[]:=by
   cases W with
   |nil=>rfl
   |cons p W=>have hc:(R.ok<|D.bl<|decide ((0:Int)<(((p::W).map A6).length:Int))).bind EA=.ok false:=hc;rw[decide_eq_true (by simp;try lia)]at hc;cases hc
  subst hW0;obtain⟨ah,kg⟩:=G.JR hz.good L;have FL:=rO L.nd kg;rw[pC FL];have few:=G.eI hz.good.solid hz.good.ord L.nd L.face;have three:=G.kT hz.good.solid hz.good.ord L.face;have nn:pts.length*pts.length<=14*pts.length:=aEn _ ui;have nh:(fs.map<|l7 pts).length<=63:=by rw[aAl];lia
  have sf:fw (.lst (fs.map<|l7 pts))=.ok ((EO pts fs).map (l7 pts)):=by show(if _ then _ else _)=_;rw[if_pos ⟨aAW.mpr λd hd=>by obtain⟨f,_,rfl⟩:=aAi.mp hd;rfl,qJ L.nd,nh⟩,dN]
  show K7 ((((R.ok<|D.lst<|fs.map<|l7 pts).bind fw).bind λds=>R.ok (D.lst ds)).bind λd=>R.ok (Out.rt d))=_;rw[R.aa0,sf];rfl
end M
namespace M
open PySem L2 DL
theorem CQ:∀{ds:List D},(∀d∈ds,∃v,d=vd v)->(ds.filterMap pS).map vd=ds
 |[],_=>rfl
 |d::ds,h=>by obtain⟨v,rfl⟩:=h d (.head _);rw[List.filterMap_cons_some (mE v),aAv,CQ λd hd=>h d (.tail _ hd)]
section
variable [Tabs]
def MO (pts:List G.V):∀d∈pts.map vd,N7 d=true:=λd hd=>by obtain⟨v,_,rfl⟩:=aAi.mp hd;rfl
def U5 (pts:List G.V):W7 (pts.map vd)=(c7 pts).map vd:=by unfold c7;refine(CQ λd hd=>?_).symm;obtain⟨v,_,rfl⟩:=aAi.mp ((F5 (MO pts) d).mp hd);exact⟨v,rfl⟩
def x2 (pts:List G.V):(c7 pts).Pairwise λa b=>G.f6 (b-a):=VV (by rw[<-U5];exact T5 _)
def LB {v:G.V}{pts:List G.V}:vd v∈pts.map vd↔v∈pts:=by rw[aAi];exact⟨λ⟨u,hu,e⟩=>by rw[<-bK e];exact hu,λh=>⟨v,h,rfl⟩⟩
def l9 {pts:List G.V}{v:G.V}:v∈c7 pts↔v∈pts:=by rw[<-LB,<-U5,F5 (MO pts),LB]
def aS (pts:List G.V):(c7 pts).Nodup:=(x2 pts).imp λ{a b} h e=>by subst e;exact G.N4 h
def kP {a b:List G.V}(ha:a.Pairwise λa b=>G.f6 (b-a))(hb:b.Pairwise λa b=>G.f6 (b-a))(h:∀v,v∈a↔v∈b):a=b:=by refine QU (cV (zK ha) (zK hb) λd=>?_);rw[aAi,aAi];exact⟨λ⟨v,hv,e⟩=>⟨v,(h v).mp hv,e⟩,λ⟨v,hv,e⟩=>⟨v,(h v).mpr hv,e⟩⟩
def VM (h:(c7 pts).length<=63):gk (.lst (pts.map vd))=.ok ((c7 pts).map vd):=by show(if _ then _ else _)=_;rw[if_pos ⟨nU pts,by rw[U5,aAl];exact h⟩,U5]
def dM (h:G.j9 a)(hm:∀v,v∈a->v∈b):G.j9 b:=by obtain⟨A,hA,B,hB,C,hC,D,hD,e⟩:=h;exact⟨A,hm A hA,B,hm B hB,C,hm C hC,D,hm D hD,e⟩
def WC (h:G.j9 pts):G.R7 pts=3:=by
 by_cases e:G.R7 pts=3
 ·exact e
 ·exact absurd h (G.JK e)
def fZ (pts:List G.V):(c7 pts).length<=pts.length:=G.C9 (aS pts) λv hv=>l9.mp hv
def eF (hs:N9 900 pts)(hd:G.j9 pts)(hl:(c7 pts).length<=63):∃m r,c7 pts=m::r/\Land (m::r) m:=by
 have sd:G.j9 (c7 pts):=dM hd λv hv=>l9.mpr hv;cases e:c7 pts with
 |nil=>rw[e]at sd;obtain⟨A,hA,_⟩:=sd;cases hA
 |cons m r=>
  refine⟨m,r,rfl,?_⟩;have so:=x2 pts;rw[e]at sd hl so;refine⟨⟨sd,so,.head _,λX hX=>?_⟩,⟨λP hP=>hs.1 P (l9.mp (by rw[e];exact hP)),by lia⟩,hl,rfl⟩;rcases aAd.mp hX with h|h
  ·exact .inl h
  ·exact .inr ((aAy.mp so).1 X h)
def PV (h1:N9 1000 pts)(h2:G.j9 pts):D3 [.lst (pts.map vd)]=.ok .non:=by simp only[D3,t5];exact if_pos ⟨h1,WC h2⟩
def cq (h:Land (m::pts) m):F8 [.lst ((m::pts).map vd)]=.ok (A6 (G.e9 m (m::pts))):=by simp only[F8,t5];exact if_pos h
def XX (h:Land (m::pts) m)(ui:(m::pts).length<=14):F1 (A6 (G.e9 m (m::pts))) (G9 [.lst ((m::pts).map vd)]) (C6 [.lst ((m::pts).map vd)])=.ok (.lst ((k9 (m::pts)).map (l7 (m::pts)))):=by simp only[F1,show G9 [.lst ((m::pts).map vd)] [.non]=.ok (.lst ((m::pts).map vd))from rfl,t5];exact if_pos ⟨h,ui,rfl,rfl,rfl⟩
def pE (h1:N9 900 pts)(h2:G.j9 pts)(h3:(c7 pts).length<=14):J6 [.lst (pts.map vd)]=.ok (.lst ((k9 (c7 pts)).map (l7 (c7 pts)))):=by simp only[J6,t5];exact if_pos ⟨h1,h2,h3⟩
def OZ (h1:N9 900 pts)(h2:G.j9 pts)(h3:(c7 pts).length<=14):Z8 [.lst (pts.map vd)]=.ok (.lst ((C0 pts).map vd)):=by simp only[Z8,t5];exact if_pos ⟨h1,h2,h3⟩
omit [Tabs]in
theorem ZQ {α:Type}:∀l:List α,∃l':List α,l'.Nodup/\∀x,x∈l'↔x∈l
 |[]=>⟨[],aCK,λ_=>Iff.rfl⟩
 |a::l=>by
  obtain⟨l',nd,h⟩:=ZQ l;by_cases ha:a∈l
  ·exact⟨l',nd,λx=>by rw[h,aAd];exact⟨.inr,λq=>q.elim (λe=>by rw[e];exact ha) id⟩⟩
  ·exact⟨a::l',aAE.mpr ⟨λz=>ha ((h a).mp z),nd⟩,λx=>by rw[aAd,aAd,h]⟩
def Q4 (h:Land pts m)(ui:pts.length<=14):cD pts (k9 pts):=by
 classical
 obtain⟨fs,nd,hfs⟩:=ZQ ((G.cands pts).filter λf=>decide (G.IsFace pts f.1 f.2));have hm:∀n d,(n,d)∈fs↔G.IsFace pts n d:=λn d=>by
  rw[hfs,aDk];constructor
  ·intro q;exact of_decide_eq_true q.2
  ·intro q;refine⟨?_,decide_eq_true q⟩;obtain⟨A,hA,B,hB,C,hC,_,e⟩:=G.jW q;unfold G.cands;rw[<-e];exact aBa.mpr ⟨A,hA,aBa.mpr ⟨B,hB,aAi.mpr ⟨C,hC,rfl⟩⟩⟩
 have FL:=rO nd hm;rw[pC FL];exact FL
theorem kU:∀(xs:List D) (rs:List (List G.V)) (acc:List G.V) (x y:Sl),rN xs=some rs->acc.length+rs.flatten.length<=3000->
  ∃x' y',P1 (bV 2 (G2 (λd ρ=>R.ok (aCE ρ 2 (Sl.v d))) (G2 (λd ρ=>R.ok (aCE ρ 3 (Sl.v d))) fD))) (λρ=>(W9 3 ρ).bind (RB 1 ρ)) xs [a,.o (acc.map vd),x,y]=.ok (.nx [a,.o ((acc++rs.flatten).map vd),x',y'])
 |[],rs,acc,x,y,h,_=>by cases h;exact⟨x,y,by simp⟩
 |d::xs,rs,acc,x,y,h,hl=>by
  unfold rN at h;split at h
  ·rename_i v vs h1 h2;cases h;obtain⟨p,ys,rfl,e1⟩:∃p ys,d=.tup [p,.lst ys]/\D5 ys=some v:=by
    unfold YT at h1;split at h1
    ·exact⟨_,_,rfl,h1⟩
    ·cases h1
   have ey:=n9 e1;subst ey;rw[List.flatten_cons,aAz]at hl;obtain⟨x',y',e⟩:=kU xs vs (acc++v) (.v p) (.v (.lst (v.map vd))) h2 (by rw[aAz];lia);refine⟨x',y',?_⟩;have hz:(acc.map vd).length+(v.map vd).length<=sizeLine:=by rw[aAl,aAl];exact MJ (by lia)
   refine(S8 (ρ1:=[a,.o (acc.map vd),.v p,.v (.lst (v.map vd))]) (ρ2:=[a,.o ((acc++v).map vd),.v p,.v (.lst (v.map vd))]) rfl ?_).trans ?_
   ·show(if(acc.map vd).length+(v.map vd).length<=sizeLine then _ else _)=_;rw[if_pos hz,aCk];rfl
   ·rw[e,List.flatten_cons,aFd]
  ·cases h
theorem kZ (pts:List G.V):∀fs:List (G.V×Int),rN (fs.map (l7 pts))=some (fs.map (G.j8 pts))
 |[]=>rfl
 |f::fs=>by rw[aAv,rN,kZ pts fs];rw[show YT (l7 pts f)=some (G.j8 pts f)from t5 _];rfl
def AW {pts:List G.V}{fs:List (G.V×Int)}(h1:(fs.flatMap (G.j8 pts)).length<=3000)(h2:(c7 (fs.flatMap (G.j8 pts))).length<=63):F4 [.lst (fs.map (l7 pts))]=.ok (.lst ((c7 (fs.flatMap (G.j8 pts))).map vd)):=by have e:(fs.map<|G.j8 pts).flatten=fs.flatMap (G.j8 pts):=rfl;simp only[F4,kZ,e];exact if_pos ⟨h1,h2⟩
def pA (ho:pts.Pairwise λa b=>G.f6 (b-a))(hf:G.IsFace pts f.1 f.2)(h:X∈G.j8 pts f):X∈pts:=(G.d5.mp<|(hf.aa2 ho).aa3 h).1
def nH (h1:N9 900 pts)(h2:G.j9 pts)(h3:(c7 pts).length<=14)(h:X∈C0 pts):X∈pts:=by obtain⟨m,r,e,L⟩:=eF h1 h2 (by lia);unfold C0 at h;rw[l9,aBa]at h;obtain⟨f,hf,hX⟩:=h;rw[e]at hf hX h3;have FL:=Q4 L h3;have:=pA L.good.ord ((FL.1 f).mp hf) hX;rw[<-e,l9]at this;exact this
def rZ (L:Land pts m)(ui:pts.length<=14):((k9 pts).flatMap (G.j8 pts)).length<=200/\(c7 ((k9 pts).flatMap (G.j8 pts))).length<=14:=by
 have FL:=Q4 L ui;have nd:=S6 (M9 FL.2);have few:=G.eI L.good.solid L.good.ord nd λf hf=>(FL.1 f).mp hf;have nn:pts.length*pts.length<=14*14:=aDW ui ui;constructor
 ·rw[List.length_flatMap]
  lia
 ·refine aAo (G.C9 (aS _) λv hv=>?_) ui;rw[l9,aBa]at hv;obtain⟨f,hf,hX⟩:=hv;exact pA L.good.ord ((FL.1 f).mp hf) hX
end
end M
namespace M
open PySem L2 DL
def Z1 (h:0<b):S9 (.int a) (.int b)=.ok (.int (a.fmod b)):=yI (by omega)
def rQ (h:0<b)(h2:b<1000000000000000):O8 (.int a) (.int b)=.ok (.int (a.fdiv b)):=aI ⟨by omega,y3 (K3 (n:=60) (by omega) (by omega))⟩
def V0 {a b:Int}(h:0<b):0<=a.fmod b/\a.fmod b<b:=by have f:=PyProof.Rows.fdiv_fmod_facts a b;have g:=f.2.2.1 h;omega
def O9 (h1:r=.ok (.nx ρ))(h2:K7 (F ρ)=x):K7 (C1 r F)=x:=by rw[h1];exact h2
def rq {n:Nat}(h:n<=1000000):gC [.int (n:Int)]=.ok ((aBy n).map λ(k:Nat)=>D.int (k:Int)):=by
 show(if pD 0 (n:Int) 1 then R.ok (uM 0 1<|gA 0 n 1)else R.bad)=_;rw[if_pos ⟨by decide,by decide,by decide,by decide,by omega,by omega⟩];have e:gA 0 (n:Int) 1=n:=by
  unfold gA;split
  ·simp
  ·omega
 rw[e];unfold uM;congr 1;refine aDE λk _=>?_;simp
end M
namespace DL
open PySem PySem.Spec L2
open PyProof.Rows hiding St
variable [Tabs]
section
variable{P:Program} {w:World} {K:PySem.W.Frag} {mg:cP} {base:Heap}
end
section
variable{X:Cx} {E:XK} {st:Stmt} {rest:List Stmt} {F:Ev->R Out} {G Ga Gb:Ev->Option Value} {pos:Pos}
end
section
variable{K:PySem.W.Frag} {h:Heap} {C:Addr} {bmB:List Value} {newId:String}
end
section
variable{X:Cx} {E:XK} {pos bh np:Pos} {x:Str} {C:Addr} {bmB:List Value} {B newId initId:String}
end
end DL
namespace DL
open PySem PySem.Spec PySem.Calls PySem.W Builtin Builtin.ObjectAttr Builtin.Getset_descriptor
open PyProof.Rows hiding St
section
variable{prog:Program} {w:World} {A:Around} {E:A3} {K:Frag} {h:Heap} {g:Array GenState} {d:Drawn} {t:Nat} {os:OsState} {a C:Addr} {o:Obj}
end
end DL
namespace DL
open PySem PySem.Spec L2
open PyProof.Rows hiding St
variable [Tabs]
section
variable{X:Cx} {pos:Pos}
end
section
variable{X:Cx} {pins:L8} {σ:St} {H H':Hp} {s s':Shared}
end
section
variable{K:PySem.W.Frag} {H9 H:Hp} {O0 O:Addr->Prop} {σ:St} {ρ:Ev}
end
section
variable{X:Cx} {pos qr np:Pos}
end
section
variable{X:Cx} {pos:Pos}
end
section
variable{X:Cx} {pos:Pos}
end
section
def ak {xs es:List Expr}{p:Pos}{env:Env}:starEach (.List xs p::es) env=(false,eval (.List xs p) env)::starEach es env:=rfl
def ZP {xs:List Expr}{p:Pos}{t:Option Expr}{l:Nat}{env:Env}:swapsWith (Expr.List xs p) t l env=pure false:=rfl
end
section
end
section
end
end DL
namespace G
end G
namespace M
open PySem L2 DL
variable [Tabs]
end M
namespace G
section
variable{pts c:List V} (hs:j9 pts) (ho:pts.Pairwise (λa b=>f6 (b-a))) (cg:c.Pairwise (λa b=>f6 (b-a))) (hc:∀X,X∈c↔∃f:V×Int,IsFace pts f.1 f.2/\X∈j8 pts f)
include hs ho cg hc
theorem VI (h:X∈c):X∈pts:=by obtain⟨f,hf,hX⟩:=(hc X).mp h;exact(d5.mp<|(hf.aa2 ho).aa3 hX).1
theorem jX (hf:IsFace pts n d)(h:X∈j8 pts (n,d)):X∈u9 n d c:=by have h2:=(d5.mp<|(hf.aa2 ho).aa3 h).2;exact d5.mpr ⟨(hc X).mpr ⟨(n,d),hf,h⟩,h2⟩
theorem XI (h:X∈u9 n d c):X∈u9 n d pts:=d5.mpr ⟨VI hs ho cg hc (d5.mp h).1,(d5.mp h).2⟩
theorem jC (hf:IsFace pts n d):IsFace c n d:=by
 have S:=hf.aa2 ho;obtain⟨r,s,t,l,e⟩:=V5 ho hf;have hr:r∈l6 n (u9 n d pts):=by rw[e];simp
 have jn:s∈l6 n (u9 n d pts):=by rw[e];simp
 have ht:t∈l6 n (u9 n d pts):=by rw[e];simp
 have nd:=S.aa4;rw[e]at nd;simp only[aAE,aAd,not_or]at nd;have ers:EdgeOf n (λX=>X∈u9 n d pts) r s:=S.aa1.mp (by rw[e];simp[L9]);have st:=S.strict ers ht (λq=>nd.1.2.1 q.symm) (λq=>nd.2.1.1 q.symm);have k:=λ{X} (h:X∈l6 n (u9 n d pts))=>jX hs ho cg hc hf (X:=X) h;refine⟨hf.prim,λX hX=>hf.sup X (VI hs ho cg hc hX),r,(d5.mp<|k hr).1,s,(d5.mp<|k jn).1,t,(d5.mp<|k ht).1,(d5.mp<|k hr).2,(d5.mp<|k jn).2,(d5.mp<|k ht).2,λq=>?_⟩;unfold i8 at st;rw[q,P7]at st
 lia
theorem uI (hf:IsFace pts n d)(h:EdgeOf n (λX=>X∈u9 n d pts) a b):EdgeOf n (λX=>X∈u9 n d c) a b:=by have S:=hf.aa2 ho;have m:=tK S (S.aa1.mpr h);exact⟨jX hs ho cg hc hf m.1,jX hs ho cg hc hf m.2,h.ne,λX hX=>h.left X (XI hs ho cg hc hX),λX hX=>h.btw X (XI hs ho cg hc hX)⟩
omit hs ho cg hc in
theorem oA {R:V->Prop}{E:List (V×V)}(hR:∀a b,R a->(a,b)∈E->R b):∀(x:V) (l:List V),R x->(∀e∈q9 (x::l),e∈E)->∀X∈x::l,R X
 |x,[],hx,_,X,hX=>by rw[aAZ.mp hX];exact hx
 |x,y::l,hx,h,X,hX=>by
  have hy:=hR x y hx (h (x,y) (by simp[q9]));rcases aAd.mp hX with rfl|hX
  ·exact hx
  ·exact oA hR y l hy (λe he=>h e (by simp only[q9,aAd];exact .inr he)) X hX
theorem zB (hf:IsFace pts n d)(h:X∈l6 n (u9 n d c)):X∈l6 n (u9 n d pts):=by
 have S:=hf.aa2 ho;have S2:=(jC hs ho cg hc hf).aa2 cg;obtain⟨m,r,e,hm,hl⟩:=S2.ab2;obtain⟨m',r',e',hm',ig⟩:=S.ab2;have mm:m=m':=by
  have h1:m'∈u9 n d c:=jX hs ho cg hc hf (show m'∈l6 n (u9 n d pts)by rw[e'];simp);rcases hl m' h1 with q|q
  ·exact q.symm
  ·rcases ig m (XI hs ho cg hc hm)with q'|q'
   ·exact q'
   ·exact absurd (A8.add q q') (by
     have:(m'-m)+(m-m')=0:=by apply ext<;>simp<;>lia
     rw[this];exactλz=>by simp[f6]at z)
 have step:∀a b,a∈l6 n (u9 n d pts)->(a,b)∈L9 (l6 n<|u9 n d c)->b∈l6 n (u9 n d pts):=λa b ha hab=>by obtain⟨b',ja⟩:=dI S ha;have e1:=S2.aa1.mp hab;have e2:=uI hs ho cg hc hf (S.aa1.mp ja);rw[e1.next e2];exact(tK S ja).2
 rw[e]at h;refine oA (E:=L9 (l6 n<|u9 n d c)) (R:=λX=>X∈l6 n (u9 n d pts)) step m r (by rw[mm,e'];simp) (λf hf'=>?_) X h;rw[e,U9];exact gF r m m f hf'
theorem wI (hf:IsFace pts n d)(h:EdgeOf n (λX=>X∈u9 n d c) a b):EdgeOf n (λX=>X∈u9 n d pts) a b:=by have S:=hf.aa2 ho;have S2:=(jC hs ho cg hc hf).aa2 cg;have ha:=zB hs ho cg hc hf (S2.ac4 h);obtain⟨b',ja⟩:=dI S ha;have e:=S.aa1.mp ja;rw[h.next (uI hs ho cg hc hf e)];exact e
theorem CU (hf:IsFace pts n d):j9 c:=by
 have S:=hf.aa2 ho;obtain⟨r,s,t,l,e⟩:=V5 ho hf;have hr:r∈l6 n (u9 n d pts):=by rw[e];simp
 have ht:t∈l6 n (u9 n d pts):=by rw[e];simp
 have nd:=S.aa4;rw[e]at nd;simp only[aAE,aAd,not_or]at nd;have ers:EdgeOf n (λX=>X∈u9 n d pts) r s:=S.aa1.mp (by rw[e];simp[L9]);have st:=S.strict ers ht (λq=>nd.1.2.1 q.symm) (λq=>nd.2.1.1 q.symm);obtain⟨hg,eg⟩:=sT hs ho hf ers;generalize(b8 s r pts).1=m at*
 generalize(b8 s r pts).2=f at*
 have T:=hg.aa2 ho;obtain⟨r2,s2,t2,l2,e2⟩:=V5 ho hg;have pf:=T.aa4;rw[e2]at pf;simp only[aAE,aAd,not_or]at pf;obtain⟨Y,hY,y1,y2⟩:∃Y∈l6 m (u9 m f pts),Y≠s/\Y≠r:=by
  have q1:r2∈l6 m (u9 m f pts):=by rw[e2];simp
  have q2:s2∈l6 m (u9 m f pts):=by rw[e2];simp
  have q3:t2∈l6 m (u9 m f pts):=by rw[e2];simp
  by_cases a1:r2≠s/\r2≠r
  ·exact⟨r2,q1,a1⟩
  ·by_cases a2:s2≠s/\s2≠r
   ·exact⟨s2,q2,a2⟩
   ·refine⟨t2,q3,λz=>?_,λz=>?_⟩
    ·subst z;have h1:r2=r:=by
      by_cases h:r2=r
      ·exact h
      ·exact absurd ⟨pf.1.2.1,h⟩ a1
     have h2:s2=r:=by
      by_cases h:s2=r
      ·exact h
      ·exact absurd ⟨pf.2.1.1,h⟩ a2
     exact pf.1.1 (h1.trans h2.symm)
    ·subst z;have h1:r2=s:=by
      by_cases h:r2=s
      ·exact h
      ·exact absurd ⟨h,pf.1.2.1⟩ a1
     have h2:s2=s:=by
      by_cases h:s2=s
      ·exact h
      ·exact absurd ⟨h,pf.2.1.1⟩ a2
     exact pf.1.1 (h1.trans h2.symm)
 have sY:=T.strict eg hY y1 y2;have lt:=LZ hs hg hf eg ers (T.aa3 hY) sY;have k:=λ{X} (h:X∈l6 n (u9 n d pts))=>jX hs ho cg hc hf (X:=X) h;have kY:=jX hs ho cg hc hg hY;have jn:s∈l6 n (u9 n d pts):=by rw[e];simp
 have dr:=(d5.mp<|k hr).2;have dss:=(d5.mp<|k jn).2;have dt:=(d5.mp<|k ht).2;refine⟨r,(d5.mp<|k hr).1,s,(d5.mp<|k jn).1,t,(d5.mp<|k ht).1,Y,(d5.mp kY).1,λz=>?_⟩;have p1:d7 n (s-r)=0:=by rw[i9];lia
 have p2:d7 n (t-r)=0:=by rw[i9];lia
 have pY:d7 n (Y-r)<0:=by rw[i9];lia
 have id:i8 (s-r) (t-r) (Y-r)*d7 n n=i8 n (s-r) (t-r)*d7 n (Y-r)+d7 n (s-r)*(d7 n (t-r)*0)+(d7 n (s-r)*i8 n (t-r) (Y-r)+d7 n (t-r)*i8 n (Y-r) (s-r)):=by generalize s-r=u;generalize t-r=v;generalize Y-r=w;have:=VP n n u v w;simp[i8,d7]at this⊢;grind
 rw[z,p1,p2]at id;have:i8 n (s-r) (t-r)*d7 n (Y-r)<0:=aBK st pY
 lia
theorem RE (fs:List (V×Int))(ah:fs≠[])(hfs:∀f,f∈fs↔IsFace pts f.1 f.2):IsFace c n d↔IsFace pts n d:=by
 refine⟨λh=>?_,jC hs ho cg hc⟩;obtain⟨f0,f0m⟩:=aEV fs ah;have sc:=CU hs ho cg hc ((hfs f0).mp f0m);have:=qY sc cg fs ah (λf hf=>jC hs ho cg hc ((hfs f).mp hf)) (λf hf a b hab=>?_) h
 ·exact(hfs _).mp this
 ·have h1:=(hfs f).mp hf;obtain⟨hg,eg⟩:=sT hs ho h1 (wI hs ho cg hc h1 hab);exact⟨b8 b a pts,(hfs _).mpr hg,uI hs ho cg hc hg eg⟩
theorem JZ (hX:X∈c):∃f:V×Int,IsFace c f.1 f.2/\X∈j8 c f:=by obtain⟨⟨n,d⟩,hf,h⟩:=(hc X).mp hX;have S:=hf.aa2 ho;obtain⟨Q,hQ⟩:=dI S h;exact⟨(n,d),jC hs ho cg hc hf,((jC hs ho cg hc hf).aa2 cg).ac4 (uI hs ho cg hc hf<|S.aa1.mp hQ)⟩
end
end G
namespace M
open PySem L2 DL
variable [Tabs]
def vD {pts:List G.V}(h1:N9 900 pts)(h2:G.j9 pts)(h3:(c7 pts).length<=14):∀X,X∈C0 pts↔∃f:G.V×Int,G.IsFace (c7 pts) f.1 f.2/\X∈G.j8 (c7 pts) f:=λX=>by obtain⟨m,r,e,L⟩:=eF h1 h2 (by lia);unfold C0;rw[l9,aBa];rw[e]at h3⊢;have FL:=Q4 L h3;exact⟨λ⟨f,hf,hX⟩=>⟨f,(FL.1 f).mp hf,hX⟩,λ⟨f,hf,hX⟩=>⟨f,(FL.1 f).mpr hf,hX⟩⟩
def vU {l:List G.V}(h:l.Pairwise λa b=>G.f6 (b-a)):c7 l=l:=kP (x2 _) h λv=>l9
def GN {pts:List G.V}(h1:N9 900 pts)(h2:G.j9 pts)(h3:(c7 pts).length<=14):G.j9 (C0 pts)/\N9 900 (C0 pts)/\c7 (C0 pts)=C0 pts/\(C0 pts).length<=14/\C0 (C0 pts)=C0 pts/\∀n d,G.IsFace (C0 pts) n d↔G.IsFace (c7 pts) n d:=by
 have hc:=vD h1 h2 h3;have cg:(C0 pts).Pairwise λa b=>G.f6 (b-a):=x2 _;have hs:G.j9 (c7 pts):=dM h2 λv hv=>l9.mpr hv;have ho:=x2 pts;obtain⟨m,r,e,L⟩:=eF h1 h2 (by lia);have FL:cD (c7 pts) (k9<|c7 pts):=by have vc:=h3;rw[e]at vc⊢;exact Q4 L vc
 have fl:(C0 pts).length<=14:=by have vc:=h3;unfold C0;rw[e]at vc⊢;exact(rZ L vc).2
 have ah:k9 (c7 pts)≠[]:=λz=>by
  obtain⟨A,hA,_⟩:=hs;have:∃f:G.V×Int,G.IsFace (c7 pts) f.1 f.2:=by have L':=L;rw[<-e]at L';have:=G.fX L'.good.solid L'.good.ord L'.good.mem L'.good.least;exact⟨_,this⟩
  obtain⟨f,hf⟩:=this;have:=(FL.1 f).mpr hf;rw[z]at this;cases this
 obtain⟨f0,hf0⟩:=aEV _ ah;have sc:=G.CU hs ho cg hc ((FL.1 f0).mp hf0);have sz:N9 900 (C0 pts):=⟨λP hP=>h1.1 P (nH h1 h2 h3 hP),by lia⟩;have ss:=vU cg;refine⟨sc,sz,ss,fl,?_,λn d=>G.RE hs ho cg hc _ ah FL.1⟩;refine kP (x2 _) cg λv=>?_;have bm:=vD sz sc (by rw[ss];exact fl) v;show v∈C0 (C0 pts)↔_;rw[bm,ss];constructor
 ·rintro⟨f,hf,hv⟩;exact pA cg hf hv
 ·exactλhv=>G.JZ hs ho cg hc hv
end M
namespace M
open PySem L2 DL
end M
namespace DL
open PySem PySem.Spec L2
def TN {K:Params->PySem.W.Frag}{P c:Addr}{tb:List (Pos×Str)}{ts:List Addr}(h1:P∈ts)(h2:∀w:World,PySem.W.codeHdIn (K w.params) c P=true):∀p∈[(P,tb)],p.1∈ts/\∃c,∀w:World,PySem.W.codeHdIn (K w.params) c p.1=true:=λp hp=>by rw[aAZ.mp hp];exact⟨h1,c,h2⟩
end DL
namespace DL
open PySem PySem.Spec L2
def Got (K:PySem.W.Frag)(x:Str)(st:Stmt):Prop:=∃f fd,PySem.W.nsIn K mainGlobals x=some (some<|.ref f)/\Fun K x x st f fd
def QS (K:PySem.W.Frag)(x:Str)(st:Stmt)(Pt:Addr):Prop:=∃f fd cd,PySem.W.nsIn K mainGlobals x=some (some<|.ref f)/\PySem.W.codeHdIn K cd Pt=true/\FunC K x x st f fd cd
def fA (K:PySem.W.Frag)(mg:cP)(x:Str)(st:Stmt):Prop:=∃f fd,mg x=some (.ref f)/\Fun K x x st f fd
def gx (K:PySem.W.Frag)(mg:cP)(x:Str)(st:Stmt)(Pt:Addr):Prop:=∃f fd cd,mg x=some (.ref f)/\PySem.W.codeHdIn K cd Pt=true/\FunC K x x st f fd cd
section
variable{kV doc pm cdv ct:Value}
def VU (a:PySem.W.nsIn K mainGlobals x=some (some (.ref f)))(l:K.lookup f=some ⟨oc,od,.func (PySem.W.fnOf x x (D6 st) (t9 st) (c8 st) .none kV doc pm an cdv ct),osl⟩)
 (c:PySem.W.codeIn K cdv x=true) (k:PySem.W.keepIn K (.ref f)=true):Got K x st:=⟨f,_,a,JF l c k⟩
def QQ (a:PySem.W.nsIn K mainGlobals x=some (some (.ref f)))(l:K.lookup f=some ⟨oc,od,.func (PySem.W.fnOf x x (D6 st) (t9 st) (c8 st) .none kV doc pm an cdv ct),osl⟩)
 (c:PySem.W.codeIn K cdv x=true) (k:PySem.W.keepIn K (.ref f)=true) (e:cdv=.ref cd) (n:PySem.W.codeHdIn K cd Pt=true):QS K x st Pt:=⟨f,_,cd,a,n,RN l e c k⟩
def Got.def (g:Got K x st)(X:K.In h)(G:h.Ns mainGlobals mg):fA K mg x st:=let⟨f,fd,a,b⟩:=g;⟨f,fd,PySem.W.mg_of X G a,b⟩
def QS.def (g:QS K x st Pt)(X:K.In h)(G:h.Ns mainGlobals mg):gx K mg x st Pt:=let⟨f,fd,cd,a,b⟩:=g;⟨f,fd,cd,PySem.W.mg_of X G a,b⟩
def I0 (h1:sc.kind=.function:=by rfl)(h2:sc.isCoroutine=false:=by rfl)(h3:sc.isGenerator=false:=by rfl)(h4:N.Nodup:=by decide+kernel)(h5:N.take ps.length=ps:=by rfl)(h6:∀x∈ps,sc.names.lookup x=some .local\/sc.names.lookup x=some .cell:=by decide+kernel)(h7:∀y∈sc.names,y.2≠.free:=by decide+kernel):FnScope N ps sc:=⟨h1,h2,h3,h4,h5,h6,h7⟩
variable [Tabs]
def n6 (g:fA K mg x st)(S:FnScope N ps (c8 st))(hb:∀{f:Addr} {cdv:Value} {A:Around} {outer:List Env} {s:Shared} {H:Hp} {E:XK},Room k (A.deeper (aEA x (c8 st) s.heap.objs.size f cdv))->(A.deeper (aEA x (c8 st) s.heap.objs.size f cdv)).units+64<cLine->(A.deeper (aEA x (c8 st) s.heap.objs.size f cdv)).units+130<cLine->N.Nodup->
  aZ (TX P w K mg base N x (c8 st) f cdv A outer s H E) (t9 st) F) (hm:∀ds d,ds.length=ps.length->m ds=.ok d->K7 (F (j5 N ds))=.ok d) (hb0:∀(kV doc pm:Value) (an:Option Addr) (cdv ct:Value) (us:List Value),us.length=ps.length->bindArgs (PySem.W.fnOf x x (D6 st) (t9 st) (c8 st) .none kV doc pm an cdv ct) ⟨us,[]⟩=pure (ps.zip us):=by
  intro _ _ _ _ _ _ us hl;rcases us with _|⟨_,_|⟨_,_|⟨_,_|⟨_,_|⟨_,_|⟨_,_|⟨_,_⟩⟩⟩⟩⟩⟩⟩<;>first|rfl|exact absurd hl (by simp)):x4 P w K mg base (k+1) x ps.length m:=by
 obtain⟨f,fd,oo,F0⟩:=g;exact WK F0 S (F0.binds hb0) oo (λcdv A outer s H E hr=>hb hr hr.units hr.ae3 S.nd) hm
end
end DL
namespace DL
open PySem L2
variable [Tabs]
end DL
namespace M
open PySem L2 DL
variable [Tabs]
def TQ (h:B7 d<=40):FJ d d=.ok (.bl false):=by unfold FJ;rw[if_pos ⟨h,h⟩,P8];rfl
end M
namespace M
open PySem L2 DL
variable [Tabs]
def vV (k:Int):Int:=6*k*k+5*k+8
def aL:List D->R D
 |[.lst xs,.int k]=>if 0<=k/\k<=1000 then .ok (rJ vV xs k)else .bad
 |_=>.bad
def cJ (xs:List D)(k:Int):Int:=match rJ vV xs k with
 |.int i=>i
 |_=>0
def wU (hi:T9 1048576 xs)(k:Int)(h0:0<=k)(h1:k<=100):aL [.lst xs,.int k]=.ok (.int (cJ xs k))/\bits (cJ xs k)<=2000000:=by
 obtain⟨c,e,hb⟩:=GE hi vV k;have ec:cJ xs k=c:=by unfold cJ;rw[e]
 rw[ec];refine⟨(if_pos ⟨h0,by lia⟩).trans (congrArg R.ok e),?_⟩;rcases hb with hb|rfl
 ·exact y3 hb
 ·unfold vV;have k2:0<=k*k:=aCt h0 h0;have k3:k*k<=100*100:=Int.mul_le_mul h1 h1 h0 (by decide);rw[aEp];exact j1 (K3 (n:=30) (by lia) (by lia)) (by decide)
def dw (c w:Int):G.V:=⟨c.fmod w-w.fdiv 2,(c.fdiv w).fmod w-w.fdiv 2,(c.fdiv<|w*w).fmod w-w.fdiv 2⟩
def yx (c:Int)(at_ j:Nat):Int:=(c.fdiv<|5+7*(at_:Int)+(j:Int)).fmod 5-2
def XH (P:G.V)(t:Int)(w:G.V):G.V:=⟨P.x+t*w.x,P.y+t*w.y,P.z+t*w.z⟩
def ptA (c:Int)(b:G.V)(ws:List G.V)(at_:Nat):G.V:=match ws with
 |[]=>b
 |[u]=>XH b (yx c at_ 0) u
 |u::v::_=>XH (XH b (yx c at_ 0) u) (yx c at_ 1) v
def fq (c:Int)(b:G.V)(ws:List G.V)(n:Nat):List G.V:=(aBy n).map (ptA c b ws)
structure Drawn (pts:List G.V):Prop where
 ne:pts≠[]
 len:pts.length<=40
 sz:∀P∈pts,Sz 100 P
 flat:¬G.j9 pts
end M
namespace G
section
variable{n:V} {ts:List V} (S:Sheet n ts)
include S
end
section
variable{pts:List V} (hs:j9 pts)
include hs
end
end G
namespace G
def Up (pts:List V)(A B C:V):Prop:=(∀X∈pts,d7 (cr (B-A)<|C-A) (X-A)<=0)/\∃X∈pts,d7 (cr (B-A)<|C-A) (X-A)<0
def Dn (pts:List V)(A B C:V):Prop:=(∀X∈pts,0<=d7 (cr (B-A)<|C-A) (X-A))/\∃X∈pts,0<d7 (cr (B-A)<|C-A) (X-A)
end G
namespace G
abbrev T3:=V×V×V
def O5 (r:T3)(v:V):V:=⟨d7 r.1 v,d7 r.2.1 v,d7 r.2.2 v⟩
def tr (r:T3):T3:=(⟨r.1.x,r.2.1.x,r.2.2.x⟩,⟨r.1.y,r.2.1.y,r.2.2.y⟩,⟨r.1.z,r.2.1.z,r.2.2.z⟩)
def IP (r:T3):T3:=(cr r.2.1 r.2.2,cr r.2.2 r.1,cr r.1 r.2.1)
def CF (k:Int)(v:V):V:=⟨v.x*k,v.y*k,v.z*k⟩
def HS (f:V->V)(r:T3):T3:=(f r.1,f r.2.1,f r.2.2)
def C3 (r:T3):Int:=d7 r.1 (cr r.2.1 r.2.2)
def wq:T3:=(⟨1,0,0⟩,⟨0,1,0⟩,⟨0,0,1⟩)
def sZ (r:T3):T3:=tr (HS (CF<|C3 r)<|IP r)
def a1e (r:T3):tr (tr r)=r:=rfl
def XN (r:T3):C3 (tr r)=C3 r:=by obtain⟨⟨a,b,c⟩,⟨d,e,f⟩,⟨g,h,i⟩⟩:=r;simp[C3,tr,d7];grind
def RD (r c:T3):C3 (HS (O5 r) c)=C3 r*C3 c:=by obtain⟨⟨a,b,c1⟩,⟨d,e,f⟩,⟨g,h,i⟩⟩:=r;obtain⟨⟨j,k,l⟩,⟨m,n,o⟩,⟨p,q,s⟩⟩:=c;simp[C3,HS,O5,d7];grind
def SN (k:Int)(r:T3):C3 (HS (CF k) r)=k*k*k*C3 r:=by obtain⟨⟨a,b,c⟩,⟨d,e,f⟩,⟨g,h,i⟩⟩:=r;simp[C3,HS,CF,d7];grind
def QL (r:T3):C3 (IP r)=C3 r*C3 r:=by obtain⟨⟨a,b,c⟩,⟨d,e,f⟩,⟨g,h,i⟩⟩:=r;simp[C3,IP,d7];grind
def TF (r:T3)(h:C3 r=1\/C3 r=-1):C3 (sZ r)=C3 r:=by unfold sZ;rw[XN,SN,QL];rcases h with h|h<;>rw[h]<;>rfl
def SV (r:T3)(v:V):O5 (sZ r) (O5 r v)=CF (C3 r*C3 r) v:=by obtain⟨⟨a,b,c⟩,⟨d,e,f⟩,⟨g,h,i⟩⟩:=r;obtain⟨x,y,z⟩:=v;simp[sZ,C3,IP,HS,CF,tr,O5,d7];refine⟨?_,?_,?_⟩<;>grind
def QO (v:V):CF 1 v=v:=by simp[CF]
def yY (h:C3 r=1\/C3 r=-1):C3 r*C3 r=1:=by rcases h with h|h<;>rw[h]<;>rfl
def OV (r:T3)(u v:V):O5 r (u-v)=O5 r u-O5 r v:=by apply ext<;>simp[O5,d7]<;>grind
def RL (r:T3)(u v:V):O5 r (u+v)=O5 r u+O5 r v:=by apply ext<;>simp[O5,d7]<;>grind
abbrev Mv:=T3×V
def j0 (m:Mv)(P:V):V:=O5 m.1 P+m.2
def ZW (m:Mv):Mv:=(sZ m.1,CF (-1) (O5 (sZ m.1) m.2))
def UZ:Mv:=(wq,0)
def G4 (r:T3):Prop:=C3 r=1\/C3 r=-1
def yB (h:G4 r):G4 (sZ r):=by unfold G4;rw[TF r h];exact h
def K6 (m:Mv)(P Q:V):j0 m P-j0 m Q=O5 m.1 (P-Q):=by rw[OV];apply ext<;>simp[j0]<;>lia
def OD (m:Mv)(A B C D:V):i8 (j0 m B-j0 m A) (j0 m C-j0 m A) (j0 m D-j0 m A)=C3 m.1*i8 (B-A) (C-A) (D-A):=by rw[K6,K6,K6];exact RD m.1 (B-A,C-A,D-A)
def T8 (h:G4 m.1)(P:V):j0 (ZW m) (j0 m P)=P:=by show O5 (sZ m.1) (O5 m.1 P+m.2)+CF (-1) (O5 (sZ m.1) m.2)=P;rw[RL,SV,yY h,QO];apply ext<;>simp[CF]<;>lia
def Z9 (h:G4 m.1)(e:j0 m P=j0 m Q):P=Q:=by rw[<-T8 h P,e,T8 h]
end G
namespace G
section
variable{pts bu:List V} {m:Mv} {n:V} {d:Int}
def U1 (m:Mv)(n:V):V:=CF (C3 m.1) (O5 (IP m.1) n)
def RO (r:T3)(n v:V):d7 (O5 (IP r) n) (O5 r v)=C3 r*d7 n v:=by obtain⟨⟨a,b,c⟩,⟨a',b',c'⟩,⟨a2,b2,c2⟩⟩:=r;simp[O5,IP,C3,d7,cr];grind
def EH (h:G4 m.1)(n v:V):d7 (U1 m n) (O5 m.1 v)=d7 n v:=by
 have e:d7 (U1 m n) (O5 m.1 v)=C3 m.1*d7 (O5 (IP m.1) n) (O5 m.1 v):=by simp[U1,CF,d7];grind
 rw[e,RO,<-aEp,yY h,Int.one_mul]
def T7 (h:G4 m.1)(n P:V):d7 (U1 m n) (j0 m P)=d7 n P+d7 (U1 m n) m.2:=by
 have:d7 (U1 m n) (O5 m.1 P+m.2)=d7 (U1 m n) (O5 m.1 P)+d7 (U1 m n) m.2:=by simp[d7];grind
 unfold j0;rw[this,EH h]
def NR (r:T3)(u v:V):cr (O5 r u) (O5 r v)=O5 (IP r) (cr u v):=by obtain⟨⟨a,b,c⟩,⟨a',b',c'⟩,⟨a2,b2,c2⟩⟩:=r;apply ext<;>simp[O5,IP,d7,cr]<;>grind
def wW (h:G4 m.1):O5 (tr m.1) (U1 m n)=n:=by
 have e:=EH (m:=m) h n;have e1:=e ⟨1,0,0⟩;have e2:=e ⟨0,1,0⟩;have e3:=e ⟨0,0,1⟩;apply ext
 ·rw[show n.x=d7 n ⟨1,0,0⟩by simp[d7],<-e1];simp[O5,tr,d7];grind
 ·rw[show n.y=d7 n ⟨0,1,0⟩by simp[d7],<-e2];simp[O5,tr,d7];grind
 ·rw[show n.z=d7 n ⟨0,0,1⟩by simp[d7],<-e3];simp[O5,tr,d7];grind
def KO (h:G4 m.1)(hn:S5 n):S5 (U1 m n):=by
 have b:=wW (n:=n) h;have ne:U1 m n≠0:=λz=>hn.ne (by rw[<-b,z];apply ext<;>simp[O5,d7]);obtain⟨g0,ge,gp⟩:=dG ne;have e:n=(u7 (U1 m n):Int)*O5 (tr m.1) (gE (U1 m n)<|u7<|U1 m n):=by
  conv=>lhs;rw[<-b,ge]
  generalize gE (U1 m n) _=w;generalize(u7 (U1 m n):Int)=g;apply ext<;>simp[O5,d7]<;>grind
 have q:=congrArg u7 e;rw[gJ,hn]at q;simp only[Int.natAbs_natCast]at q;exact Nat.eq_one_of_mul_eq_one_right q.symm
def NP (h:G4 m.1)(hn:n≠0):U1 m n≠0:=λz=>hn (by rw[<-wW (n:=n) h,z];apply ext<;>simp[O5,d7])
def CM (h:G4 m.1)(hq:∀Y,Y∈bu↔∃X∈pts,Y=j0 m X)(hf:IsFace pts n d):IsFace bu (U1 m n) (d+d7 (U1 m n) m.2):=by
 obtain⟨A,hA,B,hB,C,hC,a,b,c,e⟩:=hf.three;refine⟨KO h hf.prim,λY hY=>?_,j0 m A,(hq _).mpr ⟨A,hA,rfl⟩,j0 m B,(hq _).mpr ⟨B,hB,rfl⟩,j0 m C,(hq _).mpr ⟨C,hC,rfl⟩,?_,?_,?_,?_⟩
 ·obtain⟨X,hX,rfl⟩:=(hq Y).mp hY;have:=hf.sup X hX;rw[T7 h];lia
 ·rw[T7 h];lia
 ·rw[T7 h];lia
 ·rw[T7 h];lia
 ·rw[K6,K6,NR];intro z;refine e ?_;have w:=NP (n:=cr (B-A) (C-A)) h;by_cases q:cr (B-A) (C-A)=0
  ·exact q
  ·refine absurd ?_ (w q);unfold U1;rw[z];apply ext<;>simp[CF]
def MK (h:G4 m.1)(hq:∀Y,Y∈bu↔∃X∈pts,Y=j0 m X):∀Y,Y∈pts↔∃X∈bu,Y=j0 (ZW m) X:=λY=>by
 constructor
 ·intro hY;exact⟨j0 m Y,(hq _).mpr ⟨Y,hY,rfl⟩,(T8 h Y).symm⟩
 ·rintro⟨X,hX,rfl⟩;obtain⟨Z,hZ,rfl⟩:=(hq X).mp hX;rw[T8 h];exact hZ
def wN (h:G4 m.1)(hq:∀Y,Y∈bu↔∃X∈pts,Y=j0 m X)(P:V)(p:Int->Prop):(∀n d,IsFace pts n d->p (d7 n P-d))↔∀n d,IsFace bu n d->p (d7 n (j0 m P)-d):=by
 have one:∀{m:Mv} {pts bu:List V},G4 m.1->(∀Y,Y∈bu↔∃X∈pts,Y=j0 m X)->∀P,(∀n d,IsFace bu n d->p (d7 n (j0 m P)-d))->∀n d,IsFace pts n d->p (d7 n P-d):=λ{m pts bu} h hq P hp n d hf=>by
  have:=hp _ _ (CM h hq hf);rw[T7 h]at this;have e:d7 n P+d7 (U1 m n) m.2-(d+d7 (U1 m n) m.2)=d7 n P-d:=by lia
  rwa [e]at this
 constructor
 ·intro hp;refine one (yB h) (MK h hq) (j0 m P) ?_;rw[T8 h];exact hp
 ·exact one h hq P
end
end G
namespace G
section
def lZ {k:Int}(hk:0<k){u:V}:f6 (k*u)↔f6 u:=by
 have p:∀{a:Int},0<k*a↔0<a:=λ{a}=>⟨λh=>by
  by_cases z:0<a
  ·exact z
  ·have:=aAD (show a<=0 by lia) (aAO hk);simp at this;lia,λh=>aBe hk h⟩
 have z:∀{a:Int},k*a=0↔a=0:=λ{a}=>⟨λh=>by rcases aAw.mp h with h|h<;>lia,λh=>by rw[h,aDI]⟩;simp[f6,p,z]
def dS {u:V}(h:f6 u):¬f6 (-u):=λh'=>by simp[f6]at h h';lia
def KW (u:V):u=0\/f6 u\/f6 (-u):=by
 by_cases h:u=0
 ·exact .inl h
 ·refine .inr ?_;by_cases a:u.x=0
  ·by_cases b:u.y=0
   ·by_cases c:u.z=0
    ·exact absurd (ext a b c) h
    ·simp[f6];lia
   ·simp[f6];lia
  ·simp[f6];lia
def CZ {P Q X:V}{k l:Int}(hk:0<k)(e:k*(X-P)=l*(Q-P))(ne:P≠Q):OP P Q X↔0<=l/\l<=k:=by
 have e':k*(Q-X)=(k-l)*(Q-P):=by have h1:=congrArg V.x e;have h2:=congrArg V.y e;have h3:=congrArg V.z e;simp at h1 h2 h3;apply ext<;>simp<;>grind
 have zz:∀{a b:V},a-b=0->a=b:=λ{a b} h=>by have h1:=congrArg V.x h;have h2:=congrArg V.y h;have h3:=congrArg V.z h;simp at h1 h2 h3;exact ext (by lia) (by lia) (by lia)
 have sg:∀{u w:V} {k l:Int},0<k->k*u=l*w->f6 w->((u=0\/f6 u)↔0<=l):=λ{u w k l} hk e hw=>by
  rcases Int.lt_trichotomy l 0 with hl|hl|hl
  ·have h2:f6 (k*(-u)):=by
    have:k*(-u)=(-l)*w:=by have h1:=congrArg V.x e;have h2:=congrArg V.y e;have h3:=congrArg V.z e;simp at h1 h2 h3;apply ext<;>simp<;>grind
    rw[this];exact(lZ (by lia)).mpr hw
   have h3:=(lZ hk).mp h2;constructor
   ·rintro(h|h)
    ·subst h;simp[f6]at h3
    ·exact absurd h3 (dS h)
   ·intro h;lia
  ·subst hl;refine⟨λ_=>aCn _,λ_=>.inl ?_⟩;have kz:∀{a:Int},k*a=0->a=0:=λ{a} h=>by rcases aAw.mp h with h|h<;>lia
   exact ext (by simp only[X9];apply kz;simpa using congrArg V.x e) (by simp only[X5];apply kz;simpa using congrArg V.y e) (by simp only[Y2];apply kz;simpa using congrArg V.z e)
  ·exact⟨λ_=>aAO hl,λ_=>.inr ((lZ hk).mp (by rw[e];exact(lZ hl).mpr hw))⟩
 have zi:∀{a b:V},(a=b)↔a-b=0:=λ{a b}=>⟨λh=>by subst h;apply ext<;>simp,zz⟩;have zj:∀{a b:V},(a=b)↔b-a=0:=λ{a b}=>⟨λh=>by subst h;apply ext<;>simp,λh=>(zz h).symm⟩;unfold OP;rcases KW (Q-P)with h|h|h
 ·exact absurd (zz h).symm ne
 ·have nq:¬f6 (P-Q):=by
   have:P-Q=-(Q-P):=by apply ext<;>simp<;>grind
   rw[this];exact dS h
  have a:=sg hk e h;have b:=sg hk e' h;rw[zi (a:=X) (b:=P),zj (a:=X) (b:=Q)];constructor
  ·intro w;exact⟨a.mp (w.1 h).1,by have:=b.mp (w.1 h).2;lia⟩
  ·intro w;exact⟨λ_=>⟨a.mpr w.1,b.mpr (by lia)⟩,λq=>absurd q nq⟩
 ·have pq:P-Q=-(Q-P):=by apply ext<;>simp<;>grind
  have h':f6 (P-Q):=by rw[pq];exact h
  have nq:¬f6 (Q-P):=λq=>dS q h;have e2:k*(P-X)=l*(P-Q):=by have h1:=congrArg V.x e;have h2:=congrArg V.y e;have h3:=congrArg V.z e;simp at h1 h2 h3;apply ext<;>simp<;>grind
  have e3:k*(X-Q)=(k-l)*(P-Q):=by have h1:=congrArg V.x e;have h2:=congrArg V.y e;have h3:=congrArg V.z e;simp at h1 h2 h3;apply ext<;>simp<;>grind
  have a:=sg hk e2 h';have b:=sg hk e3 h';rw[zj (a:=X) (b:=P),zi (a:=X) (b:=Q)];constructor
  ·intro w;exact⟨a.mp (w.2 h').1,by have:=b.mp (w.2 h').2;lia⟩
  ·intro w;exact⟨λq=>absurd q nq,λ_=>⟨a.mpr w.1,b.mpr (by lia)⟩⟩
def YD {m:Mv}{n:V}(h:G4 m.1){u v:V}(hu:d7 n u=0)(hv:d7 n v=0):d7 n n*i8 (U1 m n) (O5 m.1 u) (O5 m.1 v)=C3 m.1*(d7 (U1 m n) (U1 m n)*i8 n u v):=by
 have fl:d7 n n*cr u v=i8 n u v*n:=by apply ext<;>simp[i8,d7,cr]at*<;>grind
 have e1:O5 (IP m.1) n=C3 m.1*U1 m n:=by have q:=yY h;unfold U1 CF;apply ext<;>simp<;>grind
 have lin:∀(r:T3) (k:Int) (v:V),O5 r (k*v)=k*O5 r v:=λr k v=>by apply ext<;>simp[O5,d7]<;>grind
 have e2:d7 n n*O5 (IP m.1) (cr u v)=i8 n u v*(C3 m.1*U1 m n):=by rw[<-lin,fl,lin,e1]
 unfold i8 at*
 rw[NR];have:=congrArg (d7<|U1 m n) e2;rw[t8,t8,t8]at this;rw[this];grind
def QI (r:T3){k l:Int}{u w:V}(e:k*u=l*w):k*O5 r u=l*O5 r w:=by
 have lin:∀(r:T3) (k:Int) (v:V),O5 r (k*v)=k*O5 r v:=λr k v=>by apply ext<;>simp[O5,d7]<;>grind
 rw[<-lin,e,lin]
end
end G
namespace G
section
variable{pts bu:List V} {n:V} {d:Int}
def OP.flip {P Q X:V}(h:OP P Q X):OP Q P X:=⟨λq=>⟨(h.2 q).2,(h.2 q).1⟩,λq=>⟨(h.1 q).2,(h.1 q).1⟩⟩
def TJ {m:Mv}(h:G4 m.1)(hq:∀Y,Y∈bu↔∃X∈pts,Y=j0 m X)(hf:IsFace pts n d){P Q:V}(E:EdgeOf n (λX=>X∈u9 n d pts) P Q):EdgeOf (U1 m n) (λX=>X∈u9 (U1 m n) (d+d7 (U1 m n) m.2) bu) (j0 m P) (j0 m Q)\/EdgeOf (U1 m n) (λX=>X∈u9 (U1 m n) (d+d7 (U1 m n) m.2) bu) (j0 m Q) (j0 m P):=by
 have on:∀Y,Y∈u9 (U1 m n) (d+d7 (U1 m n) m.2) bu↔∃X∈u9 n d pts,Y=j0 m X:=λY=>by
  constructor
  ·intro hY;obtain⟨h1,h2⟩:=d5.mp hY;obtain⟨X,hX,rfl⟩:=(hq Y).mp h1;rw[T7 h]at h2;exact⟨X,d5.mpr ⟨hX,by lia⟩,rfl⟩
  ·rintro⟨X,hX,rfl⟩;obtain⟨h1,h2⟩:=d5.mp hX;exact d5.mpr ⟨(hq _).mpr ⟨X,h1,rfl⟩,by rw[T7 h];lia⟩
 have hn:=x5 hf.prim.ne;have hn':=x5 (NP h hf.prim.ne);have dP:=(d5.mp E.p).2;have dQ:=(d5.mp E.q).2;have dz:∀X∈u9 n d pts,d7 n (X-P)=0:=λX hX=>by have:=(d5.mp hX).2;rw[i9];lia
 have key:∀X∈u9 n d pts,d7 n n*i8 (U1 m n) (j0 m Q-j0 m P) (j0 m X-j0 m P)=C3 m.1*(d7 (U1 m n) (U1 m n)*i8 n (Q-P) (X-P)):=λX hX=>by rw[K6,K6];exact YD h (dz Q E.q) (dz X hX)
 have mb:∀X∈u9 n d pts,i8 n (Q-P) (X-P)=0->OP (j0 m P) (j0 m Q) (j0 m X):=λX hX z=>by
  have pr:cr (Q-P) (X-P)=0:=bM hf.prim.ne (dz Q E.q) (dz X hX) z;have ne:Q-P≠0:=λw=>E.ne (by have h1:=congrArg V.x w;have h2:=congrArg V.y w;have h3:=congrArg V.z w;simp at h1 h2 h3;exact ext (by lia) (by lia) (by lia))
  obtain⟨k,l,hk,e⟩:=B6 ne pr;have b:=(CZ hk e E.ne).mp (E.btw X hX z);have e':=QI m.1 e;rw[<-K6,<-K6]at e';exact(CZ hk e'<|λw=>E.ne (Z9 h w)).mpr b
 have z0:∀X∈u9 n d pts,i8 (U1 m n) (j0 m Q-j0 m P) (j0 m X-j0 m P)=0->i8 n (Q-P) (X-P)=0:=λX hX w=>by
  have k:=key X hX;rw[w,aDI]at k;rcases aAw.mp k.symm with k|k
  ·rcases h with h|h<;>lia
  ·rcases aAw.mp k with k|k
   ·lia
   ·exact k
 have fl:∀X:V,i8 (U1 m n) (j0 m P-j0 m Q) (X-j0 m Q)=-i8 (U1 m n) (j0 m Q-j0 m P) (X-j0 m P):=λX=>by simp[i8,d7,cr];grind
 rcases id h with s|s
 ·refine .inl ⟨(on _).mpr ⟨P,E.p,rfl⟩,(on _).mpr ⟨Q,E.q,rfl⟩,λw=>E.ne (Z9 h w),λY hY=>?_,λY hY z=>?_⟩
  ·obtain⟨X,hX,rfl⟩:=(on Y).mp hY;have k:=key X hX;rw[s,Int.one_mul]at k;have:=aCt (aAO hn') (E.left X hX);rw[<-k]at this;by_cases c:0<=i8 (U1 m n) (j0 m Q-j0 m P) (j0 m X-j0 m P)
   ·exact c
   ·have:=aBe hn (show 0< -i8 (U1 m n) (j0 m Q-j0 m P) (j0 m X-j0 m P)by lia);rw[Int.mul_neg]at this;lia
  ·obtain⟨X,hX,rfl⟩:=(on Y).mp hY;exact mb X hX (z0 X hX z)
 ·refine .inr ⟨(on _).mpr ⟨Q,E.q,rfl⟩,(on _).mpr ⟨P,E.p,rfl⟩,λw=>E.ne (Z9 h w).symm,λY hY=>?_,λY hY z=>?_⟩
  ·obtain⟨X,hX,rfl⟩:=(on Y).mp hY;have k:=key X hX;rw[s]at k;have:=aCt (aAO hn') (E.left X hX);rw[fl];by_cases c:0<=-i8 (U1 m n) (j0 m Q-j0 m P) (j0 m X-j0 m P)
   ·exact c
   ·have:=aBe hn (show 0<i8 (U1 m n) (j0 m Q-j0 m P) (j0 m X-j0 m P)by lia)
    lia
  ·obtain⟨X,hX,rfl⟩:=(on Y).mp hY;rw[fl]at z;exact(mb X hX (z0 X hX (by lia))).flip
def cT (t:Int)(v:V):V:=⟨t*v.x,t*v.y,t*v.z⟩
def HB (t:Int)(n:V):V:=if 0<t then n else-n
def OM (h:S5 n):S5 (-n):=by unfold S5 u7 at*;simpa using h
def DC (t:Int)(h:S5 n):S5 (HB t n):=by unfold HB;split<;>first|exact h|exact OM h
def kD {t:Int}(ht:t≠0)(n P:V):d7 (HB t n) (cT t P)=t.natAbs*d7 n P:=by
 unfold HB;split
 ·have:(t.natAbs:Int)=t:=by lia
  rw[this];simp[cT,d7];grind
 ·have:(t.natAbs:Int)=-t:=by lia
  rw[this];simp[cT,d7];grind
def UH {t:Int}(ht:t≠0)(n:V):HB t (HB t n)=n:=by
 unfold HB;split
 ·rfl
 ·apply ext<;>simp
def LA (t:Int)(A B C:V):cr (cT t B-cT t A) (cT t C-cT t A)=(t*t)*cr (B-A) (C-A):=by apply ext<;>simp[cT]<;>grind
def PL {t:Int}(ht:t≠0)(hq:∀Y,Y∈bu↔∃X∈pts,Y=cT t X)(hf:IsFace pts n d):IsFace bu (HB t n) (t.natAbs*d):=by
 obtain⟨A,hA,B,hB,C,hC,a,b,c,e⟩:=hf.three;have tp:(0:Int)<t.natAbs:=by lia
 refine⟨DC t hf.prim,λY hY=>?_,cT t A,(hq _).mpr ⟨A,hA,rfl⟩,cT t B,(hq _).mpr ⟨B,hB,rfl⟩,cT t C,(hq _).mpr ⟨C,hC,rfl⟩,?_,?_,?_,?_⟩
 ·obtain⟨X,hX,rfl⟩:=(hq Y).mp hY;rw[kD ht];exact aAD (hf.sup X hX) (aAO tp)
 ·rw[kD ht,a]
 ·rw[kD ht,b]
 ·rw[kD ht,c]
 ·rw[LA];intro z;refine e ?_;have tt:t*t≠0:=λw=>by rcases aAw.mp w with w|w<;>exact ht w
  have kz:∀{a:Int},t*t*a=0->a=0:=λ{a} h=>by
   rcases aAw.mp h with h|h
   ·exact absurd h tt
   ·exact h
  exact ext (by simp only[X9];apply kz;simpa using congrArg V.x z) (by simp only[X5];apply kz;simpa using congrArg V.y z) (by simp only[Y2];apply kz;simpa using congrArg V.z z)
def QW {t:Int}(ht:t≠0)(hq:∀Y,Y∈bu↔∃X∈pts,Y=cT t X)(hf:IsFace bu n d):∃k,IsFace pts (HB t n) k/\d=t.natAbs*k:=by
 obtain⟨A,hA,B,hB,C,hC,a,b,c,e⟩:=hf.three;obtain⟨A,wA,rfl⟩:=(hq A).mp hA;obtain⟨B,wB,rfl⟩:=(hq B).mp hB;obtain⟨C,wC,rfl⟩:=(hq C).mp hC;have tp:(0:Int)<t.natAbs:=by lia
 have dt:∀X,d7 n (cT t X)=t.natAbs*d7 (HB t n) X:=λX=>by have:=kD ht (HB t n) X;rw[UH ht]at this;exact this
 rw[dt]at a b c;refine⟨d7 (HB t n) A,⟨DC t hf.prim,λX hX=>?_,A,wA,B,wB,C,wC,rfl,?_,?_,?_⟩,a.symm⟩
 ·have:=hf.sup _ ((hq _).mpr ⟨X,hX,rfl⟩);rw[dt,<-a]at this;exact aEU this tp
 ·exact aBJ (show(t.natAbs:Int)≠0 by lia) (by rw[b,a])
 ·exact aBJ (show(t.natAbs:Int)≠0 by lia) (by rw[c,a])
 ·intro z;refine e ?_;rw[LA,z];apply ext<;>simp
end
end G
namespace G
structure Sl where
 a:Int
 b:Int
 c:Int
 w:V
 t:Bool
def Sl.put (s:Sl)(P:V):V:=
 let x:=P.x+s.a*P.y
 let y:=P.y+s.b*P.z
 let z:=P.z+s.c*x
 if s.t then⟨y+s.w.x,x+s.w.y,z+s.w.z⟩else⟨x+s.w.x,y+s.w.y,z+s.w.z⟩
def Sl.mv (s:Sl):Mv:=
 let r1:V:=⟨1,s.a,0⟩
 let r2:V:=⟨0,1,s.b⟩
 let r3:V:=⟨s.c,s.c*s.a,1⟩
 (if s.t then(r2,r1,r3)else(r1,r2,r3),s.w)
def Sl.ac8 (s:Sl)(P:V):s.put P=j0 s.mv P:=by obtain⟨a,b,c,w,t⟩:=s;cases t<;>apply ext<;>simp[Sl.put,Sl.mv,j0,O5,d7]<;>grind
def Sl.unit (s:Sl):G4 s.mv.1:=by
 obtain⟨a,b,c,w,t⟩:=s;cases t
 ·left;simp[Sl.mv,C3,d7,cr];try grind
 ·right;simp[Sl.mv,C3,d7,cr];try grind
def NI {m:Mv}(h:G4 m.1){pts bu:List V}(hq:∀X∈pts,j0 m X∈bu)(S:j9 pts):j9 bu:=by
 obtain⟨A,hA,B,hB,C,hC,D,hD,e⟩:=S;refine⟨_,hq A hA,_,hq B hB,_,hq C hC,_,hq D hD,?_⟩;rw[OD];intro z;rcases aAw.mp z with z|z
 ·rcases h with h|h<;>lia
 ·exact e z
def FQ {t:Int}(ht:t≠0){pts bu:List V}(hq:∀X∈pts,cT t X∈bu)(S:j9 pts):j9 bu:=by
 obtain⟨A,hA,B,hB,C,hC,D,hD,e⟩:=S;refine⟨_,hq A hA,_,hq B hB,_,hq C hC,_,hq D hD,?_⟩;have:i8 (cT t B-cT t A) (cT t C-cT t A) (cT t D-cT t A)=t*t*t*i8 (B-A) (C-A) (D-A):=by simp[cT,i8,d7,cr];grind
 rw[this];intro z;rcases aAw.mp z with z|z
 ·rcases aAw.mp z with z|z
  ·rcases aAw.mp z with z|z<;>exact ht z
  ·exact ht z
 ·exact e z
def vW (P:V){pts:List V}(h:P∈pts):j9 (pts++[⟨P.x+1,P.y,P.z⟩,⟨P.x,P.y+1,P.z⟩,⟨P.x,P.y,P.z+1⟩]):=by
 refine⟨P,by simp[h],⟨P.x+1,P.y,P.z⟩,by simp,⟨P.x,P.y+1,P.z⟩,by simp,⟨P.x,P.y,P.z+1⟩,by simp,?_⟩;have:i8 ((⟨P.x+1,P.y,P.z⟩:V)-P) (⟨P.x,P.y+1,P.z⟩-P) (⟨P.x,P.y,P.z+1⟩-P)=1:=by simp[i8,d7,cr];try grind
 rw[this];decide
def nA {P:V}{pts:List V}(h:P∈pts):j9 pts↔∃u∈pts,∃v∈pts,cr (u-P) (v-P)≠0/\∃w∈pts,d7 (cr (u-P) (v-P)) (w-P)≠0:=by
 have ed:∀u v w:V,i8 w u v=d7 (cr u v) w:=λu v w=>by simp[i8,d7,cr];grind
 have cy:∀u v w:V,i8 w u v=i8 u v w:=λu v w=>by simp[i8,d7,cr];grind
 constructor
 ·rintro⟨A,hA,B,hB,C,hC,D,hD,e⟩;have id:i8 (B-A) (C-A) (D-A)=i8 (B-P) (C-P) (D-P)-i8 (A-P) (C-P) (D-P)+i8 (A-P) (B-P) (D-P)-i8 (A-P) (B-P) (C-P):=by simp[i8,d7,cr];grind
  have mk:∀{X Y Z:V},X∈pts->Y∈pts->Z∈pts->i8 (X-P) (Y-P) (Z-P)≠0->∃u∈pts,∃v∈pts,cr (u-P) (v-P)≠0/\∃w∈pts,d7 (cr (u-P)<|v-P) (w-P)≠0:=λ{X Y Z} hX hY hZ q=>by rw[<-cy,ed]at q;exact⟨X,hX,Y,hY,λz=>q (by rw[z];simp[d7]),Z,hZ,q⟩
  by_cases c1:i8 (B-P) (C-P) (D-P)=0
  ·by_cases c2:i8 (A-P) (C-P) (D-P)=0
   ·by_cases c3:i8 (A-P) (B-P) (D-P)=0
    ·exact mk hA hB hC (by lia)
    ·exact mk hA hB hD c3
   ·exact mk hA hC hD c2
  ·exact mk hB hC hD c1
 ·rintro⟨u,hu,v,hv,_,w,hw,q⟩;exact⟨P,h,u,hu,v,hv,w,hw,by rw[<-cy,ed];exact q⟩
end G
namespace G
open Classical in
def G3 (pts:List V) (P:V):Int:=if∀n d,IsFace pts n d->d7 n P-d<=0 then(if∀n d,IsFace pts n d->d7 n P-d<0 then 1 else 0)else-1
def yJ {pts bu:List V}{P Q:V}(h1:(∀n d,IsFace pts n d->d7 n P-d<=0)↔∀n d,IsFace bu n d->d7 n Q-d<=0)(h2:(∀n d,IsFace pts n d->d7 n P-d<0)↔∀n d,IsFace bu n d->d7 n Q-d<0):G3 pts P=G3 bu Q:=by
 unfold G3;by_cases a:∀n d,IsFace pts n d->d7 n P-d<=0
 ·rw[if_pos a,if_pos (h1.mp a)];by_cases b:∀n d,IsFace pts n d->d7 n P-d<0
  ·rw[if_pos b,if_pos (h2.mp b)]
  ·rw[if_neg b,if_neg (λq=>b (h2.mpr q))]
 ·rw[if_neg a,if_neg (λq=>a (h1.mpr q))]
def NG {m:Mv}{pts bu:List V}(h:G4 m.1)(hq:∀Y,Y∈bu↔∃X∈pts,Y=j0 m X)(P:V):G3 bu (j0 m P)=G3 pts P:=
 (yJ (wN h hq P (· <=0)) (wN h hq P (· <0))).symm
def FU {t:Int}{pts bu:List V}(ht:t≠0)(hq:∀Y,Y∈bu↔∃X∈pts,Y=cT t X)(P:V):G3 bu (cT t P)=G3 pts P:=by
 have tp:(0:Int)<t.natAbs:=by lia
 have ex:∀n k,d7 (HB t n) (cT t P)-t.natAbs*k=t.natAbs*(d7 n P-k):=λn k=>by rw[kD ht];grind
 have le:∀a:Int,t.natAbs*a<=0↔a<=0:=λa=>⟨λh=>by
  by_cases z:a<=0
  ·exact z
  ·have:=aBe tp (show 0<a by lia);lia,λh=>by
  have:=aAD h (aAO tp);simpa using this⟩
 have lt:∀a:Int,t.natAbs*a<0↔a<0:=λa=>⟨λh=>by
  by_cases z:a<0
  ·exact z
  ·have:=aCt (aAO tp) (show 0<=a by lia);lia,λh=>by
  have:=aBe tp (show 0< -a by lia);rw[Int.mul_neg]at this;lia⟩
 have go:∀(p:Int->Prop),(∀a:Int,p (t.natAbs*a)↔p a)->((∀n d,IsFace pts n d->p (d7 n P-d))↔∀n d,IsFace bu n d->p (d7 n (cT t P)-d)):=λp hp=>by
  constructor
  ·intro h n d hf;obtain⟨k,hk,rfl⟩:=QW ht hq hf;have:=h _ _ hk;rw[<-hp,<-ex,UH ht]at this;exact this
  ·intro h n d hf;have:=h _ _ (PL ht hq hf);rw[ex,hp]at this;exact this
 exact(yJ (go (· <=0) le) (go (· <0) lt)).symm
end G
namespace DL
open PySem PySem.Spec L2
open PyProof.Rows hiding St
section
variable [Tabs]
def _root_.L2.Inv.ae2 {pins:L8}{σ:St}{H:Hp}{s:Shared}{h':Heap}{t':Nat}{L:List Addr}{T:Addr}{vs:List V}(I:Inv X pins σ H s)(k:∀b o,b∉L->s.heap.get? b=some o->h'.get? b=some o)
  (hL:∀b∈L,lR X pins H b) (hT:s.heap.objs.size<=T) (hz:vs.length<=sizeLine) {its:List Value} (hv:m6 vs its) (ht:IsTup h' T its.toArray):Inv X pins σ (upd H T (.tup vs)) {s with heap:=h',toks:=t'}:=by
 have hn:H T=none:=I.hok.fresh hT;have ne:∀b u,H b=some u->b≠T:=λb u e z=>by rw[z,hn]at e;cases e
 have sm:Same H (upd H T<|.tup vs):=j7 hn _;have nL:∀b u,H b=some u->b∉L:=λb u e z=>by rw[(hL b z).1]at e;cases e
 refine I.step (g':=s.gens) (d':=s.drawn) (ch:=L) (λb hb=>?_) (λb o _ _ hc e _=>k b o hc e) (λb o _ _ hc e _=>⟨o.slots,k b o hc e⟩) (λb o _ e n=>?_)
  (λb o hc e=>⟨o,k b o hc e⟩) (λb _ e=>sm _ _ e) (λb _ _ e=>sm _ _ e) (λb _ e=>sm _ _ e) (λm hm=>?_) (λb u e=>?_) I.bare
 ·obtain⟨_,f1,_,f3,f4,f5⟩:=hL b hb;exact⟨f3,f1,f4,f5⟩
 ·rw[k8 (aAj<|aAq (aAf e) hT)];exact n
 ·obtain⟨o,es,ep,ho,r⟩:=hm;exact⟨o,es,ep,k _ o (λz=>(hL _ z).2.1 rfl) ho,r⟩
 ·by_cases hb:b=T
  ·subst hb;rw[j4]at e;cases e;exact⟨hz,its,hv,ht⟩
  ·rw[k8 hb]at e;refine(I.hok b u e).ab7 (λc v hc q=>k c v ?_ q) (λ_ q=>sm _ _ q) λ_ _ _ q=>sm _ _ q;rcases hc with z|z
   ·rw[z];exact nL b u e
   ·exact nL c _ z
def _root_.L2.Inv.ae6 {pins:L8}{σ:St}{H:Hp}{s:Shared}{h':Heap}{t':Nat}{L:List Addr}(I:Inv X pins σ H s)(k:∀b o,b∉L->s.heap.get? b=some o->h'.get? b=some o)
  (hL:∀b∈L,lR X pins H b):Inv X pins σ H {s with heap:=h',toks:=t'}:=by
 have nL:∀b u,H b=some u->b∉L:=λb u e z=>by rw[(hL b z).1]at e;cases e
 refine I.step (g':=s.gens) (d':=s.drawn) (ch:=L) (λb hb=>?_) (λb o _ _ hc e _=>k b o hc e) (λb o _ _ hc e _=>⟨o.slots,k b o hc e⟩) (λ_ _ _ _ n=>n)
  (λb o hc e=>⟨o,k b o hc e⟩) (λb _ e=>e) (λb _ _ e=>e) (λb _ e=>e) (λm hm=>?_) (λb u e=>?_) I.bare
 ·obtain⟨_,f1,_,f3,f4,f5⟩:=hL b hb;exact⟨f3,f1,f4,f5⟩
 ·obtain⟨o,es,ep,ho,r⟩:=hm;exact⟨o,es,ep,k _ o (λz=>(hL _ z).2.1 rfl) ho,r⟩
 ·refine(I.hok b u e).ab7 (λc v hc q=>k c v ?_ q) (λ_ q=>q) λ_ _ _ q=>q;rcases hc with z|z
  ·rw[z];exact nL b u e
  ·exact nL c _ z
def YS {h:Heap}{i a:Addr}{k:Nat}(x:h.IsListIter i a k):∃o,h.get? i=some o/\∀v,o.data≠.cell v:=by obtain⟨o,e,c,d⟩:=x;exact⟨o,e,λv z=>by rw[d]at z;cases z⟩
def Ite (K:PySem.W.Frag)(a:Addr):It:=
 ⟨λi H=>∃xs x,L7 K H a xs/\xs[i]?=some x,
  λi H v H'=>∃T,v=.ref T/\H T=none/\∀xs,L7 K H a xs->∃x,xs[i]?=some x/\H'=upd H T (.tup [.int i,x]),
  λi H=>∃xs,L7 K H a xs/\xs.length<=i⟩
def tnE (e it a:Addr)(i:Nat)(h:Heap):Prop:=(∃old,IsEnum h e it (i:Int) old)/\h.IsListIter it a i
def HN {P:Program}{w:World}{K:PySem.W.Frag}{el:List Expr}{c}{tp:Pos}{e it a:Addr}(D:e≠it):Turn P w K (.Tuple el c tp) (Ite K a) [e,it] e (tnE e it a)where
 mem:=by simp
 obj:=λi h ⟨⟨old,he⟩,h1⟩ c hc=>by
  simp only[aAd,aAB,or_false]at hc;rcases hc with rfl|rfl
  ·exact⟨_,he,λv z=>nomatch z⟩
  ·exact YS h1
 keep:=λi h h' ⟨⟨old,he⟩,h1⟩ k=>⟨⟨old,k _ (by simp) _ he⟩,h1.at λo e=>k _ (by simp) o e⟩
 item:=by
  intro X hP hw hK hc i pins s σ H E I hf st hg;subst hP hw hK;obtain⟨xs,x,hx,ex⟩:=hg;obtain⟨itx,rvx,px,zx⟩:=I.list hx;obtain⟨u,hu,ru⟩:=rvx.get ex;obtain⟨⟨old,s0⟩,s1⟩:=st;refine wpAny_pyNext_enum_item s0 s1 px.isList (x:=u) (by simpa using hu) D λh' q0 q1 hp hsz kp=>?_;refine⟨.ref s.heap.objs.size,rfl,wpAny_letOwnedTupleGo_enum (s:={s with heap:=h',toks:=s.toks+1}) q0 λh2 z2 sb=>?_⟩;have hel:e<s.heap.objs.size:=aAf s0;have hil:it<s.heap.objs.size:=by obtain⟨o,e,_⟩:=s1;exact aAf e
  have up:∀c o,c≠e->h'.get? c=some o->h2.get? c=some o:=λc o hc e=>sb.extBut c o hc e;have hTf:s.heap.objs.size∉[e,it]:=λhm=>by
   simp only[aAd,aAB,or_false]at hm;rcases hm with hm|hm
   ·rw[<-hm]at hel;exact absurd hel (aAX _)
   ·rw[<-hm]at hil;exact absurd hil (aAX _)
  have kk:∀c o,c∉[e,it]->s.heap.get? c=some o->h2.get? c=some o:=λc o hc e=>by simp only[aAd,aAB,or_false,not_or]at hc;exact up c o hc.1 (kp c o hc.1 hc.2 e)
  refine⟨.ref s.heap.objs.size,upd H s.heap.objs.size (.tup [.int i,x]),I.ae2 (t':=s.toks+1) kk hf (aAg _) (by show 2<=sizeLine;decide) (its:=[.int i s.toks,u]) (.cons ⟨_,rfl⟩ (.cons ru .nil)) ⟨_,up _ _ (aCD hel) hp,rfl,0,rfl⟩,rfl,
   ⟨_,rfl,I.hok.fresh (aAg _),λxs' hx'=>⟨x,by rw[I.ab0 hx' hx];exact ex,rfl⟩⟩,⟨⟨u,?_⟩,q1.at λo e=>up _ o (aBQ D) e⟩,λb hb=>?_⟩
  ·have:((i+1:Nat):Int)=(i:Int)+1:=by lia
   rw[this];exact z2
  ·rw[k8 (λq:b=s.heap.objs.size=>hTf (q▸hb))];exact(hf b hb).1
 done:=by intro X hP hw hK hc i pins s σ H E I hf st hg;subst hP hw hK;obtain⟨xs,hx,hl⟩:=hg;obtain⟨itx,rvx,px,zx⟩:=I.list hx;obtain⟨⟨old,s0⟩,s1⟩:=st;have hlx:=rvx.length;refine wpAny_pyNext_enum_end (I.ok.hd hc) s0 s1 px.isList (by simp;lia) λh' kp=>⟨rfl,I.ae6 (t':=s.toks) (λc o hc e=>?_) hf⟩;simp only[aAd,aAB,or_false,not_or]at hc;exact kp c o hc.2 e
 self:=λ_ _ _ _ _ ⟨⟨_,st⟩,_⟩ h=>wpAny_pyIter_enum st h
def DI (xs:List D):List D:=List.zipWith (λ(k:Nat) d=>D.tup [.int (k:Int),d]) (aBy xs.length) xs
def OI:List D->R (List D)
 |[.lst xs]=>.ok (DI xs)
 |_=>.bad
def jI (xs:List D)(i:Nat):(DI xs)[i]?=xs[i]?.map λd=>D.tup [.int (i:Int),d]:=by
 unfold DI;rw[List.getElem?_zipWith];by_cases h:i<xs.length
 ·rw[List.getElem?_range h];cases xs[i]?<;>rfl
 ·rw[aEa (by simpa using h),aEa (by lia:xs.length<=i)];rfl
def NB {el:List Expr}{c}{tp:Pos}{e1:Expr}{p:Pos}{f1:Ev->R D}(ha1:PD X e1 f1)(hg:Gl X "enumerate":=by rfl)(hm:X.mg "enumerate"=none:=by assumption)(hv:bootBuiltins "enumerate"=some (.type "enumerate"):=by decide+kernel)
  (he:starEach [e1] X.env=(false,eval e1 X.env)::starEach [] X.env:=by rfl) (bf:(backTo pos (starEach [] X.env)).any (·.1)=false:=by rfl):
  VJ X (.Tuple el c tp) (.Call (.Name "enumerate" p) [e1] [] pos) (λρ=>(o8 f1 P3 ρ).bind OI):=by
 intro pins s σ H Rr I ⟨H9,O0,O,ρ,E,fk,q⟩;dsimp only at q;refine aAM (K9 I hg hm hv ?_ (by decide) (by decide));have ku:IN X [e1] (o8 f1 P3):=f9 ha1 q8 he;refine aBb (D8 (ku pos pins s σ H (λvs H1=>∃v1 xs,vs=[v1]/\o8 f1 P3 ρ=.ok [.lst xs]/\Same H H1/\Rep X.K H1 O v1 (.lst xs)) I ⟨H9,O0,O,ρ,E,?_⟩) λus s1 ⟨vs,H1,I1,r1,v1,xs,ev,ef,sm,rb1⟩=>?_) he bf
 ·cases e1:o8 f1 P3 ρ with
  |ex z=>rw[e1]at q;exact q
  |bad=>rw[e1]at q;exact q.elim
  |ok ds=>
   rw[e1,R.aa0]at q;match ds,q with
   |[.lst xs],q=>
    intro vs H1 s1 r1;cases r1 with
    |cons ra r1=>cases r1 with
     |nil=>exact⟨_,xs,rfl,rfl,s1,ra⟩
 ·subst ev;rw[ef,R.aa0]at q;simp only[OI]at q;cases rb1 with
  |@lst a wx _ hSx nx rx=>
  obtain⟨u1,rfl,ru1⟩:=vals1 r1;cases ru1;obtain⟨itx,rvx,px,zX⟩:=I1.list hSx;refine call_enumerate_list px.isList λh1 z1 z2 zsz k1=>?_;have I2:=I1.kept (h':=h1) (t':=s1.toks) k1;refine wpAny_pyIter_enum (s:={s1 with heap:=h1}) z1 ⟨_,_,_,Ite X.K a,H1,rfl,I2,HN (Nat.succ_ne_self _),⟨⟨_,z1⟩,z2⟩,λc hc=>?_,q _ H1 sm λH2 O2 k hK hO hO2 i=>?_⟩
  ·have xh:s1.heap.objs.size<=c:=by simp only[aAd,aAB,or_false]at hc;rcases hc with rfl|rfl<;>lia
   exact I1.ae4 xh (I1.hok.fresh xh)
  ·obtain⟨n2x,h2x⟩:=k.lst nx hSx λo q=>hK a o q;have r2x:=k.ab8 hO hK rx;refine⟨λd e=>?_,λe=>⟨wx,h2x,?_⟩⟩
   ·rw[jI]at e;cases e1:xs[i]? with
    |none=>rw[e1]at e;cases e
    |some dx=>rw[e1]at e;cases e;obtain⟨vx,g1,g2⟩:=r2x.get e1;refine⟨⟨wx,vx,h2x,g1⟩,λx H' ⟨T,ev,hT,hh⟩=>?_⟩;obtain⟨x1,q1,rfl⟩:=hh wx h2x;rw[g1]at q1;cases q1;subst ev;have s2:Same H2 (upd H2 T<|.tup [.int i,vx]):=j7 hT _;exact⟨s2,.tup (T2.of j4) (.cons .int (.cons (g2.same s2) .nil))⟩
   ·rw[rx.length];rw[jI]at e;cases e1:xs[i]? with
    |none=>exact aBI.mp e1
    |some dx=>rw[e1]at e;cases e
end
end DL
namespace M
open PySem L2 DL
variable [Tabs]
def VF (t:Int):Int:=(t*40009+6007).fmod 2147483647
def mB (s k:Int):Int:=(s*s+5003*k+11).fmod 2147483647
def aq (s:Int):Int:=s.fmod 2000000011-1000000000
def UN (t:Int):G.V:=⟨aq (mB (VF t) 0),aq (mB (mB (VF t) 0) 1),aq (mB (mB (mB (VF t) 0) 1) 2)⟩
def fF (way:Int):Int:=if way=0 then 3 else if way=1 then 5 else if way=2 then 9 else 2000000001
def OS (t way:Int):G.V:=if way=4 then UN t else dw t (fF way)
def WA (t way:Int):Sz 40 (OS t way):=by
 unfold OS;split
 ·have a:∀s,bits (aq s)<=40:=λs=>bits_sub (bits_fmod (by decide) (show bits 2000000011<=39 by decide)) (show bits 1000000000<=39 by decide);exact⟨a _,a _,a _⟩
 ·have w:fF way≠0/\bits (fF way)<=39:=by
   unfold fF
   repeat' split
   all_goals decide
  have d:∀c:Int,bits (c.fmod (fF way)-(fF way).fdiv 2)<=40:=λc=>bits_sub (bits_fmod w.1 w.2) (bits_fdiv w.2);exact⟨d _,d _,d _⟩
open Classical in
def Z4:List D->R D
 |[.int t,.int way]=>if bits t<=3000000/\0<=way/\way<=4 then .ok (vd (OS t way))else .bad
 |_=>.bad
def HC {t way:Int}(h:bits t<=3000000)(h0:0<=way)(h1:way<=4):Z4 [.int t,.int way]=.ok (vd (OS t way)):=if_pos ⟨h,h0,h1⟩
def lH (l:List Int):List D:=l.map D.int
def fI:List D->Option (List Int)
 |[]=>some []
 |.int i::r=>match fI r with
  |some l=>some (i::l)
  |none=>none
 |_=>none
@[simp]theorem rS:∀l:List Int,fI (lH l)=some l
 |[]=>rfl
 |i::l=>by have:=rS l;unfold lH at this;simp[lH,fI,this]
theorem oI:∀{ds:List D} {l:List Int},fI ds=some l->ds=lH l
 |[],l,h=>by simp[fI]at h;subst h;rfl
 |.int i::r,l,h=>by
  simp only[fI]at h;split at h
  ·rename_i l' e;injection h with h;subst h;rw[oI e];rfl
  ·cases h
 |.tup _::_,_,h=>by simp[fI]at h
 |.lst _::_,_,h=>by simp[fI]at h
 |.bl _::_,_,h=>by simp[fI]at h
def Y1 (l:List Int):G.Sl:=⟨l.getD 0 0,l.getD 1 0,l.getD 2 0,⟨l.getD 3 0,l.getD 4 0,l.getD 5 0⟩,decide (l.getD 6 0=1)⟩
def aN (l:List Int):Prop:=l.length=7/\∀i∈l,bits i<=100
open Classical in
def J7:List D->R D
 |[p,.lst xs]=>match pS p,fI xs with
  |some P,some l=>if aN l/\Sz 500 P then .ok (vd ((Y1 l).put P))else .bad
  |_,_=>.bad
 |_=>.bad
def wH {l:List Int}{P:G.V}(h:aN l)(hP:Sz 500 P):J7 [vd P,.lst (lH l)]=.ok (vd ((Y1 l).put P)):=by simp only[J7,mE,rS];exact if_pos ⟨h,hP⟩
def vE (c:Int):Int:=(c.fdiv 1029*271828182845904523536).fmod 200000000000000000001-100000000000000000000
def s7 (c k:Int):Int:=(c.fdiv k).fmod 7-3
def YV (c:Int):List Int:=(if c.fmod 3=2 then[s7 c 3*7654321,s7 c 21*7654321,s7 c 147*7654321]else[s7 c 3,s7 c 21,s7 c 147])++[vE c,0-(vE c).fdiv 7,(c.fdiv 1029).fmod 50,(c.fdiv 9).fmod 2]
def XU (c:Int):aN (YV c):=by
 have s:∀k,bits (s7 c k)<=4:=λk=>bits_sub (bits_fmod (by decide) (show bits 7<=3 by decide)) (show bits 3<=3 by decide);have m:∀k,bits (s7 c k*7654321)<=100:=λk=>j1 (bits_mul (s k) (show bits 7654321<=30 by decide)) (by decide);have s':∀k,bits (s7 c k)<=100:=λk=>j1 (s k) (by decide);have f:bits (vE c)<=99:=bits_sub (n:=98) (bits_fmod (by decide) (by decide)) (by decide);have r:∀x∈[vE c,0-(vE c).fdiv 7,(c.fdiv 1029).fmod 50,(c.fdiv 9).fmod 2],bits x<=100:=by simp only[aBW];exact⟨j1 f (by decide),bits_sub (show bits 0<=99 by decide) (bits_fdiv f),bits_fmod (by decide) (by decide),bits_fmod (by decide) (by decide),λ_ h=>by cases h⟩
 unfold YV;split
 ·exact⟨rfl,aBW.mpr ⟨m _,aBW.mpr ⟨m _,aBW.mpr ⟨m _,r⟩⟩⟩⟩
 ·exact⟨rfl,aBW.mpr ⟨s' _,aBW.mpr ⟨s' _,aBW.mpr ⟨s' _,r⟩⟩⟩⟩
open Classical in
def Z0:List D->R D
 |[.int c]=>if bits c<=3000000 then .ok (.lst (lH (YV c)))else .bad
 |_=>.bad
def AL {c:Int}(h:bits c<=3000000):Z0 [.int c]=.ok (.lst (lH (YV c))):=if_pos h
def IG {pts:List G.V}{fs:List (G.V×Int)}(hf:∀f,f∈fs↔G.IsFace pts f.1 f.2)(ah:fs≠[])(P:G.V):(if kK (fs.map λf=>G.d7 f.1 P-f.2)<0 then 1 else 0)-(if 0<kK (fs.map λf=>G.d7 f.1 P-f.2)then 1 else 0)=G.G3 pts P:=by
 have hm:=gQ (ns:=fs.map λf=>G.d7 f.1 P-f.2) (by simpa using ah);have hle:∀f∈fs,G.d7 f.1 P-f.2<=kK (fs.map λf=>G.d7 f.1 P-f.2):=λf h=>mH (aAi.mpr ⟨f,h,rfl⟩);generalize kK (fs.map λf=>G.d7 f.1 P-f.2)=M at*
 obtain⟨g,hg,rfl⟩:=aAi.mp hm;have hg':=(hf g).mp hg;unfold G.G3;by_cases a:∀n d,G.IsFace pts n d->G.d7 n P-d<=0
 ·rw[if_pos a];have ag:=a _ _ hg';by_cases b:∀n d,G.IsFace pts n d->G.d7 n P-d<0
  ·have bg:=b _ _ hg';rw[if_pos b,if_pos bg,if_neg (by lia)];rfl
  ·rw[if_neg b];have:∃n d,G.IsFace pts n d/\¬G.d7 n P-d<0:=by simpa using b
   obtain⟨n,d,h,q⟩:=this;have h1:=hle (n,d) ((hf (n,d)).mpr h);dsimp only at h1;rw[if_neg (by lia),if_neg (by lia)];rfl
 ·rw[if_neg a];have:∃n d,G.IsFace pts n d/\¬G.d7 n P-d<=0:=by simpa using a
  obtain⟨n,d,h,q⟩:=this;have h1:=hle (n,d) ((hf (n,d)).mpr h);dsimp only at h1;rw[if_neg (by lia),if_pos (by lia)];rfl
def SJ {ns:List Int}(h:ns≠[]):kK (ns.map sgn)=sgn (kK ns):=by
 have mono:∀{x y:Int},x<=y->sgn x<=sgn y:=λ{x y} h=>by
  unfold sgn
  repeat' split
  all_goals lia
 have m1:=mH (aBj (f:=sgn)<|gQ h);obtain⟨x,hx,e⟩:=aAi.mp (gQ (ns:=ns.map sgn) (by simpa using h));have:=mono (mH hx)
 lia
def IA {pts:List G.V}{fs:List (G.V×Int)}(hf:∀f,f∈fs↔G.IsFace pts f.1 f.2)(ah:fs≠[])(P:G.V):-(kK (fs.map λf=>sgn (G.d7 f.1 P-f.2)))=G.G3 pts P:=by
 have:=SJ (ns:=fs.map λf=>G.d7 f.1 P-f.2) (by simpa using ah);rw[aBk]at this;rw[<-IG hf ah P];refine(congrArg Neg.neg this).trans ?_;unfold sgn
 repeat' split
 all_goals lia
open Classical in
def W4:List D->R D
 |[.lst ds,p]=>match D5 ds,pS p with
  |some pts,some P=>if N9 900 pts/\G.j9 pts/\(c7 pts).length<=14/\Sz 900 P then .ok (.int (G.G3 (c7 pts) P))else .bad
  |_,_=>.bad
 |_=>.bad
def oT {L:List G.V}{P:G.V}(h1:N9 900 L)(h2:G.j9 L)(h3:(c7 L).length<=14)(hP:Sz 900 P):W4 [.lst (L.map vd),vd P]=.ok (.int (G.G3 (c7 L) P)):=by simp only[W4,t5,mE];exact if_pos ⟨h1,h2,h3,hP⟩
def PQ {pts:List G.V}{n:G.V}{d:Int}(h:N9 900 pts)(hf:G.IsFace (c7 pts) n d):Sz 2003 n:=by obtain⟨A,hA,B,hB,C,hC,_,e⟩:=G.jW hf;have z:∀X∈c7 pts,Sz 1000 X:=λX hX=>(h.1 X (l9.mp hX)).mono;have:=mY (z A hA) (z B hB) (z C hC);rw[e]at this;exact this
def rG {pts:List G.V}{f:G.V×Int}{P:G.V}(h:N9 900 pts)(hP:Sz 900 P)(hf:G.IsFace (c7 pts) f.1 f.2):G0 [pT f.1 f.2,vd P]=.ok (.int (sgn (G.d7 f.1 P-f.2))):=by have z:=PQ h hf;exact EF ⟨y3 z.1,y3 z.2.1,y3 z.2.2⟩ ⟨y3 hP.1,y3 hP.2.1,y3 hP.2.2⟩
def aF {pts:List G.V}(h1:N9 900 pts)(h2:G.j9 pts)(h3:(c7 pts).length<=14):(∀f,f∈k9 (c7 pts)↔G.IsFace (c7 pts) f.1 f.2)/\k9 (c7 pts)≠[]/\(k9 (c7 pts)).length<=2744:=by obtain⟨m,r,e,L⟩:=eF h1 h2 (by lia);have vc:=h3;rw[e]at vc;have FL:=Q4 L vc;rw[<-e]at FL L;have nd:=S6 (M9 FL.2);have few:=G.FK nd λf hf=>(FL.1 f).mp hf;have c1:(c7 pts).length*((c7 pts).length*(c7 pts).length)<=14*(14*14):=aDW h3 (aDW h3 h3);refine⟨FL.1,λz=>?_,aAo few c1⟩;have q:=G.fX L.good.solid L.good.ord L.good.mem L.good.least;have:=(FL.1 (_,_)).mpr q;rw[z]at this;cases this
def intD:D->Int
 |.int i=>i
 |_=>0
def rL:Nat->List D->List D
 |_,[]=>[]
 |k,d::ds=>.tup [.int (k:Int),d]::rL (k+1) ds
theorem rA:∀(xs:List D) (k i:Nat),(rL k xs)[i]?=xs[i]?.map λd=>D.tup [.int ((k+i:Nat):Int),d]
 |[],_,_=>rfl
 |d::ds,k,0=>rfl
 |d::ds,k,i+1=>by rw[rL,aCV,aCV,rA ds (k+1) i,Nat.add_right_comm];rfl
def RH (xs:List D):DI xs=rL 0 xs:=aDU λi=>by rw[jI,rA,aEQ]
def xJ (m:Nat):Nat->List D->List Int->List Int
 |_,[],ts=>ts
 |k,d::ds,ts=>xJ m (k+1) ds (ts.set (k%m) (ts.getD (k%m) 0+intD d))
def vN (m:Nat):List Int:=(aBy m).map λ(k:Nat)=>5*(k:Int)*k+3*k
def v9 (xs:List D)(most:Int):Nat:=(4+(cJ xs 0).fmod (most-3)).toNat
def wJ (xs:List D)(most:Int):List Int:=xJ (v9 xs most) 0 ((xs.take 63).drop 2) (vN<|v9 xs most)
def lT (xs:List D)(most:Int):List G.V:=(wJ xs most).map λt=>OS t ((cJ xs 1).fmod 5)
theorem EK (m:Nat)(hm:0<m):∀(ds:List D) (k:Nat) (ts:List Int),T9 1048576 ds->ts.length=m->(∀t∈ts,bits t<=1100000+k)->(xJ m k ds ts).length=m/\∀t∈xJ m k ds ts,bits t<=1100000+k+ds.length
 |[],k,ts,_,h,hb=>⟨h,hb⟩
 |d::ds,k,ts,hi,h,hb=>by
  have:=EK m hm ds (k+1) (ts.set (k%m)<|ts.getD (k%m) 0+intD d) (λx hx=>hi x (.tail _ hx)) (by simpa using h) (λt ht=>by
   rcases List.mem_or_eq_of_mem_set ht with ht|rfl
   ·exact j1 (hb t ht) (by lia)
   ·have hk:k%m<ts.length:=by rw[h];exact aDT _ hm
    have h1:bits (ts.getD (k%m) 0)<=1100000+k:=by rw[aAn,aAh hk];exact hb _ (aBN hk)
    obtain⟨i,rfl,hb2⟩:=hi d (.head _);exact bits_add h1 (j1 hb2 (by lia)))
  refine⟨this.1,λt ht=>j1 (this.2 t ht) ?_⟩;simp only[aAu];lia
def fN (xs:List D){most:Int}(h0:4<=most):4<=v9 xs most/\(v9 xs most:Int)<=most/\(v9 xs most:Int)=4+(cJ xs 0).fmod (most-3):=by have:=V0 (a:=cJ xs 0) (b:=most-3) (by lia);unfold v9;lia
def EU (m:Nat)(h:m<=20):(vN m).length=m/\∀t∈vN m,bits t<=1100000:=by
 unfold vN;refine⟨by simp,λt ht=>?_⟩;obtain⟨k,hk,rfl⟩:=aAi.mp ht;have kr:k<m:=by simpa using hk
 have k3:(k:Int)*k<=20*20:=Int.mul_le_mul (by lia) (by lia) (by lia) (by decide);have k2:0<=(k:Int)*k:=aCt (by lia) (by lia);rw[aEp];exact j1 (K3 (n:=30) (by lia) (by lia)) (by decide)
def KA {xs:List D}{most:Int}(hi:T9 1048576 xs)(h0:4<=most)(h1:most<=20):(wJ xs most).length=v9 xs most/\∀t∈wJ xs most,bits t<=1100061:=by
 have hm:=fN xs h0;have t0:=EU (v9 xs most) (by lia);have:=EK (v9 xs most) (by lia) ((xs.take 63).drop 2) 0 (vN<|v9 xs most) (λx hx=>hi x (aEm<|aDu hx)) t0.1 t0.2;refine⟨this.1,λt ht=>j1 (this.2 t ht) ?_⟩;have:((xs.take 63).drop 2).length<=61:=by simp;lia
 lia
open Classical in
def dW:List D->R D
 |[.lst xs,.int most]=>if T9 1048576 xs/\xs.length<=63/\4<=most/\most<=20 then .ok (.lst ((lT xs most).map vd))else .bad
 |_=>.bad
def zO {xs:List D}{most:Int}(hi:T9 1048576 xs)(hl:xs.length<=63)(h0:4<=most)(h1:most<=20):dW [.lst xs,.int most]=.ok (.lst ((lT xs most).map vd)):=if_pos ⟨hi,hl,h0,h1⟩
def YK {xs:List D}{most:Int}(hi:T9 1048576 xs)(h0:4<=most)(h1:most<=20):(∀p∈lT xs most,Sz 40 p)/\4<=(lT xs most).length/\((lT xs most).length:Int)<=most:=by have t:=KA hi h0 h1;have m:=fN xs h0;unfold lT;refine⟨λp hp=>?_,by rw[aAl,t.1];lia,by rw[aAl,t.1];lia⟩;obtain⟨a,_,rfl⟩:=aAi.mp hp;exact WA ..
def WP (xs:List D):NH (.lst xs) (some 2) (some 63)=.ok (.lst ((xs.take 63).drop 2)):=by
 show R.ok (D.lst<|cutD xs (some 2)<|some 63)=_;rw[List.drop_take];show R.ok (D.lst<|List.take (min 63 xs.length-min 2 xs.length)<|List.drop (min 2 xs.length) xs)=_;by_cases h:xs.length<=2
 ·rw[aFy (by lia),aFy (by lia)];simp
 ·rw[aFH (by lia:2<=xs.length)];by_cases h2:xs.length<=63
  ·rw[aDQ (by simp;lia),aDQ (by simp;lia)]
  ·rw[aFH (by lia)]
open Classical in
def jF (pts:List G.V):List G.V:=if G.j9 pts then pts else match pts with
 |[]=>[]
 |P::r=>(P::r)++[⟨P.x+1,P.y,P.z⟩,⟨P.x,P.y+1,P.z⟩,⟨P.x,P.y,P.z+1⟩]
open Classical in
def cC:List D->R D
 |[.lst ds]=>match D5 ds with
  |some pts=>if pts≠[]/\(∀p∈pts,Sz 300 p)/\pts.length<=1000 then .ok (.lst ((jF pts).map vd))else .bad
  |_=>.bad
 |_=>.bad
def pG {α β:Type}{G:D->Ev->R Ev}{fe:Ev->R D}{ρ:Ev}(rep:α->D)(rp:β->D)(g:α->β)(l:List α)(h:∀a∈l,∃ρ1,G (rep a) ρ=.ok ρ1/\fe ρ1=.ok (rp (g a))):u5 G (λ_=>.ok true) fe ρ (l.map rep)=.ok ((l.map g).map rp):=by rw[aBk];exact F7 rep _ l h
theorem mO {α:Type}{G:D->Ev->R Ev}{F:Ev->R Out}{x:D}{Iv:Ev->Prop}(rep:α->D)(p:α->Prop)(Iw:Ev->Prop)(hw:∀ρ,Iw ρ->Iv ρ):∀(l:List α) (ρ:Ev),Iw ρ->(∀a∈l,∀ρ,Iw ρ->(p a/\V2 G F (rep a) ρ=.ok (.rt x))\/(¬p a/\∃ρ2,V2 G F (rep a) ρ=.ok (.nx ρ2)/\Iw ρ2))->((∃a∈l,p a)/\P1 G F (l.map rep) ρ=.ok (.rt x))\/(¬(∃a∈l,p a)/\∃ρ2,P1 G F (l.map rep) ρ=.ok (.nx ρ2)/\Iv ρ2)
 |[],ρ,h,_=>.inr ⟨λ⟨a,q,_⟩=>(by cases q),ρ,rfl,hw ρ h⟩
 |a::l,ρ,h,hs=>by
  have go:∀{o},V2 G F (rep a) ρ=.ok o->∃ρ1,G (rep a) ρ=.ok ρ1/\F ρ1=.ok o:=λ{o} e=>by
   unfold V2 at e;cases e1:G (rep a) ρ with
   |ok ρ1=>rw[e1]at e;exact⟨ρ1,rfl,e⟩
   |ex z=>rw[e1]at e;cases e
   |bad=>rw[e1]at e;cases e
  rcases hs a (.head _) ρ h with⟨hp,e⟩|⟨hp,ρ2,e,h2⟩
  ·obtain⟨ρ1,e1,e2⟩:=go e;exact .inl ⟨⟨a,.head _,hp⟩,iT e1 e2⟩
  ·obtain⟨ρ1,e1,e2⟩:=go e;rw[aAv,S8 e1 e2];rcases mO rep p Iw hw l ρ2 h2 (λb hb=>hs b (.tail _ hb))with⟨⟨b,hb,q⟩,e3⟩|⟨q,e3⟩
   ·exact .inl ⟨⟨b,.tail _ hb,q⟩,e3⟩
   ·exact .inr ⟨λ⟨b,hb,q'⟩=>by
     cases hb with
     |head=>exact hp q'
     |tail _ hb=>exact q ⟨b,hb,q'⟩,e3⟩
def RG {α:Type}{G:D->Ev->R Ev}{F F2:Ev->R Out}{x d:D}{l:List α}{ρ:Ev}(rep:α->D)(p:α->Prop)(Iw:Ev->Prop)(h:Iw ρ)(hs:∀a∈l,∀ρ,Iw ρ->(p a/\V2 G F (rep a) ρ=.ok (.rt x))\/(¬p a/\∃ρ2,V2 G F (rep a) ρ=.ok (.nx ρ2)/\Iw ρ2))(yes:(∃a∈l,p a)->x=d)(no:¬(∃a∈l,p a)->∀ar,Iw ar->K7 (F2 ar)=.ok d):K7 (C1 (P1 G F (l.map rep) ρ) F2)=.ok d:=by
 rcases mO (Iv:=Iw) rep p Iw (λ_ h=>h) l ρ h hs with⟨q,e⟩|⟨q,ρ2,e,h2⟩
 ·rw[e,<-yes q];rfl
 ·rw[e];exact no q ρ2 h2
def KR (pts:List G.V):B8 (pts.map vd)<=5:=by
 induction pts with
 |nil=>simp[B8]
 |cons v l ih=>rw[aAv,B8];simp[B7,B8]at ih⊢;lia
def SR (pts:List G.V):FJ (.lst (pts.map vd)) (.lst [])=.ok (.bl (!pts.isEmpty)):=by have:=KR pts;unfold FJ;rw[if_pos ⟨by rw[B7];lia,by simp[B7,B8]⟩];cases pts<;>simp[u6,V9]
def XS (W:List G.V)(u v:G.V):Prop:=G.cr u v≠0/\∃w∈W,G.d7 (G.cr u v) w≠0
def XQ (W:List G.V)(u:G.V):Prop:=∃v∈W,XS W u v
def SG {P:G.V}{ps:List G.V}(h:∃u∈(P::ps).map (· -P),XQ ((P::ps).map (· -P)) u):jF (P::ps)=P::ps:=by unfold jF;rw[if_pos];obtain⟨u,hu,v,hv,c,w,hw,q⟩:=h;obtain⟨u,av,rfl⟩:=aAi.mp hu;obtain⟨v,hv',rfl⟩:=aAi.mp hv;obtain⟨w,hw',rfl⟩:=aAi.mp hw;exact(G.nA<|.head _).mpr ⟨u,av,v,hv',c,w,hw',q⟩
def ZG {P:G.V}{ps:List G.V}(h:¬∃u∈(P::ps).map (· -P),XQ ((P::ps).map (· -P)) u):jF (P::ps)=(P::ps)++[⟨P.x+1,P.y,P.z⟩,⟨P.x,P.y+1,P.z⟩,⟨P.x,P.y,P.z+1⟩]:=by unfold jF;rw[if_neg];intro s;obtain⟨u,hu,v,hv,c,w,hw,q⟩:=(G.nA<|aAJ (a:=P)).mp s;exact h ⟨_,aBj hu,_,aBj hv,c,_,aBj hw,q⟩
def HD {pts:List G.V}(h:pts≠[]):G.j9 (jF pts):=by
 match pts,h with
 |P::r,_=>
  unfold jF;split
  ·assumption
  ·exact G.vW P (.head _)
def HJ {pts:List G.V}(h:pts≠[])(hs:∀p∈pts,Sz 300 p)(hl:pts.length<=1000):cC [.lst (pts.map vd)]=.ok (.lst ((jF pts).map vd)):=by simp only[cC,t5];exact if_pos ⟨h,hs,hl⟩
def YY {pts:List G.V}(hs:∀p∈pts,Sz 40 p):(∀p∈jF pts,Sz 41 p)/\(jF pts).length<=pts.length+3:=by
 unfold jF;split
 ·exact⟨λp hp=>(hs p hp).mono,by lia⟩
 ·match pts,hs with
  |[],hs=>exact⟨λp hp=>(nomatch hp),aBc _⟩
  |P::r,hs=>
   refine⟨λp hp=>?_,by simp⟩;have hP:=hs P (.head _);have m:∀{i:Int},bits i<=40->bits i<=41:=λh=>j1 h (by lia);have a1:∀{i:Int},bits i<=40->bits (i+1)<=41:=λh=>bits_add h (show bits 1<=40 by decide);rcases aAN.mp hp with hp|hp
   ·exact(hs p hp).mono
   ·simp only[aAd,aAB,or_false]at hp;rcases hp with rfl|rfl|rfl
    ·exact⟨a1 hP.1,m hP.2.1,m hP.2.2⟩
    ·exact⟨m hP.1,a1 hP.2.1,m hP.2.2⟩
    ·exact⟨m hP.1,m hP.2.1,a1 hP.2.2⟩
end M
namespace DL
open PySem PySem.Spec L2
open PyProof.Rows hiding St
section
variable [Tabs]
end
end DL
namespace DL
open PySem PySem.Spec L2
open PyProof.Rows hiding St st
variable [Tabs]
section
open Classical in
def ZL:D->R (List D)
 |.lst ds=>if ds.all N7=true/\ds.Nodup/\ds.length<=63 then .ok (W7 ds)else .bad
 |_=>.bad
def fL {p pos:Pos}{f:Ev->R D}(ha:PB X e f)(hh:X.calm=true)(hu:X.A.units+300<cLine)(hg:Gl X "sorted":=by rfl)(hm:X.mg "sorted"=none:=by assumption)(hv:bootBuiltins "sorted"=some (.builtin "sorted"):=by decide+kernel)(he:starEach [e] X.env=(false,eval e X.env)::starEach [] X.env:=by rfl)(bf:(backTo pos (starEach [] X.env)).any (·.1)=false:=by rfl):
  PF X (.Call (.Name "sorted" p) [e] [] pos) (λρ=>(f ρ).bind ZL):=by
 refine uJ λpins s σ H Q I H9 O0 O ρ E q=>?_;dsimp only at q;refine aAM (K9 I hg hm hv ?_ (by decide) (by decide));have ku:PA X [e] _:=J1 ha X1 he;refine aBq (D8 (ku pos pins s σ H (λvs H1=>∃v ds,vs=[v]/\f ρ=.ok (.lst ds)/\Same H H1/\A5 X.K H1 O v (.lst ds)) I ⟨H9,O0,O,ρ,E,?_⟩) λus s1 ⟨vs,H1,I1,r1,v,ds,ev,ef,sm,rb⟩=>?_) he bf
 ·cases e1:f ρ with
  |ex z=>rw[e1]at q;exact q
  |bad=>rw[e1]at q;exact q.elim
  |ok d=>
   rw[e1,R.aa0]at q;cases d with
   |lst ds=>exactλv H1 s1 r1=>⟨v,ds,rfl,rfl,s1,r1⟩
   |_=>exact aAk q
 ·subst ev;rw[ef,R.aa0]at q;obtain⟨a,ws,rfl,hS,rr⟩:=rb.aa5;obtain⟨u,rfl,ru⟩:=vals1 r1;cases ru;obtain⟨its,rv,⟨oL,nL,gL,cL,dL,sL⟩,zL⟩:=I1.list hS;have hl:s1.heap.IsList a its.toArray:=⟨oL,gL,cL,nL,sL⟩;simp only[ZL]at q;by_cases hc:ds.all N7=true/\ds.Nodup/\ds.length<=63
  ·rw[if_pos hc]at q;obtain⟨kg,nd,nh⟩:=hc;have pt:∀d∈ds,N7 d=true:=aAW.mp kg;have st:t6 X.K H1 O its ds:=t6.of rv rr;have hlen:its.length=ds.length:=st.length;have each:∀u∈its,∃d,d∈ds/\N7 d=true/\HV s1.heap u d:=λu hu=>by obtain⟨d,hd,v,rv,rp⟩:=st.get hu;exact⟨d,hd,pt d hd,J3 I1 rp (z6<|pt d hd) rv⟩
   refine TS.sorted_keys (vs:=its) (f:=true) (key:=FE s1.heap) (C:=λs'=>∃h',s'={s1 with heap:=h'}/\∀b o,s1.heap.get? b=some o->h'.get? b=some o)
    (λ{Q'} hq=>collect_list hl (hq _ ⟨_,rfl,λb o e=>?_⟩) (by rw[hlen];exact aAo nh (by decide)))
    (λs' ⟨h',es',k⟩ s6 k6 x hx y hy prog w A E hA {Q} qq=>?_) (λh2 s' ⟨h',es',k⟩ s6 k6 A {Q} qq=>?_) (by rw[hlen];lia) λs' dh h' l ⟨h1,es',k⟩ pm we k2 hl ⟨n,gl⟩=>?_
   ·exact(aAr _ _<|aBQ<|aAj<|aAf e).trans (aAc _ e)
   ·subst es';obtain⟨d,_,pd,kh⟩:=each x hx;obtain⟨d',_,wg,ki⟩:=each y hy;rw[dC pd kh,dC wg ki]at qq;exact MB pd wg (kh.keeps λb o e _=>k6 b o (k b o e)) (ki.keeps λb o e _=>k6 b o (k b o e)) qq
   ·subst es';refine xI (λx hx=>?_) h2 qq;obtain⟨d,_,pd,kh⟩:=each x hx;exact⟨d,pd,kh.keeps λb o e _=>k6 b o (k b o e)⟩
   ·subst es';obtain⟨jo,ye,p2,ni⟩:=iD (key:=FE s1.heap) st pm we (λu d ⟨v,rv,rp⟩ hd=>dC (pt d hd) (J3 I1 rp (z6<|pt d hd) rv)) pt nd;have e2:jo=W7 ds:=cV ni (T5 ds) λd=>by rw[p2.mem_iff,F5 pt]
    subst e2;obtain⟨wv,jt,jh⟩:=ye.ab8;have I2':=I1.kept (h':=h1) (t':=s1.toks) k;have I3:=I2'.laid (a:=l) (o:=.lst wv) (h':=h') (t':=s1.toks) k2 hl ⟨by rw[jh.length,p2.length_eq];exact aAo nh (by decide),dh,n,jt,gl⟩;exact⟨.ref l,_,I3,rfl,q wv _ l sm (I2'.hok.fresh hl) jh⟩
  ·rw[if_neg hc]at q;exact q.elim
end
end DL
namespace SD
open PySem
section
variable{prog:Program} {w:World} {A:Around} {E:A3} {s:Shared} {d it:Addr} {es:Array DictEntry} {ep i:Nat}
end
section
variable{prog:Program} {w:World} {A:Around} {E:A3} {s:Shared} {d:Addr} {es:Array DictEntry} {ep:Nat}
end
end SD
namespace DL
open PySem L2
section
variable [Tabs]
end
end DL
namespace M
open PySem L2 DL
variable [Tabs]
def WG {l:List Int}{P:G.V}(h:aN l)(hP:Sz 50 P):Sz 300 ((Y1 l).put P):=by
 have g:∀k,bits (l.getD k 0)<=100:=λk=>by
  rw[aAn];cases e:l[k]? with
  |none=>exact(show bits 0<=100 by decide)
  |some i=>exact h.2 i (aAt e)
 have hx:bits (P.x+l.getD 0 0*P.y)<=151:=bits_add (j1 hP.1 (by decide)) (bits_mul (g 0) hP.2.1);have hy:bits (P.y+l.getD 1 0*P.z)<=151:=bits_add (j1 hP.2.1 (by decide)) (bits_mul (g 1) hP.2.2);have hz:bits (P.z+l.getD 2 0*(P.x+l.getD 0 0*P.y))<=252:=bits_add (j1 hP.2.2 (by decide)) (bits_mul (g 2) hx);have ad:∀{x:Int} (k:Nat),bits x<=252->bits (x+l.getD k 0)<=300:=λk h=>j1 (bits_add h (j1 (g k) (by decide))) (by decide);have hx':=j1 hx (show 151<=252 by decide);have hy':=j1 hy (show 151<=252 by decide);unfold Y1 G.Sl.put;dsimp only;split
 ·exact⟨ad 3 hy',ad 4 hx',ad 5 hz⟩
 ·exact⟨ad 3 hx',ad 4 hy',ad 5 hz⟩
def GD (s:G.Sl){pts:List G.V}(h:G.j9 pts):G.j9 (pts.map s.put):=G.NI s.unit (λX hX=>by rw[<-s.ac8];exact aBj hX) h
def fd4 (f:G.V×Int):D:=pT f.1 f.2
def CD (a n:Nat):List D:=(List.range' a n).map λ(k:Nat)=>D.int (k:Int)
def xz {a b:Nat}(ha:a<=1000000)(h:b<=1000000):gC [.int (a:Int),.int (b:Int)]=.ok (CD a (b-a)):=by
 show(if pD (a:Int) (b:Int) 1 then R.ok (uM a 1<|gA a b 1)else R.bad)=_;rw[if_pos ⟨by decide,by decide,by lia,by lia,by lia,by lia⟩];have e:gA (a:Int) (b:Int) 1=b-a:=by
  unfold gA;split
  ·simp
  ·lia
 rw[e];unfold uM CD;rw[List.range'_eq_map_range,aBk];congr 1;refine aDE λk _=>?_;simp
def VO (kvs:List (D×D)):List D:=kvs.map (·.1)
def Cov (S:List G.V)(kvs:List (D×D))(i j k:Nat):Prop:=∀A B C,S[i]?=some A->S[j]?=some B->S[k]?=some C->(G.Up S A B C->fd4 (G.j6 A B C)∈VO kvs)/\(G.Dn S A B C->fd4 (G.j6 A C B)∈VO kvs)
def QG (S:List G.V)(kvs:List (D×D))(i j k:Nat):Prop:=∀i' j' k',i'<j'->j'<k'->(i'<i\/(i'=i/\(j'<j\/(j'=j/\k'<k))))->Cov S kvs i' j' k'
def vX {r:R Out}{ρ:Ev}{F:Ev->R Out}{x:R Out}(h1:r=.ok (.nx ρ))(h2:F ρ=x):C1 r F=x:=by rw[h1];exact h2
def ZZ (cs:List G.V)(k:Int):G.V:=cs.getD (k.fmod cs.length).toNat 0
def DQ {cs:List G.V}(h:cs≠[])(k:Int):ZZ cs k∈cs/\cs[(k.fmod cs.length).toNat]?=some (ZZ cs k)/\0<=k.fmod cs.length:=by
 have l0:(0:Int)<cs.length:=by
  have:cs.length≠0:=λz=>h (aDb z)
  lia
 have r:=V0 (a:=k) l0;have hk:(k.fmod cs.length).toNat<cs.length:=by lia
 unfold ZZ;rw[aAn,aAh hk];exact⟨aBN hk,rfl,r.1⟩
def kq {cs:List G.V}(h:cs≠[])(k:Int):M1 (.lst (cs.map vd)) (.int (k.fmod cs.length))=.ok (vd (ZZ cs k)):=by obtain⟨_,e,r⟩:=DQ h k;exact M0 (by rw[Y8 r,aAG,e];rfl)
def QA {a b:Int}(ha:0<=a)(ha1:a<=100)(hb:0<=b)(hb1:b<=100):∃ds,gC [.int a,.int b]=.ok ds/\∀d∈ds,∃k:Int,d=.int k/\0<=k/\k<=100:=by
 refine⟨CD a.toNat (b.toNat-a.toNat),?_,λd hd=>?_⟩
 ·have:=xz (a:=a.toNat) (b:=b.toNat) (by lia) (by lia);rw[Int.toNat_of_nonneg ha,Int.toNat_of_nonneg hb]at this;exact this
 ·unfold CD at hd;obtain⟨k,hk,rfl⟩:=aAi.mp hd;rw[List.mem_range'_1]at hk;exact⟨k,rfl,by lia,by lia⟩
end M
namespace DL
open PySem PySem.Spec L2
open PyProof.Rows hiding St
def RZ (d:D):Bool:=N7 d&&(flat d).length==3
def kW:D->Bool
 |.tup [p,q]=>RZ p&&RZ q
 |_=>false
def F3:D->List Int
 |.tup [p,q]=>flat p++flat q
 |_=>[]
def mK (h:RZ d=true):N7 d=true/\(flat d).length=3:=by unfold RZ at h;rw[aAI,beq_iff_eq]at h;exact h
def jP (h:kW d=true):∃p q,d=.tup [p,q]/\N7 p=true/\N7 q=true/\(flat p).length=3/\(flat q).length=3:=by
 unfold kW at h;split at h
 ·rw[aAI]at h;exact⟨_,_,rfl,(mK h.1).1,(mK h.2).1,(mK h.1).2,(mK h.2).2⟩
 ·cases h
def gI (h:kW d=true):mJ d=true:=by obtain⟨p,q,rfl,h1,h2,_⟩:=jP h;simp[mJ,eS,z6 h1,z6 h2]
def xT (h:N7 d=true):B7 d<=3:=by
 rw[(cR h).2,B7];have:∀l:List Int,B8 (l.map D.int)<=2:=λl=>by
  induction l with
  |nil=>simp[B8]
  |cons i l ih=>rw[aAv,B8];simp[B7];lia
 have:=this (flat d)
 lia
def SO (h:kW d=true):B7 d<8:=by
 obtain⟨p,q,rfl,h1,h2,_⟩:=jP h;have:=xT h1;have:=xT h2;simp only[B7,B8]
 lia
theorem EY {b e:List Int}:∀{a c:List Int},a.length=c.length->HT.lexLt (a++b) (c++e)=if a=c then HT.lexLt b e else HT.lexLt a c
 |[],[],_=>by simp
 |x::a,y::c,h=>by
  have ih:=EY (b:=b) (e:=e) (a:=a) (c:=c) (by simpa using h);rw[aBl,aBl,HT.lexLt_cons,HT.lexLt_cons,ih];by_cases hx:x=y
  ·subst hx;by_cases ha:a=c
   ·simp[ha]
   ·simp[ha]
  ·simp[hx]
variable [Tabs]
def FI (h:Heap) (v:Value):List Int:=open Classical in if p:∃d,kW d=true/\HV h v d then F3 p.choose else[]
def dD (hp:kW d=true)(hv:HV h v d):FI h v=F3 d:=by unfold FI;have q:∃d,kW d=true/\HV h v d:=⟨d,hp,hv⟩;rw[dif_pos q,HV.inj q.choose_spec.2 hv]
def tU (hp:kW d=true)(hv:HV h v d):∃b u w p q,v=.ref b/\IsTup h b #[u,w]/\d=.tup [p,q]/\HV h u p/\HV h w q/\N7 p=true/\N7 q=true/\(flat p).length=3:=by
 obtain⟨p,q,rfl,h1,h2,h3,_⟩:=jP hp;cases hv with
 |@tup b items _ t r=>
  obtain⟨l⟩:=items;have r:HVs h l [p,q]:=r;cases r with
  |cons r1 r=>
   cases r with
   |cons r2 r=>cases r;exact⟨_,_,_,_,_,rfl,t,rfl,r1,r2,h1,h2,h3⟩
def LJ {prog:Program}{w:World}{A:Around}{E:A3}{s:Shared}{x y:Value}{d e:D}{Q:uX}(hA:A.units+8<cLine)(hd:kW d=true)(he:kW e=true)(hx:HV s.heap x d)(hy:HV s.heap y e)(q:Q (HT.lexLt (F3 d) (F3 e)) s):wpAny (model prog w) A (keyLt' (TS.tupK false) x y) Q E s:=by
 obtain⟨b,u,w1,p,p',rfl,t1,rfl,v1,v2,h1,h2,h3⟩:=tU hd hx;obtain⟨b',u',w1',r,r',rfl,t1',rfl,v1',v2',qf,qo,vc⟩:=tU he hy;obtain⟨c1,i1,rfl,s1,ia1⟩:=F6 h1 v1;obtain⟨c2,i2,rfl,s2,ia2⟩:=F6 qf v1';obtain⟨c3,i3,rfl,s3,ia3⟩:=F6 h2 v2;obtain⟨c4,i4,rfl,s4,ia4⟩:=F6 qo v2';have d1:=mG h1;have d2:=mG h2;refine TS.lt_two (e1:=u6 p r) (e2:=u6 p' r') (b1:=HT.lexLt (flat p) (flat r)) (b2:=HT.lexLt (flat p') (flat r')) t1 t1' rfl (rD v1 v1' (by lia)) (λ_=>TS.oneLt_tup s1 s2 ia1 ia2 (by lia)) (λ_=>rD v2 v2' (by lia)) (λ_ _=>TS.oneLt_tup s3 s4 ia3 ia4 (by lia)) ?_;have key:(bif u6 p r then(bif u6 p' r' then false else HT.lexLt (flat p') (flat r'))else HT.lexLt (flat p) (flat r))=HT.lexLt (flat p++flat p') (flat r++flat r'):=by
  rw[EY (by rw[h3,vc])];cases z:u6 p r with
  |true=>
   have ep:=bH (z6 h1) (z6 qf) z;subst ep;rw[if_pos rfl];cases z2:u6 p' r' with
   |true=>have eq:=bH (z6 h2) (z6 qo) z2;subst eq;exact(TS.lex_irrefl _).symm
   |false=>rfl
  |false=>
   rw[if_neg λc=>?_]
   ·rfl
   ·have:=cS h1 qf c;subst this;rw[P8]at z;cases z
 rw[key];exact q
def yO {prog:Program}{w:World}{A:Around}{E:A3}{s:Shared}{vs:List Value}{Q:SortKind->Shared->Prop}(h:∀x∈vs,∃d,kW d=true/\HV s.heap x d)(h2:2<=vs.length)(q:Q (TS.tupK false) s):wpAny (model prog w) A (keyKind' vs.toArray) Q E s:=by
 have sg:∀x∈vs,∃p,∃b items,x=.ref b/\IsTup s.heap b items/\items[0]?=some p/\s.TypeIs p "tuple":=λx hx=>by obtain⟨d,hp,hv⟩:=h x hx;obtain⟨b,u,w1,p,p',rfl,t1,rfl,v1,v2,h1,_⟩:=tU hp hv;obtain⟨c1,i1,rfl,⟨o1,g1,cc1,_⟩,ia1⟩:=F6 h1 v1;exact⟨_,b,_,rfl,t1,rfl,⟨o1,g1,cc1⟩⟩
 obtain⟨gf,hgf⟩:∃gf:Value->Value,∀x∈vs,∃b items,x=.ref b/\IsTup s.heap b items/\items[0]?=some (gf x)/\s.TypeIs (gf x) "tuple":=by refine⟨λx=>open Classical in if z:x∈vs then(sg x z).choose else .none,λx hx=>?_⟩;dsimp only;rw[dif_pos hx];exact(sg x hx).choose_spec
 exact TS.kind_tuples (T:= "tuple") gf hgf (λz=>by rw[z]at h2;simp at h2) (by decide) q
def vq:D->R (List D)
 |.lst ds=>if ds.all kW=true/\(ds.map F3).Nodup/\ds.length<=63 then .ok (W6 F3 ds)else .bad
 |_=>.bad
def BQ {p pos:Pos}{f:Ev->R D}(ha:PB X e f)(hh:X.calm=true)(hu:X.A.units+300<cLine)(hg:Gl X "sorted":=by rfl)(hm:X.mg "sorted"=none:=by assumption)(hv:bootBuiltins "sorted"=some (.builtin "sorted"):=by decide+kernel)(he:starEach [e] X.env=(false,eval e X.env)::starEach [] X.env:=by rfl)(bf:(backTo pos (starEach [] X.env)).any (·.1)=false:=by rfl):
  PF X (.Call (.Name "sorted" p) [e] [] pos) (λρ=>(f ρ).bind vq):=by
 refine uJ λpins s σ H Q I H9 O0 O ρ E q=>?_;dsimp only at q;refine aAM (K9 I hg hm hv ?_ (by decide) (by decide));have ku:PA X [e] _:=J1 ha X1 he;refine aBq (D8 (ku pos pins s σ H (λvs H1=>∃v ds,vs=[v]/\f ρ=.ok (.lst ds)/\Same H H1/\A5 X.K H1 O v (.lst ds)) I ⟨H9,O0,O,ρ,E,?_⟩) λus s1 ⟨vs,H1,I1,r1,v,ds,ev,ef,sm,rb⟩=>?_) he bf
 ·cases e1:f ρ with
  |ex z=>rw[e1]at q;exact q
  |bad=>rw[e1]at q;exact q.elim
  |ok d=>
   rw[e1,R.aa0]at q;cases d with
   |lst ds=>exactλv H1 s1 r1=>⟨v,ds,rfl,rfl,s1,r1⟩
   |_=>exact aAk q
 ·subst ev;rw[ef,R.aa0]at q;obtain⟨a,ws,rfl,hS,rr⟩:=rb.aa5;obtain⟨u,rfl,ru⟩:=vals1 r1;cases ru;obtain⟨its,rv,⟨oL,nL,gL,cL,dL,sL⟩,zL⟩:=I1.list hS;have hl:s1.heap.IsList a its.toArray:=⟨oL,gL,cL,nL,sL⟩;simp only[vq]at q;by_cases hc:ds.all kW=true/\(ds.map F3).Nodup/\ds.length<=63
  ·rw[if_pos hc]at q;obtain⟨kg,nd,nh⟩:=hc;have pr:∀d∈ds,kW d=true:=aAW.mp kg;have st:t6 X.K H1 O its ds:=t6.of rv rr;have hlen:its.length=ds.length:=st.length;have each:∀u∈its,∃d,d∈ds/\kW d=true/\HV s1.heap u d:=λu hu=>by obtain⟨d,hd,v,rv,rp⟩:=st.get hu;exact⟨d,hd,pr d hd,J3 I1 rp (gI<|pr d hd) rv⟩
   refine TS.sorted_keys (vs:=its) (f:=false) (key:=FI s1.heap) (C:=λs'=>∃h',s'={s1 with heap:=h'}/\∀b o,s1.heap.get? b=some o->h'.get? b=some o)
    (λ{Q'} hq=>collect_list hl (hq _ ⟨_,rfl,λb o e=>?_⟩) (by rw[hlen];exact aAo nh (by decide)))
    (λs' ⟨h',es',k⟩ s6 k6 x hx y hy prog w A E hA {Q} qq=>?_) (λh2 s' ⟨h',es',k⟩ s6 k6 A {Q} qq=>?_) (by rw[hlen];lia) λs' dh h' l ⟨h1,es',k⟩ pm we k2 hl ⟨n,gl⟩=>?_
   ·exact(aAr _ _<|aBQ<|aAj<|aAf e).trans (aAc _ e)
   ·subst es';obtain⟨d,_,pd,kh⟩:=each x hx;obtain⟨d',_,wg,ki⟩:=each y hy;rw[dD pd kh,dD wg ki]at qq;exact LJ (by lia) pd wg (kh.keeps λb o e _=>k6 b o (k b o e)) (ki.keeps λb o e _=>k6 b o (k b o e)) qq
   ·subst es';refine yO (λx hx=>?_) h2 qq;obtain⟨d,_,pd,kh⟩:=each x hx;exact⟨d,pd,kh.keeps λb o e _=>k6 b o (k b o e)⟩
   ·subst es';obtain⟨jo,p2,iu⟩:=O7 pm st;have hk:∀u d,(∃v,RelV v u/\Rep X.K H1 O v d)->d∈ds->FI s1.heap u=F3 d:=λu d ⟨v,rv,rp⟩ hd=>dD (pr d hd) (J3 I1 rp (gI<|pr d hd) rv);have pf:(jo.map F3).Nodup:=(p2.map F3).nodup_iff.mpr nd;have ni:lO F3 jo:=tH (R:=λu d=>∃v,RelV v u/\Rep X.K H1 O v d) iu we pf λu d h hd=>hk u d h (p2.mem_iff.mp hd);have e2:jo=W6 F3 ds:=T1 ni (M6 nd) (p2.trans (w6 F3 ds).symm);subst e2;obtain⟨wv,jt,jh⟩:=t6.ab8 iu;have I2':=I1.kept (h':=h1) (t':=s1.toks) k;have I3:=I2'.laid (a:=l) (o:=.lst wv) (h':=h') (t':=s1.toks) k2 hl ⟨by rw[jh.length,(w6 F3 ds).length_eq];exact aAo nh (by decide),dh,n,jt,gl⟩;exact⟨.ref l,_,I3,rfl,q wv _ l sm (I2'.hok.fresh hl) jh⟩
  ·rw[if_neg hc]at q;exact q.elim
def RI (h:kW d=true)(h':kW e=true)(k:F3 d=F3 e):d=e:=by obtain⟨p,q,rfl,h1,h2,h3,h4⟩:=jP h;obtain⟨p',q',rfl,qf,qo,vc,h4'⟩:=jP h';have k:flat p++flat q=flat p'++flat q':=k;obtain⟨a,b⟩:=List.append_inj k (by rw[h3,vc]);rw[cS h1 qf a,cS h2 qo b]
open Classical in
def tL (ds:List D):List D:=ds.foldr (λd l=>if d∈l then l else d::l) []
def iN {ds:List D}{d:D}:d∈tL ds↔d∈ds:=by
 unfold tL;induction ds with
 |nil=>exact Iff.rfl
 |cons e ds ih=>
  rw[List.foldr_cons,aAd,<-ih];split
  ·rename_i h;exact⟨.inr,λz=>z.elim (λq=>q▸h) id⟩
  ·exact aAd
def jU (ds:List D):(tL ds).Nodup:=by
 unfold tL;induction ds with
 |nil=>exact .nil
 |cons e ds ih=>
  rw[List.foldr_cons];split
  ·exact ih
  ·rename_i h;exact aAE.mpr ⟨h,ih⟩
def gG {ds:List D}(h:∀d∈ds,kW d=true)(nd:ds.Nodup):(ds.map F3).Nodup:=by
 induction ds with
 |nil=>exact .nil
 |cons e ds ih=>obtain⟨n1,n2⟩:=aAE.mp nd;rw[aAv];refine aAE.mpr ⟨λz=>?_,ih (λd hd=>h d (.tail _ hd)) n2⟩;obtain⟨d,hd,k⟩:=aAi.mp z;exact n1 (RI (h d<|.tail _ hd) (h e<|.head _) k▸hd)
def MN:D->R (List D)
 |.lst ds=>if ds.all kW=true/\(tL ds).length<=63 then .ok (W6 F3 (tL ds))else .bad
 |_=>.bad
def pN {p p2 bp:Pos}{f:Ev->R D}(ha:PB X e f)(hh:X.calm=true)(hu:X.A.units+300<cLine)(hg:Gl X "set":=by rfl)(hm:X.mg "set"=none:=by assumption)(za:Gl X "sorted":=by rfl)(jr:X.mg "sorted"=none:=by assumption)
  (hv:bootBuiltins "set"=some (.type "set"):=by decide+kernel) (zb:bootBuiltins "sorted"=some (.builtin "sorted"):=by decide+kernel)
  (he:starEach [e] X.env=(false,eval e X.env)::starEach [] X.env:=by rfl) (bf:(backTo bp (starEach [] X.env)).any (·.1)=false:=by rfl)
  (lu:starEach [.Call (.Name "set" p2) [e] [] bp] X.env=(false,eval (.Call (.Name "set" p2) [e] [] bp) X.env)::starEach [] X.env:=by rfl) (sr:(backTo pos (starEach [] X.env)).any (·.1)=false:=by rfl):
  PF X (.Call (.Name "sorted" p) [.Call (.Name "set" p2) [e] [] bp] [] pos) (λρ=>(f ρ).bind MN):=by
 refine uJ λpins s σ H Q I H9 O0 O ρ E q=>?_;dsimp only at q;refine aAM (K9 I za jr zb ?_ (by decide) (by decide));have ku:PA X [.Call (.Name "set" p2) [e] [] bp] _:=J1 (CN (p:=p2) (B:=kW) (U:=tL) (λh=>⟨gI h,SO h,by obtain⟨p,q,rfl,_⟩:=jP h;exact⟨_,rfl⟩⟩) (λ_ d=>iN) ha hh hu hg hm hv he bf) X1 lu;refine aBq (D8 (ku pos pins s σ H (λvs H2=>∃S o es au ds H1,vs=[.ref S]/\H2=upd H1 S (.frz o (.own S))/\f ρ=.ok (.lst ds)/\(ds.all kW=true/\(tL ds).length<=63)/\Same H H1/\H1 S=none/\WS X.w o es/\t6 X.K H1 O es au/\au.Nodup/\(∀d,d∈au↔d∈ds)) I ⟨H9,O0,O,ρ,E,?_⟩)
  λus s1 z=>?_) lu sr
 ·cases e1:f ρ with
  |ex z=>rw[e1]at q;exact q
  |bad=>rw[e1]at q;exact q.elim
  |ok d=>
   rw[e1,R.aa0]at q;cases d with
   |lst ds=>
    simp only[MN]at q;by_cases hc:ds.all kW=true/\(tL ds).length<=63
    ·exact⟨hc,λS o es au H1 sm hS so st nd mem=>⟨S,o,es,au,ds,H1,rfl,rfl,rfl,hc,sm,hS,so,st,nd,mem⟩⟩
    ·rw[if_neg hc]at q;exact q.elim
   |_=>exact q.elim
 ·obtain⟨vs,H2,I2,r1,S,o,es,au,ds,H1,ev,eH,ef,⟨hp,nh⟩,sm,hS1,so,st,nd,mem⟩:=z;subst ev eH;obtain⟨u,rfl,ru⟩:=vals1 r1;cases ru;rw[ef,R.aa0]at q;simp only[MN]at q;rw[if_pos ⟨hp,nh⟩]at q;have pr:∀d∈ds,kW d=true:=aAW.mp hp;have pr':∀d∈au,kW d=true:=λd hd=>pr d ((mem d).mp hd);have s12:Same H1 (upd H1 S<|.frz o (.own S)):=j7 hS1 _;have iu:=st.same s12;obtain⟨hc,ea,ep,t,hd,hf,hpln,led,asc,ees⟩:=so;have goS:=(I2.hok S _ j4).1;have hS2:SI.IsSet s1.heap S ea ep t:=⟨o,goS,hc.1,hd⟩;have xp:(tL ds).Perm au:=by
   letI:DecidableEq D:=λa b=>aCX _
   exact(aCa (jU ds) nd).mpr λd=>by rw[iN,mem]
  have hsz:ea.size=au.length:=by have:=st.length;rw[<-ees]at this;simpa using this
  have h63':au.length<=63:=by rw[<-xp.length_eq];exact nh
  have wp:=SI.walkL_perm X.w S ea ep;have wpv:((SI.walkL X.w S ea ep).map (·.2)).Perm es:=by rw[<-ees];exact wp.map _
  have each:∀u∈(SI.walkL X.w S ea ep).map (·.2),∃d,d∈au/\kW d=true/\HV s1.heap u d:=λu hu=>by obtain⟨d,hd,v,rv,rp⟩:=iu.get (wpv.mem_iff.mp hu);exact⟨d,hd,pr' d hd,J3 I2 rp (gI<|pr' d hd) rv⟩
  refine TS.sorted_keys (vs:=(SI.walkL X.w S ea ep).map (·.2)) (f:=false) (key:=FI s1.heap) (C:=λs'=>∃h' tk,s'={s1 with heap:=h',toks:=tk}/\∀b o,s1.heap.get? b=some o->h'.get? b=some o)
   (λ{Q'} hq=>SI.collect_set (by simp[I2.ok.hd hh]) hS2 hf hpln (λnb=>by rw[led];simpa using nb) asc (by rw[hsz];exact aAo h63' (by decide)) λh' tk k=>hq _ ⟨h',tk,rfl,k⟩)
   (λs' ⟨h',tk,es',k⟩ s6 k6 x hx y hy prog w A E hA {Q} qq=>?_) (λh2 s' ⟨h',tk,es',k⟩ s6 k6 A {Q} qq=>?_) (by rw[aAl,wp.length_eq,aAU,hsz];lia) λs' dh h' l ⟨h1,tk,es',k⟩ pm we k2 hl ⟨n,gl⟩=>?_
  ·subst es';obtain⟨d,_,pd,kh⟩:=each x hx;obtain⟨d',_,wg,ki⟩:=each y hy;rw[dD pd kh,dD wg ki]at qq;exact LJ (by lia) pd wg (kh.keeps λb o e _=>k6 b o (k b o e)) (ki.keeps λb o e _=>k6 b o (k b o e)) qq
  ·subst es';refine yO (λx hx=>?_) h2 qq;obtain⟨d,_,pd,kh⟩:=each x hx;exact⟨d,pd,kh.keeps λb o e _=>k6 b o (k b o e)⟩
  ·subst es';obtain⟨jo,p2,ye⟩:=O7 (pm.trans wpv) iu;have hk:∀u d,(∃v,RelV v u/\Rep X.K (upd H1 S<|.frz o (.own S)) O v d)->d∈au->FI s1.heap u=F3 d:=λu d ⟨v,rv,rp⟩ hd=>dD (pr' d hd) (J3 I2 rp (gI<|pr' d hd) rv);have nd1:=gG pr' nd;have pf:(jo.map F3).Nodup:=(p2.map F3).nodup_iff.mpr nd1;have ni:lO F3 jo:=tH (R:=λu d=>∃v,RelV v u/\Rep X.K (upd H1 S<|.frz o (.own S)) O v d) ye we pf λu d h hd=>hk u d h (p2.mem_iff.mp hd);have nd3:((tL ds).map F3).Nodup:=(xp.map F3).nodup_iff.mpr nd1;have e2:jo=W6 F3 (tL ds):=T1 ni (M6 nd3) (p2.trans<|xp.symm.trans (w6 F3<|tL ds).symm);subst e2;obtain⟨wv,jt,jh⟩:=t6.ab8 ye;have I2':=I2.kept (h':=h1) (t':=tk) k;have I3:=I2'.laid (a:=l) (o:=.lst wv) (h':=h') (t':=tk) k2 hl ⟨by rw[jh.length,(w6 F3<|tL ds).length_eq];exact aAo nh (by decide),dh,n,jt,gl⟩;exact⟨.ref l,_,I3,rfl,q wv _ l (sm.trans s12) (I2'.hok.fresh hl) jh⟩
end DL
namespace HT
open PySem PyProof.Rows
section
open PySem.SeqAt
open PySem.AutoSeq1 (wpAny_loadPart')
open PySem.MeetsSeq PySem.MeetsSeq2 PySem.MeetsSeq3
def JA (A:Around)(s:Shared)(a:Int)(t:Tok)(c:Int)(u:Tok)(prog:Program)(w:World)(E:A3)(Q:A3)(h:Q (.bool (decide (c<a))) s):
  wpAny (model prog w) A (richCompare .Gt (.int a t) (.int c u)) Q E s:=
 (PyProof.Rows.gt_int h:wpAny (model prog w) A (compareOp .Gt (.int a t) (.int c u)) Q E s)
def qB (l b:Addr)(items ae:Array Value)(n n2:Nat)(dd qm:Option Addr)(sl qc:Array (Option Value))(ns ms:List Int)(hi:IntsAre items.toList ns)(hj:IntsAre ae.toList ms):
  Meets (Builtin.«tuple.__gt__» ⟨[.ref l,.ref b],[]⟩)
   (λ_ R s=>s.heap.get? l=some {cls:=.type "tuple",dict:=dd,data:=.seq items n,slots:=sl}/\s.heap.get? b=some {cls:=.type "tuple",dict:=qm,data:=.seq ae n2,slots:=qc}/\
    R (.ok (.ret (.bool (lexLt ms ns)))) s):=
 .of_wp λprog w A R s h=>by
  obtain⟨hp,g,d,tk,os⟩:=s;obtain⟨hl,hb,h⟩:=h;have f2:=aFa;have z1:items.size=ns.length:=by rw[<-hi.length];simp
  have z2:ae.size=ms.length:=by rw[<-hj.length];simp
  wp_walk using aDm hl,aDm hb,aBX _ (λrest b s'=>b.1=none/\s'=⟨hp,g,d,tk,os⟩/\∃(vs ws:List Value) (mn mo:List Int),rest=vs.zip ws/\
   IntsAre vs mn/\IntsAre ws mo/\mn.length+ae.size=mo.length+items.size/\R (.ok (.ret (.bool (lexLt mo mn)))) ⟨hp,g,d,tk,os⟩) _
  case turn=>
   rintro⟨y,x⟩ rest b s' ⟨ja,rfl,vs,ws,mn,mo,hz,qd,tf,hlen,hR⟩;cases qd with
   |nil=>rw[aFb]at hz;cases hz
   |cons a t hvi'=>
    cases tf with
    |nil=>rw[aEK]at hz;cases hz
    |cons c u hwi'=>
     rw[aBC]at hz;injection hz with xi af;injection xi with hy hx;subst hy hx;rw[lexLt_cons]at hR;simp only[aAu]at hlen;obtain⟨e,he,oi⟩:=nB A.in1 ⟨hp,g,d,tk,os⟩ a t c u;refine aAa (he prog w _ _ ?_);cases e with
     |true=>
      rw[if_pos (oi.mp rfl).symm]at hR
      wp_walk
      exact⟨rfl,rfl,_,_,_,_,af,hvi',hwi',by lia,hR⟩
     |false=>
      rw[if_neg (λq=>absurd (oi.mpr q.symm) aAT)]at hR;have hri:=JA A.in1 ⟨hp,g,d,tk,os⟩ a t c u prog w
      wp_walk using hri
      exact⟨_,rfl,by simpa using hR⟩
  case fin=>
   rintro⟨b1,b2⟩ s' ⟨ja,rfl,vs,ws,mn,mo,hz,qd,tf,hlen,hR⟩;simp only at ja;subst ja;have hv:lexLt mo mn=decide (ae.size<items.size):=by
    cases qd with
    |nil=>
     cases tf with
     |nil=>simp only[aBD]at hlen;rw[N5];exact(decide_eq_false (by lia)).symm
     |cons c u hw=>simp only[aBD,aAu]at hlen;rw[y8];exact(decide_eq_false (by lia)).symm
    |cons a t hv=>
     cases tf with
     |nil=>simp only[aBD,aAu]at hlen;rw[E9];exact(decide_eq_true (by lia)).symm
     |cons c u hw=>rw[aBC]at hz;cases hz
   rw[hv]at hR
   wp_walk
   exact⟨_,rfl,by simpa[aDS]using hR⟩
  case h=>exact⟨rfl,rfl,items.toList,ae.toList,ns,ms,rfl,hi,hj,by lia,h⟩
end
section
variable{prog:Program} {w:World} {A:Around} {E:A3} {s:Shared}
def gt_tupInts {Q:A3}(hl:IsTup s.heap l items)(hb:IsTup s.heap b ae)(hi:IntsAre items.toList ns)(hj:IntsAre ae.toList ms)(hu:A.units<cLine)(h:Q (.bool (lexLt ms ns)) s):wpAny (model prog w) A (compareOp .Gt (.ref l) (.ref b)) Q E s:=by
 obtain⟨⟨cls,dd,data,sl⟩,ho,hc,n,hd⟩:=id hl;obtain⟨⟨yf,qm,data2,qc⟩,jg,jc,n2,hd2⟩:=id hb;simp only at hc hd jc hd2;subst hc hd jc hd2;exact richCompare_meets_room (op:=.Gt) ⟨_,ho,rfl⟩ ⟨_,jg,rfl⟩ PySem.F.slot_tuple_gt PySem.F.entry_tuple_gt (PySem.F.args_tuple_gt_2 _ _) (qB l b items ae n n2 dd qm sl qc ns ms hi hj)
  ⟨ho,jg,show aDc (lexLt ms ns)≠aFL/\Q (.bool (lexLt ms ns)) s from⟨(λx=>nomatch x),h⟩⟩ hu
end
end HT
namespace DL
open PySem PySem.Spec L2
open PyProof.Rows hiding St
variable [Tabs]
def qk (ds:List D)(i j:Nat):Bool:=HT.lexLt (flat<|ds.getD j .non) (flat<|ds.getD i .non)
def oN:List D->R D
 |[.tup ds]=>if ds≠[]/\ds.all N7=true then .ok (ds.getD (argBest (KU ds) (ds.length-1)) .non)else .bad
 |_=>.bad
def mZ:List D->R D
 |[.tup ds]=>if ds≠[]/\ds.all N7=true then .ok (ds.getD (argBest (qk ds) (ds.length-1)) .non)else .bad
 |_=>.bad
def qR {op:CmpOp}{bt:Nat->Nat->Bool}{p:Addr}{ws:List V}{xs:List D}{E:A3}{Q:VK}(hc:X.calm=true)(hu:X.A.units+300<cLine)(I:Inv X pins σ H s)(h1:T2 X.K H p ws)(h2:Reps X.K H O ws xs)(ah:xs≠[])(hp:xs.all N7=true)
  (cmp:∀{i j:Nat} {s:Shared} {l b:Addr} {it it2:Array Value} {E:A3} {Q2:A3},IsTup s.heap l it->IsTup s.heap b it2->IntsAre it.toList (flat (xs.getD i .non))->IntsAre it2.toList (flat (xs.getD j .non))->Q2 (.bool (bt i j)) s->wpAny (model X.prog X.w) X.A.in1 (richCompare op (.ref l) (.ref b)) Q2 E s)
  (q:∀v,Rep X.K H O v (xs.getD (argBest bt (xs.length-1)) .non)->Q v H):
  wpAny (model X.prog X.w) X.A.in1 (pyIter (.ref p)) (λit bc=>∃I fp wr G n P St Hs bt,it=.ref I/\WalksS X.prog X.w X.A.in1 I fp wr G n P St/\St 0 bc/\(∀b∈fp,b<bc.heap.objs.size)/\0<n/\(∀i s,St i s->Hs s.heap)/\MM.CmpOn X.prog X.w X.A.in1 op Hs P bt/\∀v s',P (argBest bt (n-1)) v->Moved wr G bc s'->EP X pins σ Q v s') E s:=by
 have pt:∀d∈xs,N7 d=true:=aAW.mp hp;obtain⟨its,rv2,hl,zL⟩:=I.tuple h1;obtain⟨oL,gL,cL,nL,dL⟩:=id hl;have st:t6 X.K H O its xs:=t6.of rv2 h2;have hlen:its.toArray.size=xs.length:=by rw[aAm,<-rv2.length,h2.length]
 have qr:0<xs.length:=aDD.mpr ah;have W:=MM.walks_more (Walks.tuple (prog:=X.prog) (w:=X.w) (A:=X.A.in1) (by simp[I.ok.hd hc]) s.heap.objs.size p (aAj<|aAf gL) its.toArray) (jV s.heap its)
  (λq hq=>by simp only[aAZ];exact aAj (aAf<|N0 hq))
 refine wpAny_pyIter_tuple hl ⟨s.heap.objs.size,_,_,_,its.toArray.size,_,_,λh=>∀q∈jV s.heap its,h.get? q.1=some q.2,bt,rfl,W.toS,⟨⟨⟨_,aAp _ rfl,rfl,rfl⟩,hl.push _⟩,λq hq=>aAc _ (N0 hq)⟩,λb hb=>?_,by rw[hlen];exact qr,λi s h=>h.2,λi j vi vj s' Q2 E2 hh hi hj hq=>?_,λv s' hP hm=>?_⟩
 ·rw[aBo];rcases aAN.mp hb with hb|hb
  ·rcases aAd.mp hb with rfl|hb
   ·exact aCZ _
   ·rcases aAd.mp hb with rfl|hb
    ·exact aBf (aAf gL)
    ·cases hb
  ·obtain⟨q,hq,rfl⟩:=aAi.mp hb;exact aBf (aAf<|N0 hq)
 ·have one:∀i v,its.toArray[i]?=some v->∃b items,v=.ref b/\IsTup s'.heap b items/\IntsAre items.toList (flat<|xs.getD i .non):=λi v hi=>by
   rw[aBP]at hi;obtain⟨d,hd,w,jt,rp⟩:=A4 st hi;have ko:xs.getD i .non=d:=by rw[aAn,hd];rfl
   rw[ko];have hpt:=pt d (aAt hd);obtain⟨b,items,rfl,⟨o,g,c,n,dd⟩,hia⟩:=F6 hpt (J3 I rp (z6 hpt) jt);exact⟨b,items,rfl,⟨o,hh _ (nS (aAt hi) g),c,n,dd⟩,hia⟩
  obtain⟨b,items,rfl,t1,i1⟩:=one i vi hi;obtain⟨b',rh,rfl,t2,i2⟩:=one j vj hj;exact cmp t1 t2 i1 i2 hq
 ·have hP:its.toArray[argBest bt (its.toArray.size-1)]?=some v:=hP;rw[aBP,hlen]at hP;obtain⟨d,hd,w,jt,rp⟩:=A4 st hP;have ko:xs.getD (argBest bt<|xs.length-1) .non=d:=by rw[aAn,hd];rfl
  rw[ko]at q;have I2:=I.kept (h':=s'.heap) (t':=s'.toks) λb o e=>hm.heap b o (by simp only[aAZ];exact aAj (aAf e)) (aAc _ e);have es:s'={s with heap:=s'.heap,toks:=s'.toks}:=by have g1:=hm.gens;have g2:=hm.drawn;have g3:=hm.os;cases s';simp only at g1 g2 g3;subst g1 g2 g3;rfl
  rw[es];exact⟨w,_,I2,jt,q _ rp⟩
def RY (hc:X.calm=true)(hu:X.A.units+300<cLine):Z5 X (.builtin "min") oN:=by
 intro H O vs ds Q fr r q;match ds,q with
 |[.tup xs],q=>
  obtain⟨v,rfl,z⟩:=CK r;obtain⟨p,ws,rfl,h1,h2⟩:=z.tupI;simp only[oN]at q;by_cases hp:xs≠[]/\xs.all N7=true
  ·rw[if_pos hp]at q;refine⟨λvs H' Q'=>vs=[.ref p]/\H'=H/\Q'=Q,λpins s σ H' xs' us Q' I rv ⟨e1,e2,e3⟩=>?_,rfl,rfl,rfl⟩;subst e1 e2 e3;obtain⟨u,rfl,ru⟩:=vals1 rv;cases ru;exact MM.call_minH (qR (op:=.Lt) (bt:=KU xs) hc hu I h1 h2 hp.1 hp.2 (λt1 t2 i1 i2 hq=>HT.lt_tupInts t1 t2 i1 i2 (by rw[t7];lia) hq) λv r=>q _ _ (Same.refl _) r)
  ·rw[if_neg hp]at q;exact q.elim
def QF (hc:X.calm=true)(hu:X.A.units+300<cLine):Z5 X (.builtin "max") mZ:=by
 intro H O vs ds Q fr r q;match ds,q with
 |[.tup xs],q=>
  obtain⟨v,rfl,z⟩:=CK r;obtain⟨p,ws,rfl,h1,h2⟩:=z.tupI;simp only[mZ]at q;by_cases hp:xs≠[]/\xs.all N7=true
  ·rw[if_pos hp]at q;refine⟨λvs H' Q'=>vs=[.ref p]/\H'=H/\Q'=Q,λpins s σ H' xs' us Q' I rv ⟨e1,e2,e3⟩=>?_,rfl,rfl,rfl⟩;subst e1 e2 e3;obtain⟨u,rfl,ru⟩:=vals1 rv;cases ru;exact MM.call_maxH (qR (op:=.Gt) (bt:=qk xs) hc hu I h1 h2 hp.1 hp.2 (λt1 t2 i1 i2 hq=>HT.gt_tupInts t1 t2 i1 i2 (by rw[t7];lia) hq) λv r=>q _ _ (Same.refl _) r)
  ·rw[if_neg hp]at q;exact q.elim
end DL
namespace M
open PySem L2 DL
variable [Tabs]
def pH (P Q:G.V):Bool:=HT.lexLt [P.x,P.y,P.z] [Q.x,Q.y,Q.z]
def eN (P Q:G.V):G.V:=if pH Q P then Q else P
def eM (P Q:G.V):G.V:=if pH P Q then Q else P
def bW (e:G.V×G.V):D:=.tup [vd (eN e.1 e.2),vd (eM e.1 e.2)]
def UF (P Q:G.V):oN [.tup [vd P,vd Q]]=.ok (vd (eN P Q)):=by
 have e0:oN [.tup [vd P,vd Q]]=R.ok (([vd P,vd Q]:List D).getD (argBest (KU [vd P,vd Q]) 1) .non):=by simp only[oN,mZ];exact if_pos ⟨by simp,rfl⟩
 rw[e0];unfold eN;have e:KU [vd P,vd Q] 1 0=pH Q P:=rfl;cases h:pH Q P with
 |true=>rw[h]at e;simp[argBest,e]
 |false=>rw[h]at e;simp[argBest,e]
def UD (P Q:G.V):mZ [.tup [vd P,vd Q]]=.ok (vd (eM P Q)):=by
 have e0:mZ [.tup [vd P,vd Q]]=R.ok (([vd P,vd Q]:List D).getD (argBest (qk [vd P,vd Q]) 1) .non):=by simp only[oN,mZ];exact if_pos ⟨by simp,rfl⟩
 rw[e0];unfold eM;have e:qk [vd P,vd Q] 1 0=pH P Q:=rfl;cases h:pH P Q with
 |true=>rw[h]at e;simp[argBest,e]
 |false=>rw[h]at e;simp[argBest,e]
def bX (S:List G.V) (fs:List (G.V×Int)):List (G.V×G.V):=fs.flatMap λf=>G.L9 (G.j8 S f)
open Classical in
def iL:List D->R D
 |[.lst ds]=>match D5 ds with
  |some pts=>if N9 900 pts/\G.j9 pts/\(c7 pts).length<=11 then .ok (.lst (W6 F3 (tL ((bX (c7 pts) (k9 (c7 pts))).map bW))))else .bad
  |_=>.bad
 |_=>.bad
theorem vJ {S:List G.V}(k:Nat):∀{gs:List (G.V×Int)},(∀f∈gs,(G.L9 (G.j8 S f)).length<=k)->(bX S gs).length<=gs.length*k
 |[],_=>by simp[bX]
 |f::gs,h=>by
  have ih:=vJ k (gs:=gs) λg hg=>h g (.tail _ hg);have h1:=h f (.head _);have e:bX S (f::gs)=G.L9 (G.j8 S f)++bX S gs:=by simp[bX]
  rw[e,aAz,aAu,aFI]
  lia
def EJ {P Q:G.V}(h1:pH P Q=false)(h2:pH Q P=false):P=Q:=by have:=TS.lex_total _ _ h1 h2;simp only[aEy,and_true]at this;exact G.ext this.1 this.2.1 this.2.2
def cH {P Q:G.V}(h:pH P Q=true):pH Q P=false:=by
 cases z:pH Q P with
 |false=>rfl
 |true=>have:=TS.lex_trans _ _ _ h z;rw[TS.lex_irrefl]at this;cases this
def gM {P Q:G.V}(h:P≠Q):bW (P,Q)=bW (Q,P):=by
 unfold bW eN eM;cases a:pH P Q with
 |true=>rw[cH a];rfl
 |false=>
  cases b:pH Q P with
  |true=>rfl
  |false=>exact absurd (EJ a b) h
def GT:List G.V->List D
 |[]=>[]
 |a::l=>(l.map λb=>bW (a,b))++GT l
theorem vC:∀l:List G.V,2*(GT l).length+l.length=l.length*l.length
 |[]=>rfl
 |a::l=>by
  have ih:=vC l;rw[GT,aAz,aAl,aAu,aFI,Nat.mul_succ]
  lia
theorem wO:∀{l:List G.V} {P Q:G.V},P∈l->Q∈l->P≠Q->bW (P,Q)∈GT l
 |a::l,P,Q,hP,hQ,ne=>by
  rw[GT,aAN];rcases aAd.mp hP with eP|qg
  ·subst eP;rcases aAd.mp hQ with eQ|hQ'
   ·exact absurd eQ.symm ne
   ·exact .inl (aAi.mpr ⟨Q,hQ',rfl⟩)
  ·rcases aAd.mp hQ with eQ|hQ'
   ·subst eQ;exact .inl (aAi.mpr ⟨P,qg,gM ne.symm⟩)
   ·exact .inr (wO qg hQ' ne)
def CC {pts:List G.V}(h1:N9 900 pts)(h2:G.j9 pts)(h3:(c7 pts).length<=11):(tL ((bX (c7 pts) (k9 (c7 pts))).map bW)).length<=63:=by
 obtain⟨hf,ah,hfl⟩:=aF h1 h2 (by lia);have nn:=vC (c7 pts);have n2:(c7 pts).length*(c7 pts).length<=11*(c7 pts).length:=aEn _ h3;have sub:(tL<|(bX (c7 pts)<|k9<|c7 pts).map bW).length<=(GT<|c7 pts).length:=by
  classical
  refine G.C9 (jU _) λd hd=>?_;rw[iN]at hd;obtain⟨e,he,rfl⟩:=aAi.mp hd;obtain⟨f,hF,hc⟩:=aBa.mp he;have S:=((hf f).mp hF).aa2 (x2 pts);have E:=S.aa1.mp hc;have m:=G.tK S (P:=e.1) (Q:=e.2) hc;have on:∀{X:G.V},X∈G.j8 (c7 pts) f->X∈c7 pts:=λhX=>(G.d5.mp<|S.aa3 hX).1;exact wO (on m.1) (on m.2) E.ne
 lia
def GQ {pts:List G.V}(h1:N9 900 pts)(h2:G.j9 pts)(h3:(c7 pts).length<=11):MN (.lst ((bX (c7 pts) (k9 (c7 pts))).map bW))=.ok (W6 F3 (tL ((bX (c7 pts) (k9 (c7 pts))).map bW))):=by have:=CC h1 h2 h3;simp only[MN];exact if_pos ⟨aAW.mpr λd hd=>by obtain⟨e,_,rfl⟩:=aAi.mp hd;rfl,this⟩
def HZ {pts:List G.V}(h1:N9 900 pts)(h2:G.j9 pts)(h3:(c7 pts).length<=11){gs hs:List (G.V×Int)}(e:gs++hs=k9 (c7 pts)):(bX (c7 pts) gs).length<=sizeLine:=by
 obtain⟨hf,ah,hfl⟩:=aF h1 h2 (by lia);have:=vJ (S:=c7 pts) (gs:=gs) 14 λf hF=>by have S:=((hf f).mp (by rw[<-e];exact aBB _ hF)).aa2 (x2 pts);have jn:G.j9 (c7 pts):=dM h2 λv hv=>l9.mpr hv;rw[G.RQ jn (x2 pts)];exact aAo (G.C9 S.aa4 (m:=c7 pts) λv hv=>(G.d5.mp<|S.aa3 hv).1) (by lia)
 have l:gs.length<=2744:=by rw[<-e,aAz]at hfl;lia
 exact aAo (aAo this<|aEn 14 l) (by decide)
def CV (pts:List G.V):List D:=W6 F3 (tL<|(bX (c7 pts)<|k9<|c7 pts).map bW)
def wG {pts:List G.V}(h1:N9 900 pts)(h2:G.j9 pts)(h3:(c7 pts).length<=11):iL [.lst (pts.map vd)]=.ok (.lst (CV pts)):=by simp only[iL,t5];exact if_pos ⟨h1,h2,h3⟩
def oM {pts:List G.V}(h1:N9 900 pts)(h2:G.j9 pts)(h3:(c7 pts).length<=11){d:D}:d∈CV pts↔∃n k P Q,G.IsFace (c7 pts) n k/\G.EdgeOf n (λX=>X∈G.u9 n k (c7 pts)) P Q/\d=bW (P,Q):=by
 obtain⟨hf,ah,hfl⟩:=aF h1 h2 (by lia);unfold CV;rw[(w6 F3 _).mem_iff,iN,aAi];constructor
 ·rintro⟨e,he,rfl⟩;obtain⟨f,hF,hc⟩:=aBa.mp he;have hF:=(hf f).mp hF;exact⟨f.1,f.2,e.1,e.2,hF,(hF.aa2<|x2 pts).aa1.mp hc,rfl⟩
 ·rintro⟨n,k,P,Q,hF,E,rfl⟩;exact⟨(P,Q),aBa.mpr ⟨(n,k),(hf (n,k)).mpr hF,(hF.aa2<|x2 pts).aa1.mpr E⟩,rfl⟩
def zT {pts:List G.V}:lO F3 (CV pts):=M6 (gG (λd hd=>by rw[iN]at hd;obtain⟨e,_,rfl⟩:=aAi.mp hd;rfl)<|jU _)
def LO {pts bu:List G.V}{m:G.Mv}{n P Q:G.V}{k:Int}(hm:G.G4 m.1)(hq:∀Y,Y∈c7 bu↔∃X∈c7 pts,Y=G.j0 m X)(k1:N9 900 bu)(k2:G.j9 bu)(k3:(c7 bu).length<=11)(hf:G.IsFace (c7 pts) n k)(E:G.EdgeOf n (λX=>X∈G.u9 n k (c7 pts)) P Q):bW (G.j0 m P,G.j0 m Q)∈CV bu:=by
 have F:=G.CM hm hq hf;rcases G.TJ hm hq hf E with e|e
 ·exact(oM k1 k2 k3).mpr ⟨_,_,_,_,F,e,rfl⟩
 ·exact(oM k1 k2 k3).mpr ⟨_,_,_,_,F,e,gM e.ne.symm⟩
def LV {pts:List G.V}(h1:N9 900 pts)(h2:G.j9 pts)(h3:(c7 pts).length<=11):(CV pts).length<=63:=by unfold CV;rw[(w6 F3 _).length_eq];exact CC h1 h2 h3
def nF {P Q:G.V}(h:P≠Q):pH (eN P Q) (eM P Q)=true/\((eN P Q=P/\eM P Q=Q)\/(eN P Q=Q/\eM P Q=P)):=by
 unfold eN eM;cases a:pH P Q with
 |true=>rw[cH a];exact⟨a,.inl ⟨rfl,rfl⟩⟩
 |false=>
  cases b:pH Q P with
  |true=>exact⟨b,.inr ⟨rfl,rfl⟩⟩
  |false=>exact absurd (EJ a b) h
def ZU {P Q:G.V}(h:pH P Q=true):eN P Q=P/\eM P Q=Q:=by unfold eN eM;rw[cH h,h];exact⟨rfl,rfl⟩
def tQ {P Q:G.V}(h:pH P Q=true):P≠Q:=λe=>by subst e;have:=cH h;rw[h]at this;cases this
def YJ {f:G.V->G.V}(hf:∀P Q,f P=f Q->P=Q){P Q:G.V}(h:P≠Q):bW (f (eN P Q),f (eM P Q))=bW (f P,f Q):=by
 rcases(nF h).2 with⟨a,b⟩|⟨a,b⟩
 ·rw[a,b]
 ·rw[a,b];exact gM λe=>h (hf _ _ e).symm
def yT {a b c d:D}(h:D.tup [a,b]=D.tup [c,d]):a=c/\b=d:=by simpa using h
def CY {P Q P' Q':G.V}(h:P≠Q)(h':P'≠Q')(e:bW (P,Q)=bW (P',Q')):(P=P'/\Q=Q')\/(P=Q'/\Q=P'):=by
 have:eN P Q=eN P' Q'/\eM P Q=eM P' Q':=by have e:=yT e;exact⟨bK e.1,bK e.2⟩
 rcases(nF h).2 with⟨a,b⟩|⟨a,b⟩<;>rcases(nF h').2 with⟨a',b'⟩|⟨a',b'⟩<;>rw[a,b,a',b']at this<;>simp[this]
def wE {pts:List G.V}(h1:N9 900 pts)(h2:G.j9 pts)(h3:(c7 pts).length<=11):∃es:List (G.V×G.V),CV pts=es.map A6/\∀e∈es,pH e.1 e.2=true/\e.1∈c7 pts/\e.2∈c7 pts:=by
 have all:∀l:List D,(∀d∈l,∃e:G.V×G.V,d=A6 e/\pH e.1 e.2=true/\e.1∈c7 pts/\e.2∈c7 pts)->∃es:List (G.V×G.V),l=es.map A6/\∀e∈es,pH e.1 e.2=true/\e.1∈c7 pts/\e.2∈c7 pts:=λl=>by
  induction l with
  |nil=>exactλ_=>⟨[],rfl,λe he=>by cases he⟩
  |cons d l ih=>
   intro h;obtain⟨es,q,qs⟩:=ih λd hd=>h d (.tail _ hd);obtain⟨e,q2,q3⟩:=h d (.head _);refine⟨e::es,by rw[q2,q];rfl,λe' he=>?_⟩;rcases aAd.mp he with rfl|he
   ·exact q3
   ·exact qs e' he
 refine all _ λd hd=>?_;obtain⟨n,k,P,Q,hF,E,rfl⟩:=(oM h1 h2 h3).mp hd;have hP:=(G.d5.mp E.p).1;have hQ:=(G.d5.mp E.q).1;refine⟨(eN P Q,eM P Q),rfl,(nF E.ne).1,?_⟩;rcases(nF E.ne).2 with⟨a,b⟩|⟨a,b⟩
 ·rw[a,b];exact⟨hP,hQ⟩
 ·rw[a,b];exact⟨hQ,hP⟩
def ZB {pts bu:List G.V}{m:G.Mv}{es:List (G.V×G.V)}(hm:G.G4 m.1)(hq:∀Y,Y∈c7 bu↔∃X∈c7 pts,Y=G.j0 m X)(h1:N9 900 pts)(h2:G.j9 pts)(h3:(c7 pts).length<=11)(k1:N9 900 bu)(k2:G.j9 bu)(k3:(c7 bu).length<=11)(ee:CV pts=es.map A6)(el:∀e∈es,pH e.1 e.2=true):vq (.lst (es.map λe=>bW (G.j0 m e.1,G.j0 m e.2)))=.ok (CV bu):=by
 have inj:∀P Q,G.j0 m P=G.j0 m Q->P=Q:=λP Q e=>G.Z9 hm e;have al:∀d∈es.map (λe=>bW (G.j0 m e.1,G.j0 m e.2)),kW d=true:=λd hd=>by obtain⟨e,_,rfl⟩:=aAi.mp hd;rfl
 have nd0:(es.map A6).Nodup:=by rw[<-ee];exact M9 zT
 have nd:(es.map λe=>bW (G.j0 m e.1,G.j0 m e.2)).Nodup:=by
  refine aBg.mpr ((aBg.mp nd0).imp_of_mem λ{a b} ha hb ne e=>?_);have la:=el a ha;have lb:=el b hb;rcases CY (λz=>tQ la (inj _ _ z)) (λz=>tQ lb (inj _ _ z)) e with⟨x,y⟩|⟨x,y⟩
  ·exact ne (by rw[show a=b from aFJ (inj _ _ x) (inj _ _ y)])
  ·rw[inj _ _ x,inj _ _ y,cH lb]at la;cases la
 have ln:(es.map λe=>bW (G.j0 m e.1,G.j0 m e.2)).length<=63:=by have:=LV h1 h2 h3;rw[ee]at this;simpa using this
 have ndk:=gG al nd;show(if _ then _ else _)=_;rw[if_pos ⟨aAW.mpr al,ndk,ln⟩];congr 1;refine T1 (M6 ndk) zT ((w6 F3 _).trans ((aCa nd<|M9 zT).mpr λd=>⟨λhd=>?_,λhd=>?_⟩))
 ·obtain⟨e,he,rfl⟩:=aAi.mp hd;have:A6 e∈CV pts:=by rw[ee];exact aBj he
  obtain⟨n,k,P,Q,hF,E,q⟩:=(oM h1 h2 h3).mp this;have q2:=ZU (el e he);have q:bW (e.1,e.2)=bW (P,Q):=by rw[<-q];unfold bW;dsimp only;rw[q2.1,q2.2]
  have F:=LO hm hq k1 k2 k3 hF E;rcases CY (tQ<|el e he) E.ne q with⟨a,b⟩|⟨a,b⟩
  ·rw[a,b];exact F
  ·rw[a,b,gM λz=>E.ne (inj _ _ z).symm];exact F
 ·obtain⟨n,k,P,Q,hF,E,rfl⟩:=(oM k1 k2 k3).mp hd;have hb:=G.MK hm hq;have F:=LO (G.yB hm) hb h1 h2 h3 hF E;obtain⟨P,hP,rfl⟩:=(hq P).mp (G.d5.mp E.p).1;obtain⟨Q,hQ,rfl⟩:=(hq Q).mp (G.d5.mp E.q).1;rw[G.T8 hm,G.T8 hm,ee]at F;obtain⟨e,he,q⟩:=aAi.mp F;have ne:P≠Q:=λz=>E.ne (by rw[z]);have q2:e.1=eN P Q/\e.2=eM P Q:=by have q:=yT q;exact⟨bK q.1,bK q.2⟩
  refine aAi.mpr ⟨e,he,?_⟩;rw[q2.1,q2.2];exact YJ inj ne
def zM {P Q:G.V}(h:P≠Q):ZL (.lst [vd P,vd Q])=.ok [vd (eN P Q),vd (eM P Q)]:=by
 have nd:[vd P,vd Q].Nodup:=by simp only[aAE,aAd,aAB,or_false,not_false_eq_true,aCK,and_true];exactλe=>h (bK e)
 show(if _ then _ else _)=_;rw[if_pos ⟨nU [P,Q],nd,by simp⟩];congr 1;refine cV (T5 _) (List.pairwise_pair.mpr (nF h).1) λd=>?_;rw[F5 (ds:=[vd P,vd Q]) (aAW.mp<|nU [P,Q])];rcases(nF h).2 with⟨a,b⟩|⟨a,b⟩<;>rw[a,b]<;>simp[or_comm]
def zH {pts:List G.V}(h:pts.Nodup)(hl:pts.length<=63):ZL (.lst (pts.map vd))=.ok ((c7 pts).map vd):=by show(if _ then _ else _)=_;rw[if_pos ⟨nU pts,aBg.mpr (h.imp λ{a b} n e=>n (bK e)),by rw[aAl];exact hl⟩,U5]
def XB {pts:List G.V}(h1:N9 900 pts)(h2:G.j9 pts)(h3:(c7 pts).length<=11):B7 (.lst (CV pts))<=40:=by
 obtain⟨es,e,_⟩:=wE h1 h2 h3;rw[e];have:∀es:List (G.V×G.V),B8 (es.map A6)<=9:=λes=>by
  induction es with
  |nil=>simp[B8]
  |cons a l ih=>
   have:B7 (A6 a)<=6:=by simp[B7,B8]
   rw[aAv,B8];lia
 have:=this es;rw[B7];lia
def rW {f:G.V->G.V}{C:List G.V}(inj:∀P Q,f P=f Q->P=Q)(hz:∀p∈C,Sz 900 (f p))(hs:G.j9 (C.map f))(nd:C.Nodup)(hl:C.length<=9):ZL (.lst ((C.map f).map vd))=.ok ((c7 (C.map f)).map vd)/\N9 900 (c7 (C.map f))/\G.j9 (c7 (C.map f))/\(c7 (c7 (C.map f))).length<=9/\∀Y,Y∈c7 (c7 (C.map f))↔∃X∈c7 C,Y=f X:=by
 have l1:(c7<|C.map f).length<=9:=aAo (fZ _) (by rw[aAl];exact hl);refine⟨zH (aBg.mpr<|nd.imp λ{a b} n e=>n (inj _ _ e)) (by rw[aAl];lia),⟨λp hp=>?_,by lia⟩,dM hs λv hv=>l9.mpr hv,aAo (fZ _) l1,λY=>?_⟩
 ·obtain⟨q,hq,rfl⟩:=aAi.mp (l9.mp hp);exact hz q hq
 ·rw[l9,l9,aAi];exact⟨λ⟨x,h,e⟩=>⟨x,l9.mpr h,e.symm⟩,λ⟨x,h,e⟩=>⟨x,l9.mp h,e.symm⟩⟩
def MZ {k:Int}(h0:0<=k)(h1:k<7):∃t:Int,M1 (.lst [.int (-3),.int (-2),.int (-1),.int 2,.int 1000000000000000000000000000000000000000000000000000000000000,.int 5,.int 1000000000]) (.int k)=.ok (.int t)/\t≠0/\bits t<=250:=by rcases(show k=0\/k=1\/k=2\/k=3\/k=4\/k=5\/k=6 by lia)with rfl|rfl|rfl|rfl|rfl|rfl|rfl<;>exact⟨_,rfl,by decide,by decide⟩
def QM {t:Int}(ht:t≠0)(P Q:G.V)(e:G.cT t P=G.cT t Q):P=Q:=by have c:∀{x y:Int},t*x=t*y->x=y:=λh=>aBJ ht h;exact G.ext (c<|congrArg G.V.x e) (c<|congrArg G.V.y e) (c<|congrArg G.V.z e)
def Z6 (A:G.V)(c:Int):G.V:=⟨A.x+(c.fdiv 11).fmod 5-2,A.y+(c.fdiv 55).fmod 5-2,A.z+(c.fdiv 275).fmod 5-2⟩
def NL {A:G.V}(h:Sz 41 A)(c:Int):Sz 50 (Z6 A c):=by have g:∀{x:Int} (y:Int),bits x<=41->bits (x+y.fmod 5-2)<=50:=λy h=>j1 (bits_sub (n:=42) (bits_add h (bits_fmod (by decide) (by decide))) (by decide)) (by decide);exact⟨g _ h.1,g _ h.2.1,g _ h.2.2⟩
def PP {α:Type}{r:R α}{x:α}{F:α->R Out}{F2:Ev->R Out}{d:D}(h1:r=.ok x)(h2:K7 (C1 (F x) F2)=.ok d):K7 (C1 (r.bind F) F2)=.ok d:=by rw[h1];exact h2
def tz (b0 b1 b2 b3 b4 b5 b6 b7:D)(ρ:Ev):Prop:=∃a8 a9 a10 a11 a12 a13 a14,ρ=[.v b0,.v b1,.v b2,.v b3,.v b4,.v b5,.v b6,.v b7,a8,a9,a10,a11,a12,a13,a14]
open Classical in
def iF:List D->R D
 |[.lst xs]=>if xs.length<=63/\T9 1048576 xs then .ok (.bl true)else .bad
 |_=>.bad
end M
namespace DL
open PySem PySem.Spec L2
open PyProof.Rows hiding St
variable [Tabs]
section
abbrev yU (X:Cx)(e:Expr)(es:List Expr):Prop:=starEach (e::es) X.env=(false,eval e X.env)::starEach es X.env
def y7 {i:Int}{j}:PB X (.Constant (.int i) j pos) (US (.int i)):=d4.pb
def uY {e1:Expr}{f1:Ev->R D}(c:x4 X.prog X.w X.K X.mg X.base k x 1 m)(hr:Room k' X.A)(a1:PD X e1 f1)(hk:k<=k':=by decide)(s1:yU X e1 []:=by rfl)(hg:Gl X x:=by rfl)(il:(x==("__debug__":Str))=false:=by decide)(bf:(backTo pos (starEach [] X.env)).any (·.1)=false:=by rfl):
 PD X (.Call (.Name x p) [e1] [] pos) (λρ=>((o8 f1 P3) ρ).bind m):=tE c (hr.mono hk) (f9 a1 q8 s1) (z8 aE) hg il s1 bf
def aJ {e1 e2:Expr}{f1 f2:Ev->R D}(c:x4 X.prog X.w X.K X.mg X.base k x 2 m)(hr:Room k' X.A)(a1:PD X e1 f1)(a2:PD X e2 f2)(hk:k<=k':=by decide)(s1:yU X e1 [e2]:=by rfl)(s2:yU X e2 []:=by rfl)(hg:Gl X x:=by rfl)(il:(x==("__debug__":Str))=false:=by decide)(bf:(backTo pos (starEach [e2] X.env)).any (·.1)=false:=by rfl):
 PD X (.Call (.Name x p) [e1,e2] [] pos) (λρ=>((o8 f1 (o8 f2 P3)) ρ).bind m):=tE c (hr.mono hk) (f9 a1 (f9 a2 q8 s2) s1) (z8<|z8 aE) hg il s1 bf
def pc3 {e1 e2 e3:Expr}{f1 f2 f3:Ev->R D}(c:x4 X.prog X.w X.K X.mg X.base k x 3 m)(hr:Room k' X.A)(a1:PD X e1 f1)(a2:PD X e2 f2)(a3:PD X e3 f3)(hk:k<=k':=by decide)(s1:yU X e1 [e2,e3]:=by rfl)(s2:yU X e2 [e3]:=by rfl)(s3:yU X e3 []:=by rfl)(hg:Gl X x:=by rfl)(il:(x==("__debug__":Str))=false:=by decide)(bf:(backTo pos (starEach [e2,e3] X.env)).any (·.1)=false:=by rfl):
 PD X (.Call (.Name x p) [e1,e2,e3] [] pos) (λρ=>((o8 f1 (o8 f2 (o8 f3 P3))) ρ).bind m):=tE c (hr.mono hk) (f9 a1 (f9 a2 (f9 a3 q8 s3) s2) s1) (z8<|z8<|z8 aE) hg il s1 bf
def pc4 {e1 e2 e3 e4:Expr}{f1 f2 f3 f4:Ev->R D}(c:x4 X.prog X.w X.K X.mg X.base k x 4 m)(hr:Room k' X.A)(a1:PD X e1 f1)(a2:PD X e2 f2)(a3:PD X e3 f3)(a4:PD X e4 f4)(hk:k<=k':=by decide)(s1:yU X e1 [e2,e3,e4]:=by rfl)(s2:yU X e2 [e3,e4]:=by rfl)(s3:yU X e3 [e4]:=by rfl)(s4:yU X e4 []:=by rfl)(hg:Gl X x:=by rfl)(il:(x==("__debug__":Str))=false:=by decide)(bf:(backTo pos (starEach [e2,e3,e4] X.env)).any (·.1)=false:=by rfl):
 PD X (.Call (.Name x p) [e1,e2,e3,e4] [] pos) (λρ=>((o8 f1 (o8 f2 (o8 f3 (o8 f4 P3)))) ρ).bind m):=tE c (hr.mono hk) (f9 a1 (f9 a2 (f9 a3 (f9 a4 q8 s4) s3) s2) s1) (z8<|z8<|z8<|z8 aE) hg il s1 bf
def GB {e1 e2:Expr}{f1 f2:Ev->R D}{j}(a1:PD X e1 f1)(a2:PD X e2 f2)(s1:yU X e1 [e2]:=by rfl)(s2:yU X e2 []:=by rfl):PD X (.Tuple [e1,e2] j pos) (λρ=>((o8 f1 (o8 f2 P3)) ρ).bind Y5):=zE (f9 a1 (f9 a2 q8 s2) s1)
def yV {e1 e2 e3:Expr}{f1 f2 f3:Ev->R D}{j}(a1:PD X e1 f1)(a2:PD X e2 f2)(a3:PD X e3 f3)(s1:yU X e1 [e2,e3]:=by rfl)(s2:yU X e2 [e3]:=by rfl)(s3:yU X e3 []:=by rfl):PD X (.Tuple [e1,e2,e3] j pos) (λρ=>((o8 f1 (o8 f2 (o8 f3 P3))) ρ).bind Y5):=zE (f9 a1 (f9 a2 (f9 a3 q8 s3) s2) s1)
def OX {id:String}{g:List D->R D}{e:Expr}{f:Ev->R D}(hc:Z5 X (.builtin id) g)(a:PB X e f)(hg:Gl X x:=by rfl)(hm:X.mg x=none:=by assumption)(hv:bootBuiltins x=some (.builtin id):=by decide+kernel)(hn:x≠ "__name__":=by decide)(il:(x==("__debug__":Str))=false:=by decide)(s1:yU X e []:=by rfl)(bf:(backTo pos (starEach [] X.env)).any (·.1)=false:=by rfl):
 PD X (.Call (.Name x p) [e] [] pos) (λρ=>(o8 f P3 ρ).bind g):=U0 hc (o5 a x6 s1) hg hm hv hn il s1 bf
def IS {fr:List Str}{scope:Scope}{tp:Pos}{elt:Expr}{fe:Ev->R D}(h:∀pins fp s0 H1 C,PD (GW X pins s0 H1 ([x]++fr) scope (cM X scope C) C fp) elt fe)(nd:([x]++fr).Nodup:=by decide+kernel)(hx:Loc (relabel scope X.env) x:=by first|exact aCN rfl|exact aBS rfl)(hf:(scope.names.lookup x==some .cell)=true\/(relabel scope X.env).names.lookup x=some .local:=by first|exact .inl rfl|exact .inr rfl):
  ∀(pins:L8) (fp:List Addr) (X':Cx),(∃sa Ha C,X'=GW X pins sa Ha ([x]++fr) scope (cM X scope C) C fp)->KS X' (.Name x tp) (λd ρ=>.ok (ρ.set 0 (.v d)))/\UX X' [] (λ_=>.ok true)/\PD X' elt fe:=by
 rintro pins fp X2 ⟨s0,H1,C,rfl⟩;exact⟨l5 0 nd rfl hx hf,DD,h pins fp s0 H1 C⟩
def hxt {fr:List Str}{scope:Scope}{tp:Pos}{elt c:Expr}{fe:Ev->R D}{ft:Ev->R Bool}(h:∀pins fp s0 H1 C,IQ (GW X pins s0 H1 ([x]++fr) scope (cM X scope C) C fp) c ft/\PD (GW X pins s0 H1 ([x]++fr) scope (cM X scope C) C fp) elt fe)(nd:([x]++fr).Nodup:=by decide+kernel)(hx:Loc (relabel scope X.env) x:=by first|exact aCN rfl|exact aBS rfl)(hf:(scope.names.lookup x==some .cell)=true\/(relabel scope X.env).names.lookup x=some .local:=by first|exact .inl rfl|exact .inr rfl):
  ∀(pins:L8) (fp:List Addr) (X':Cx),(∃sa Ha C,X'=GW X pins sa Ha ([x]++fr) scope (cM X scope C) C fp)->KS X' (.Name x tp) (λd ρ=>.ok (ρ.set 0 (.v d)))/\UX X' [c] ft/\PD X' elt fe:=by
 rintro pins fp X2 ⟨s0,H1,C,rfl⟩;exact⟨l5 0 nd rfl hx hf,PX (h pins fp s0 H1 C).1,(h pins fp s0 H1 C).2⟩
end
end DL
namespace K24
open PySem L2 DL M
def fG (i:Nat):Stmt:=PySem.Challenge.pw_stakebodies_k24_whole_edges_of_moved.main.body.getD i (.Pass ⟨0,0,0,0⟩)
abbrev Y6:Stmt:=fG 5
abbrev pL:List Str:=["P", "Q"]
def oO:FnScope pL ["P", "Q"] (c8 Y6):=I0
abbrev gD:Stmt:=fG 6
abbrev BW:List Str:=["u", "v"]
def xA:FnScope BW ["u", "v"] (c8 gD):=I0
abbrev aK:Stmt:=fG 7
abbrev tO:List Str:=["u", "v"]
def qF:FnScope tO ["u", "v"] (c8 aK):=I0
abbrev M5:Stmt:=fG 8
abbrev jH:List Str:=["numbers", "divisor", "number", "rest", "further"]
def gP:FnScope jH ["numbers"] (c8 M5):=I0
abbrev R3:Stmt:=fG 9
abbrev lQ:List Str:=["P", "Q", "R", "cross", "divisor", "upright"]
def jA:FnScope lQ ["P", "Q", "R"] (c8 R3):=I0
abbrev kF:Stmt:=fG 10
abbrev GH:List Str:=["plane", "P", "height"]
def BJ:FnScope GH ["plane", "P"] (c8 kF):=I0
abbrev M2:Stmt:=fG 13
abbrev jT:List Str:=["ways", "way"]
def gU:FnScope jT ["ways"] (c8 M2):=I0
abbrev B0:Stmt:=fG 14
abbrev L4:List Str:=["points", "ways", "along", "upright"]
def lW:FnScope L4 ["points"] (c8 B0):=I0
abbrev Y9:Stmt:=fG 15
abbrev pJ:List Str:=["points"]
def oV:FnScope pJ ["points"] (c8 Y9):=I0
abbrev W0:Stmt:=fG 16
abbrev lB:List Str:=["plane", "points"]
def sK:FnScope lB ["plane", "points"] (c8 W0):=I0
abbrev X8:Stmt:=fG 17
abbrev qD:List Str:=["pair", "points", "along", "upright", "outermost", "P", "way"]
def oC:FnScope qD ["pair", "points"] (c8 X8):=I0
abbrev bS:Stmt:=fG 18
abbrev uD:List Str:=["points", "least", "upward", "touched"]
def qI:FnScope uD ["points"] (c8 bS):=I0
abbrev iX:Stmt:=fG 19
abbrev GM:List Str:=["upright", "P", "Q", "R"]
def AY:FnScope GM ["upright", "P", "Q", "R"] (c8 iX):=I0
abbrev bE:Stmt:=fG 20
abbrev tV:List Str:=["upright", "points", "chain", "P"]
def pR:FnScope tV ["upright", "points"] (c8 bE):=I0
abbrev kA:Stmt:=fG 21
abbrev FC:List Str:=["upright", "points", "there", "back"]
def zN:FnScope FC ["upright", "points"] (c8 kA):=I0
abbrev Y0:Stmt:=fG 22
abbrev pQ:List Str:=["ring"]
def pB:FnScope pQ ["ring"] (c8 Y0):=I0
abbrev bR:Stmt:=fG 23
abbrev uO:List Str:=["first", "about", "touched_by", "faces", "walked", "waiting", "pair", "plane", "ring", "step"]
def eV:FnScope uO ["first", "about", "touched_by"] (c8 bR):=I0
abbrev J4:Stmt:=fG 24
abbrev gB:List Str:=["points", "spread", "about", "touched_by"]
def lC:FnScope gB ["points"] (c8 J4):=I0
abbrev aY:Stmt:=fG 25
abbrev uF:List Str:=["faces", "corners", "plane", "ring"]
def pW:FnScope uF ["faces"] (c8 aY):=I0
abbrev jZ:Stmt:=fG 26
abbrev FG:List Str:=["points"]
def BH:FnScope FG ["points"] (c8 jZ):=I0
abbrev bO:Stmt:=fG 28
abbrev nJ:List Str:=["land", "edges", "plane", "ring"]
def vZ:FnScope nJ ["land"] (c8 bO):=I0
abbrev bT:Stmt:=fG 29
abbrev oP:List Str:=["land", "P"]
def yK:FnScope oP ["land", "P"] (c8 bT):=I0
abbrev cE:Stmt:=fG 31
abbrev wV:List Str:=["script", "k"]
def tZ:FnScope wV ["script", "k"] (c8 cE):=I0
abbrev fY:Stmt:=fG 32
abbrev AA:List Str:=["one", "other"]
def xM:FnScope AA ["one", "other"] (c8 fY):=I0
abbrev aP:Stmt:=fG 33
abbrev tT:List Str:=["u", "v"]
def qG:FnScope tT ["u", "v"] (c8 aP):=I0
abbrev U3:Stmt:=fG 34
abbrev nQ:List Str:=["u", "v"]
def lL:FnScope nQ ["u", "v"] (c8 U3):=I0
abbrev bI:Stmt:=fG 35
abbrev uK:List Str:=["total", "way", "wide", "stir", "found", "k"]
def qA:FnScope uK ["total", "way"] (c8 bI):=I0
abbrev G7:Stmt:=fG 36
abbrev X7:List Str:=["script", "most", "many", "totals", "k", "cell"]
def oK:FnScope X7 ["script", "most"] (c8 G7):=I0
abbrev L6:Stmt:=fG 37
abbrev bF:List Str:=["points", "ways", "u", "v", "crossed", "x", "y", "z"]
def qE:FnScope bF ["points"] (c8 L6):=I0
abbrev N3:Stmt:=fG 38
abbrev eZ:List Str:=["cell", "slants", "far"]
def nR:FnScope eZ ["cell"] (c8 N3):=I0
abbrev V4:Stmt:=fG 39
abbrev oW:List Str:=["point", "slants", "x", "y", "z"]
def lU:FnScope oW ["point", "slants"] (c8 V4):=I0
abbrev bU:Stmt:=fG 45
abbrev CH:List Str:=["script", "points", "slants", "land", "carried", "due", "times", "great", "k", "cell", "x", "y", "z", "point", "place"]
def OJ:FnScope CH ["script"] (c8 bU):=I0
def cQ:Stmt:=(t9 J4).getD 2 (.Pass ⟨0,0,0,0⟩)
abbrev EG:Str:= "faces_of.<locals>.about"
def G8:Stmt:=(t9 J4).getD 3 (.Pass ⟨0,0,0,0⟩)
abbrev iU:Str:= "faces_of.<locals>.touched_by"
def tbK:List (Pos×Str):=[(EL cQ,EG),(EL G8,iU)]
section
variable [Tabs]
variable{P:Program} {w:World} {K:PySem.W.Frag} {mg:cP} {base:Heap}
def o6 (g:fA K mg "way_between" Y6):x4 P w K mg base 1 "way_between" 2 n4:=by
 refine' n6 (k:=0) (F:=_) g oO (λhr hu eh nd=>?b) λds d hl h=>?_
 case b=>refine' (d8<|j2<|yV (c5 u0 (PD.pb<|f8 (b9 1) d4)<|PD.pb<|f8 (b9 0) d4) (c5 u0 (PD.pb<|f8 (b9 1) d4)<|PD.pb<|f8 (b9 0) d4)<|c5 u0 (PD.pb<|f8 (b9 1) d4)<|PD.pb<|f8 (b9 0) d4)
 replace h:=G1 h;obtain⟨a,b,c,ds,rfl,h⟩:=h;replace h:=G1 h;obtain⟨a',b',c',ds,rfl,h⟩:=h;replace h:=K5 h;obtain⟨rfl,h⟩:=h;exact h
def C5 (g:fA K mg "cross_of" gD):x4 P w K mg base 1 "cross_of" 2 w5:=by
 refine' n6 (k:=0) (F:=_) g xA (λhr hu eh nd=>?b) λds d hl h=>?_
 case b=>refine' (d8<|j2<|yV (c5 u0 (PD.pb<|c5 k7 (PD.pb<|f8 (b9 0) d4)<|PD.pb<|f8 (b9 1) d4)<|PD.pb<|c5 k7 (PD.pb<|f8 (b9 0) d4)<|PD.pb<|f8 (b9 1) d4) (c5 u0 (PD.pb<|c5 k7 (PD.pb<|f8 (b9 0) d4)<|PD.pb<|f8 (b9 1) d4)<|PD.pb<|c5 k7 (PD.pb<|f8 (b9 0) d4)<|PD.pb<|f8 (b9 1) d4)<|c5 u0 (PD.pb<|c5 k7 (PD.pb<|f8 (b9 0) d4)<|PD.pb<|f8 (b9 1) d4)<|PD.pb<|c5 k7 (PD.pb<|f8 (b9 0) d4)<|PD.pb<|f8 (b9 1) d4)
 replace h:=G1 h;obtain⟨a,b,c,ds,rfl,h⟩:=h;replace h:=G1 h;obtain⟨a',b',c',ds,rfl,h⟩:=h;replace h:=K5 h;obtain⟨rfl,h⟩:=h;split at h
 ·rename_i hz;obtain⟨⟨h1,h2,h3⟩,h4,h5,h6⟩:=hz;rw[<-h];simp[j5,f7 (l8.of h2 h6),f7 (l8.of h3 h5),f7 (l8.of h3 h4),f7 (l8.of h1 h6),f7 (l8.of h1 h5),f7 (l8.of h2 h4)]
 ·cases h
def x8 (g:fA K mg "product_of" aK):x4 P w K mg base 1 "product_of" 2 m8:=by
 refine' n6 (k:=0) (F:=_) g qF (λhr hu eh nd=>?b) λds d hl h=>?_
 case b=>refine' (d8<|j2<|c5 o9 (PD.pb<|c5 o9 (PD.pb<|c5 k7 (PD.pb<|f8 (b9 0) d4)<|PD.pb<|f8 (b9 1) d4)<|PD.pb<|c5 k7 (PD.pb<|f8 (b9 0) d4)<|PD.pb<|f8 (b9 1) d4)<|PD.pb<|c5 k7 (PD.pb<|f8 (b9 0) d4)<|PD.pb<|f8 (b9 1) d4)
 replace h:=VC h;obtain⟨a,b,c,t,ds,rfl,h⟩:=h;replace h:=G1 h;obtain⟨a',b',c',ds,rfl,h⟩:=h;replace h:=K5 h;obtain⟨rfl,h⟩:=h;split at h
 ·rename_i hz;obtain⟨⟨h1,h2,h3⟩,h4,h5,h6⟩:=hz;rw[<-h];simp[j5,UQ,VN,UJ,f7 (l8.of h1 h4),f7 (l8.of h2 h5),f7 (l8.of h3 h6)]
 ·cases h
def M4 (b_abs:mg "abs"=none)(g:fA K mg "common_divisor" M5):x4 P w K mg base 1 "common_divisor" 1 B5:=by
 refine' n6 (k:=0) (F:=_) g gP (λhr hu eh nd=>?b) λds d hl h=>?_
 case b=>
  refine' (c6 (j3 1 d4 nd)
   (c6 (J0 aBi rfl (EC<|d6 0) (l5 2 nd) (c6 (j3 3 (OX YO<|b9 2) nd)
   (d8 (iY (jw 3) aBi (o7 (gS hu) (b9 3) y7) (c6 (j3 4 (c5 v8 (b9 1)<|b9 3) nd)
   (c6 (j3 1 (d6 3) nd)
   (d8<|j3 3 (d6 4) nd)))))))
   (d8<|j2<|d6 1)))
 match ds,h with
 |[.tup [.int a,.int b,.int c]],h=>
  rw[<-h];simp only[j5,aAv,aFC,aBl,aEz,B5];simp only[fB,WI,R.aa0,FD,A9,aAu,aBD,Nat.reduceAdd,Nat.reduceSub,List.replicate_succ,List.replicate_zero,aCF,aCG];refine cA (λrest ρ=>∃(g:Nat) (n r f:Sl),ρ=[.v (.tup [.int a,.int b,.int c]),.v (.int g),n,r,f]/\∃ns:List Int,rest=ns.map D.int/\ns.foldl (λg n=>Nat.gcd g n.natAbs) g=G.u7 ⟨a,b,c⟩) ?_ ⟨0,_,_,_,rfl,[a,b,c],rfl,by simp[G.u7]⟩ ?_
  ·rintro d ds ρ ⟨g,n,r,f,rfl,ns,e1,e2⟩;match ns,e1,e2 with
   |x::ns,e1,e2=>
    injection e1 with e3 e4;subst e3 e4;simp only[bD,aCF,aCG,nK,uS,rM,NJ,R.aa0,XZ,A9];have ea:(if x<0 then-x else x)=(x.natAbs:Int):=by split<;>lia
    rw[ea];refine wS (λm ρ=>∃(p q:Nat) (f:Sl),ρ=[.v (.tup [.int a,.int b,.int c]),.v (.int p),.v (.int x),.v (.int q),f]/\q<m/\Nat.gcd p q=Nat.gcd g x.natAbs) ?_ (by rintro ρ ⟨p,q,f,_,h,_⟩;lia) ⟨g,x.natAbs,f,rfl,by show x.natAbs<((x.natAbs:Int).natAbs)+2;lia,rfl⟩ ?_
    ·rintro m ρ ⟨p,q,f,rfl,hq,hg⟩;by_cases h0:(q:Int)=0
     ·exact .inl (by simp[h0])
     ·have h1:q≠0:=by lia
      refine .inr ⟨by simp[h1],_,?_,q,p%q,Sl.v (.int ((p%q:Nat):Int)),rfl,?_,?_⟩
      ·have em:S9 (.int (p:Int)) (.int (q:Int))=.ok (.int ((p%q:Nat):Int)):=by rw[yI h0,aEG _ (by lia)];rfl
       simp[em]
      ·have:=aDT p (show 0<q by lia)
       lia
      ·rw[Nat.gcd_comm,<-Nat.gcd_rec,Nat.gcd_comm];exact hg
    ·rintro m ρ ⟨p,q,f,rfl,hq,hg⟩ hc;have h0:q=0:=by
      by_cases z:q=0
      ·exact z
      ·simp[z]at hc
     subst h0;refine⟨p,_,_,_,rfl,ns,rfl,?_⟩;rw[<-e2,aEu,<-hg,Nat.gcd_zero_right]
  ·rintro ρ ⟨g,n,r,f,rfl,ns,e1,e2⟩;have:ns=[]:=by simpa using e1.symm
   subst this;simp at e2;simp[e2]
def Q6 (C5:x4 P w K mg base 1 "cross_of" 2 w5)(o6:x4 P w K mg base 1 "way_between" 2 n4)(M4:x4 P w K mg base 1 "common_divisor" 1 B5)(x8:x4 P w K mg base 1 "product_of" 2 m8)(g:fA K mg "plane_through" R3):x4 P w K mg base 2 "plane_through" 3 R0:=by
 refine' n6 (k:=1) (F:=_) g jA (λhr hu eh nd=>?b) λds d hl h=>?_
 case b=>
  refine' (c6 (j3 3 (aJ C5 hr (aJ o6 hr (d6 0)<|d6 1)<|aJ o6 hr (d6 0)<|d6 2) nd)
   (c6 (j3 4 (uY M4 hr<|d6 3) nd)
   (c6 (A2 (o7 (iO hu) (b9 4) y7) (d8 jS) p8)
   (c6 (j3 5 (yV (c5 v7 (PD.pb<|f8 (b9 3) d4)<|b9 4) (c5 v7 (PD.pb<|f8 (b9 3) d4)<|b9 4)<|c5 v7 (PD.pb<|f8 (b9 3) d4)<|b9 4) nd)
   (d8<|j2<|zE<|f9 (f8 (b9 5) d4)<|f9 (f8 (b9 5) d4)<|f9 (f8 (b9 5) d4)<|f9 (aJ x8 hr (d6 5)<|d6 0) q8)))))
 replace h:=G1 h;obtain⟨a,b,c,ds,rfl,h⟩:=h;replace h:=G1 h;obtain⟨d,e,f,ds,rfl,h⟩:=h;replace h:=G1 h;obtain⟨g,h',i,ds,rfl,h⟩:=h;replace h:=K5 h;obtain⟨rfl,h⟩:=h
 ·skip
  split at h
  ·rename_i hz;obtain⟨⟨p,q,r⟩,hc⟩:=hz;rw[<-h];obtain⟨P,eP⟩:∃P:G.V,P=⟨a,b,c⟩:=⟨_,rfl⟩;obtain⟨Q,eQ⟩:∃P:G.V,P=⟨d,e,f⟩:=⟨_,rfl⟩;obtain⟨R',eR⟩:∃P:G.V,P=⟨g,h',i⟩:=⟨_,rfl⟩;rw[<-eP]at p hc;rw[<-eQ]at q hc;rw[<-eR]at r hc;have vP:(.tup [.int a,.int b,.int c]:D)=vd P:=by rw[eP]
   have vQ:(.tup [.int d,.int e,.int f]:D)=vd Q:=by rw[eQ]
   have vR:(.tup [.int g,.int h',.int i]:D)=vd R':=by rw[eR]
   rw[vP,vQ,vR,<-eP,<-eQ,<-eR];have sc:=(q.sub p).cr (r.sub p);have c1:=cO (u:=Q-P) (v:=R'-P) (q.sub p).mono (r.sub p).mono;obtain⟨g0,g1,g2⟩:=G.dG hc;have gne:((G.u7 (G.cr (Q-P)<|R'-P):Nat):Int)≠0:=by lia
   have gb:uZ ((G.u7 (G.cr (Q-P)<|R'-P):Nat):Int):=⟨gne,y3 (GL sc)⟩;have dv:=yZ (G.cr (Q-P)<|R'-P);have pl:G.j6 P Q R'=(G.gE (G.cr (Q-P)<|R'-P) (G.u7<|G.cr (Q-P)<|R'-P),G.d7 (G.gE (G.cr (Q-P)<|R'-P)<|G.u7<|G.cr (Q-P)<|R'-P) P):=rfl;rw[pl];generalize hC:G.cr (Q-P) (R'-P)=C at*
   have sn:Sz 2003 (G.gE C<|G.u7 C):=by have f1:=bits_fdiv (b:=(G.u7 C:Int)) sc.1;have f2:=bits_fdiv (b:=(G.u7 C:Int)) sc.2.1;have f3:=bits_fdiv (b:=(G.u7 C:Int)) sc.2.2;rw[oU g0]at f1 f2 f3;exact⟨f1,f2,f3⟩
   have d1:∀t:Int,O8 (.int t) (.int (G.u7 C:Nat))=.ok (.int (t/(G.u7 C:Nat))):=λt=>by rw[aI gb,oU g0]
   have p2:=iE (u:=G.gE C (G.u7 C)) (v:=P) sn.mono p.mono;have e0:(((G.u7 C:Nat):Int)==0)=false:=by simpa using gne
   simp only[G.gE]at p2;have p2':m8 [.tup [.int (C.x/(G.u7 C:Nat)),.int (C.y/(G.u7 C:Nat)),.int (C.z/(G.u7 C:Nat))],vd P]=_:=p2;simp[j5,c1,dv,e0,d1,p2',G.gE]
  ·cases h
def Z2 (g:fA K mg "side_of" kF):x4 P w K mg base 1 "side_of" 2 G0:=by
 refine' n6 (k:=0) (F:=_) g BJ (λhr hu eh nd=>?b) λds d hl h=>?_
 case b=>
  refine' (c6 (j3 2 (c5 u0 (PD.pb<|c5 o9 (PD.pb<|c5 o9 (PD.pb<|c5 k7 (PD.pb<|f8 (b9 0) d4)<|PD.pb<|f8 (b9 1) d4)<|PD.pb<|c5 k7 (PD.pb<|f8 (b9 0) d4)<|PD.pb<|f8 (b9 1) d4)<|PD.pb<|c5 k7 (PD.pb<|f8 (b9 0) d4)<|PD.pb<|f8 (b9 1) d4)<|PD.pb<|f8 (b9 0) d4) nd)
   (c6 (A2 (o7 DW (b9 2) y7) (d8<|j2 d4) p8)
   (c6 (A2 (o7 JY (b9 2) y7) (d8<|j2<|bP d4) p8)
   (d8<|j2 d4))))
 replace h:=VL h;obtain⟨a,b,c,d,ds,rfl,h⟩:=h;replace h:=G1 h;obtain⟨x,y,z,ds,rfl,h⟩:=h;replace h:=K5 h;obtain⟨rfl,h⟩:=h
 ·skip
  split at h
  ·rename_i hz;obtain⟨⟨h1,h2,h3⟩,h4,h5,h6⟩:=hz;rw[<-h];obtain⟨t,et⟩:∃t,a*x+b*y+c*z-d=t:=⟨_,rfl⟩;have e0:LI (.int (a*x+b*y+c*z)) (.int d)=.ok (.int t):=by rw[<-et];rfl
   rw[et];unfold sgn;by_cases p:0<t
   ·simp[-uN,j5,f7 (l8.of h1 h4),f7 (l8.of h2 h5),f7 (l8.of h3 h6),p,e0]
   ·by_cases n:t<0
    ·simp[-uN,j5,f7 (l8.of h1 h4),f7 (l8.of h2 h5),f7 (l8.of h3 h6),p,n,e0]
    ·simp[-uN,j5,f7 (l8.of h1 h4),f7 (l8.of h2 h5),f7 (l8.of h3 h6),p,n,e0]
  ·cases h
def F9 (cb:NC K mg "NO_WAY" [0,0,0])(g:fA K mg "first_real_way" M2):x4 P w K mg base 1 "first_real_way" 1 y6:=by
 refine' n6 (k:=0) (F:=_) g gU (λhr hu eh nd=>?b) λds d hl h=>?_
 case b=>
  refine' (c6 (J0 aBi rfl (p7<|d6 0) (l5 1 nd)<|d8<|A2 (o7 (gS hu) (b9 1)<|PD.pb<|sV cb) (d8<|j2<|d6 1) p8)
   (d8<|j2 BS))
 match ds,h with
 |[.lst xs],h=>
  simp only[y6]at h;split at h
  ·rename_i ws hw;rw[n9 hw];rw[<-h];simp[j5];generalize Sl.v (D.lst<|aDi vd ws)=a;generalize Sl.no=b;clear h hw;induction ws generalizing b with
   |nil=>rfl
   |cons v ws ih=>
    rw[aAv,G.z7];by_cases hv:v=0
    ·rw[S8 (ρ2:=[a,.v (vd v)]) rfl (by simp[-kI,xj,hv]),ih];simp[hv]
    ·rw[iT (x:=vd v) rfl (by simp[-kI,xj,hv])];simp[hv,zR]
  ·cases h
def E6 (o6:x4 P w K mg base 1 "way_between" 2 n4)(F9:x4 P w K mg base 1 "first_real_way" 1 y6)(C5:x4 P w K mg base 1 "cross_of" 2 w5)(x8:x4 P w K mg base 1 "product_of" 2 m8)(gv:mg "len"=none)(b_any:mg "any"=none)(g:fA K mg "dimension_of" B0):x4 P w K mg base 2 "dimension_of" 1 B4:=by
 refine' n6 (k:=1) (F:=_) g lW (λhr hu eh nd=>?b) λds d hl h=>?_
 case b=>
  refine' (c6 (A2 (o7 (iO hu) (PD.pb<|OX fM<|b9 0) y7) (d8 jS) p8)
   (c6 (iB 1 ["P"] ["points"] [0] nd rfl (J5 (sc:=c8 B0) (N:=L4)) (p7<|d6 0) (IS λ_ _ _ _ _=>(aJ o6 hr (f8 (b9 1) d4)<|d6 0))<|λ_=>u3)
   (c6 (j3 2 (uY F9 hr<|d6 1) nd)
   (c6 (A2 (o7 LX (b9 2)<|PD.pb BS) (d8<|j2 d4) p8)
   (c6 (j3 3 (uY F9 hr<|N6 ["way"] ["along"] [2] rfl (J5 (sc:=c8 B0) (N:=L4)) (p7<|d6 1) (IS λ_ _ _ _ _=>(aJ C5 hr (d6 1)<|d6 0))<|λ_=>u3) nd)
   (c6 (A2 (o7 LX (b9 3)<|PD.pb BS) (d8<|j2 d4) p8)
   (c6 (A2 (TL<|OX (XT rfl)<|PD.pb<|N6 ["way"] ["upright"] [3] rfl (J5 (sc:=c8 B0) (N:=L4)) (p7<|d6 1) (IS λ_ _ _ _ _=>(WO (gS hu) (PD.pb<|aJ x8 hr (d6 1)<|d6 0) y7))<|λ_=>u3) (d8<|j2 d4) p8)
   (d8<|j2 d4))))))))
 match ds,h with
 |[.lst xs],h=>
  simp only[B4]at h;split at h
  ·rename_i pts hw;rw[n9 hw];split at h
   ·rename_i hz;rw[<-h];obtain⟨ah,hs⟩:=hz;match pts,ah with
    |p::ps,_=>
    obtain⟨xs',hxs⟩:∃xs',(p::ps).map vd=xs':=⟨_,rfl⟩;have i0:M1 (.lst xs') (.int 0)=.ok (vd p):=M0 (by rw[Y8 (by decide),<-hxs];rfl);have c1:u5 (λd ρ=>R.ok (aCE ρ 0<|Sl.v d)) (λx=>R.ok true) (λρ=>(((pI 1 ρ).bind λx=>M1 x (D.int 0)).bind λd=>((W9 0 ρ).bind λd=>R.ok [d]).bind λds=>R.ok (d::ds)).bind n4) [.no,.v (.lst xs')] xs'=.ok (((p::ps).map (· -p)).map vd):=by rw[aBk];rw[show u5 _ _ _ _ xs'=u5 _ _ _ _ ((p::ps).map vd)by rw[hxs]];refine F7 vd _ _ λq hq=>⟨[.v (vd q),Sl.v (.lst xs')],rfl,?_⟩;show((M1 (.lst xs')<|.int 0).bind _).bind _=_;rw[i0];rfl
    have hw:∀w∈(p::ps).map (· -p),Sz 1001 w:=λw hw=>by obtain⟨q,hq,rfl⟩:=aAi.mp hw;exact(hs.1 q hq).sub (hs.1 p (.head _))
    have qe:(((p::ps).map (· -p)).map vd).length<=sizeLine:=by rw[aAl,aAl];exact small hs.2
    have bf:xs'.length<=sizeLine:=by rw[<-hxs,aAl];exact small hs.2
    have hl0:((xs'.length:Int)==0)=false:=by rw[<-hxs];simp;lia
    have f1:=BR ((p::ps).map (· -p));unfold G.R7;dsimp only;rw[hxs];generalize(p::ps).map (· -p)=W at*
    have f2:=λu=>BR (W.map<|G.cr u);cases ha:G.z7 W with
    |none=>rw[ha]at f1;simp[j5,i7,bf,hl0,c1,f1,zR,JU]
    |some al=>
     rw[ha]at f1;obtain⟨hm,_⟩:=G.u4 ha;have sal:=hw al hm;have c2:u5 (λd ρ=>R.ok (aCE ρ 0<|Sl.v d)) (λx=>R.ok true) (λρ=>((W9 1 ρ).bind λd=>((W9 0 ρ).bind λd=>R.ok [d]).bind λds=>R.ok (d::ds)).bind w5) [.no,.v (vd al)] (W.map vd)=.ok ((W.map<|G.cr al).map vd):=by rw[aBk];refine F7 vd _ _ λq hq=>⟨[.v (vd q),Sl.v (vd al)],rfl,?_⟩;show w5 [vd al,vd q]=_;exact cO sal.mono (hw q hq).mono
     have f2:=BR (W.map<|G.cr al);have eW:(W.map vd).length=W.length:=aAl ..;rw[eW]at qe;cases hb:G.z7 (W.map<|G.cr al)with
     |none=>rw[hb]at f2;simp only[aBk]at c2 f2;simp only[hb];simp[j5,i7,bf,hl0,c1,f1,zR,JU,qe,c2,f2]
     |some up=>
      rw[hb]at f2;obtain⟨jr,_⟩:=G.u4 hb;have sup:Sz 2003 up:=by obtain⟨q,hq,rfl⟩:=aAi.mp jr;exact(sal.cr<|hw q hq).mono
      have c3:u5 (λd ρ=>R.ok (aCE ρ 0<|Sl.v d)) (λx=>R.ok true) (λρ=>(((W9 1 ρ).bind λd=>((W9 0 ρ).bind λd=>R.ok [d]).bind λds=>R.ok (d::ds)).bind m8).bind λx=>FJ x (D.int 0)) [.no,.v (vd up)] (W.map vd)=.ok ((W.map λw=>decide (G.d7 up w≠0)).map D.bl):=by rw[aBk];refine F7 vd _ _ λq hq=>⟨[.v (vd q),Sl.v (vd up)],rfl,?_⟩;show(m8 [vd up,vd q]).bind _=_;rw[iE sup.mono (hw q hq).mono,R.aa0,JT];congr 2;rw[aDo];simp
      have f3:=WV (W.map λw=>decide (G.d7 up w≠0));have ean:(W.map λw=>decide (G.d7 up w≠0)).any id=W.any λw=>decide (G.d7 up w≠0):=by rw[List.any_map];rfl
      rw[ean]at f3;simp only[aBk]at c2 f2 c3 f3;simp only[hb];generalize(λw=>decide (G.d7 up w≠0))=Bf at*
      cases hc:W.any Bf with
      |false=>rw[hc]at f3;simp[j5,i7,bf,hl0,c1,f1,zR,JU,qe,c2,f2,c3,f3]
      |true=>rw[hc]at f3;simp[j5,i7,bf,hl0,c1,f1,zR,JU,qe,c2,f2,c3,f3]
   ·cases h
  ·cases h
def Y4 (E6:x4 P w K mg base 2 "dimension_of" 1 B4)(g:fA K mg "refuse_flat" Y9):x4 P w K mg base 3 "refuse_flat" 1 D3:=by
 refine' n6 (k:=2) (F:=_) g oV (λhr hu eh nd=>?b) λds d hl h=>?_
 case b=>refine' (d8<|A2 (o7 JY (PD.pb<|uY E6 hr<|d6 0) y7) (d8 jS) p8)
 match ds,h with
 |[.lst xs],h=>
  simp only[D3]at h;split at h
  ·rename_i pts hw;rw[n9 hw];split at h
   ·rename_i hz;rw[<-h];obtain⟨hs,h3⟩:=hz;have ah:pts≠[]:=λe=>by subst e;cases h3
    have e:=KP ah hs;rw[h3]at e;simp[j5,e]
   ·cases h
  ·cases h
def E8 (Z2:x4 P w K mg base 1 "side_of" 2 G0)(g:fA K mg "points_on" W0):x4 P w K mg base 2 "points_on" 2 x9:=by
 refine' n6 (k:=1) (F:=_) g sK (λhr hu eh nd=>?b) λds d hl h=>?_
 case b=>refine' (d8<|j2<|N6 ["P"] ["plane"] [0] rfl (J5 (sc:=c8 W0) (N:=lB)) (p7<|d6 1) (hxt λ_ _ _ _ _=>⟨(o7 (iO hu) (PD.pb<|aJ Z2 hr (d6 1)<|d6 0) y7),(d6 0)⟩)<|λ_=>u3)
 replace h:=VL h;obtain⟨a,b,c,d,ds,rfl,h⟩:=h;replace h:=sS h;obtain⟨xs,ds,rfl,h⟩:=h;replace h:=K5 h;obtain⟨rfl,h⟩:=h
 ·skip
  split at h
  ·rename_i pts hw;rw[n9 hw];split at h
   ·rename_i hz;rw[<-h];have e:=M3 vd (G:=λd ρ=>R.ok (aCE ρ 0<|Sl.v d)) (ft:=λρ=>((((W9 1 ρ).bind λd=>((W9 0 ρ).bind λd=>R.ok [d]).bind λds=>R.ok (d::ds)).bind G0).bind λx=>UT x (D.int 0)).bind EA) (fe:=W9 0) (ρ:=[.no,.v (.tup [D.int a,D.int b,D.int c,D.int d])])
     (λX=>decide (G.d7 ⟨a,b,c⟩ X=d)) vd pts λP hP=>⟨[.v (vd P),Sl.v (D.tup [D.int a,D.int b,D.int c,D.int d])],rfl,by simp[EF hz.1.mono (hz.2.1 P hP).mono,vk,G.d7];exact decide_eq_decide.mpr (by lia),λ_=>rfl⟩
    simp[j5,i7,small hz.2.2,e];rfl
   ·cases h
  ·cases h
def I9 (o6:x4 P w K mg base 1 "way_between" 2 n4)(x8:x4 P w K mg base 1 "product_of" 2 m8)(C5:x4 P w K mg base 1 "cross_of" 2 w5)(Q6:x4 P w K mg base 2 "plane_through" 3 R0)(cb:NC K mg "NO_WAY" [0,0,0])(g:fA K mg "plane_about" X8):x4 P w K mg base 3 "plane_about" 2 D1:=by
 refine' n6 (k:=2) (F:=_) g oC (λhr hu eh nd=>?b) λds d hl h=>?_
 case b=>
  refine' (c6 (j3 2 (aJ o6 hr (f8 (b9 0) d4)<|f8 (b9 0) d4) nd)
   (c6 (j3 3 (sV cb) nd)
   (c6 (j3 4 (f8 (b9 0) d4) nd)
   (c6 (J0 aBi rfl (p7<|d6 1) (l5 5 nd) (c6 (j3 6 (aJ o6 hr (f8 (b9 0) d4)<|d6 5) nd)
   (d8 (A2 (JX.pt<|WM (o7 (iO hu) (b9 3)<|PD.pb<|sV cb)<|RW<|o7 DW (PD.pb<|aJ x8 hr (d6 3)<|d6 6) y7) (c6 (j3 3 (aJ C5 hr (d6 2)<|d6 6) nd)
   (d8<|j3 4 (d6 5) nd)) p8))))
   (d8<|j2<|pc3 Q6 hr (f8 (b9 0) d4) (f8 (b9 0) d4)<|d6 4)))))
 replace h:=WU h;obtain⟨ys,ds,rfl,h⟩:=h;replace h:=sS h;obtain⟨xs,ds,rfl,h⟩:=h;replace h:=K5 h;obtain⟨rfl,h⟩:=h;replace h:=G1 h;obtain⟨a,b,c,ys,rfl,h⟩:=h;replace h:=G1 h;obtain⟨d,e,f,ys,rfl,h⟩:=h;replace h:=K5 h;obtain⟨rfl,h⟩:=h
 ·skip
  split at h
  ·rename_i pts hw;rw[n9 hw];split at h
   ·rename_i hz;rw[<-h];obtain⟨sA,sB,hs,hp⟩:=hz;have vA:(.tup [.int a,.int b,.int c]:D)=vd ⟨a,b,c⟩:=rfl;have vB:(.tup [.int d,.int e,.int f]:D)=vd ⟨d,e,f⟩:=rfl;rw[vA,vB];generalize(⟨a,b,c⟩:G.V)=A at*
    generalize(⟨d,e,f⟩:G.V)=B at*
    simp[j5];have z0:(.tup [.int 0,.int 0,.int 0]:D)=vd 0:=rfl;rw[z0];refine cA (λrest ρ=>∃(up out:G.V) (qs:List G.V) (x y:Sl),ρ=[.v (.tup [vd A,vd B]),.v (.lst (aDi vd pts)),.v (vd<|B-A),.v (vd up),.v (vd out),x,y]/\rest=qs.map vd/\Sz 2003 up/\Sz 1000 out/\(∀X∈qs,Sz 1000 X)/\G.D7 (B-A) A qs up out=G.D7 (B-A) A pts 0 A) ?_ ⟨0,A,pts,_,_,rfl,rfl,⟨by decide,by decide,by decide⟩,sA,hs.1,rfl⟩ ?_
    ·rintro d ds ρ ⟨up,out,qs,x,y,rfl,e1,su,so,sq,e2⟩;match qs,e1 with
     |P::qs,e1=>
      injection e1 with e3 e4;subst e3 e4;have sP:=sq P (.head _);have sw:=sP.sub sA;have e0:=eq0 up;rw[show(.tup [.int 0,.int 0,.int 0]:D)=vd 0 from rfl]at e0;have c1:=cO (u:=B-A) (v:=P-A) (sB.sub sA).mono sw.mono;have p1:=iE (u:=up) (v:=P-A) su.mono sw.mono;have w1:=WT A P;have i0:M1 (.tup [vd A,vd B]) (.int 0)=.ok (vd A):=rfl
      conv at e2=>lhs;unfold G.D7
      simp only[bD,aCF,aCG,rM,NJ,kX,fB,R.aa0,i0,w1,A9,e0,DZ,p1,uU];by_cases hu0:up=0
      ·rw[if_pos (.inl hu0)]at e2;refine⟨_,?_,G.cr (B-A) (P-A),P,qs,.v (vd P),.v (vd<|P-A),rfl,rfl,(((sB.sub sA).cr sw).mono),sP,λX hX=>sq X (.tail _ hX),e2⟩;rw[decide_eq_true hu0];simp only[if_true,R.aa0,c1,A9,aCF,aCG,kX,fB]
      ·rw[decide_eq_false hu0];by_cases hd0:0<G.d7 up (P-A)
       ·rw[if_pos (.inr hd0)]at e2;refine⟨_,?_,G.cr (B-A) (P-A),P,qs,.v (vd P),.v (vd<|P-A),rfl,rfl,(((sB.sub sA).cr sw).mono),sP,λX hX=>sq X (.tail _ hX),e2⟩;rw[decide_eq_true hd0];simp only[if_true,aAs,if_false,R.aa0,c1,A9,aCF,aCG,kX,fB]
       ·rw[if_neg (λz=>z.elim hu0 hd0)]at e2;refine⟨_,?_,up,out,qs,.v (vd P),.v (vd<|P-A),rfl,rfl,su,so,λX hX=>sq X (.tail _ hX),e2⟩;rw[decide_eq_false hd0];simp only[aAs,if_false,R.aa0]
    ·rintro ρ ⟨up,out,qs,x,y,rfl,e1,su,so,sq,e2⟩;have:qs=[]:=by simpa using e1.symm
     subst this;have e2:(up,out)=G.D7 (B-A) A pts 0 A:=e2;have eo:(G.D7 (B-A) A pts 0 A).2=out:=by rw[<-e2]
     unfold G.b8 at hp⊢;rw[eo]at hp⊢;have pl:=OA ⟨sA,sB,so⟩ (QV hp);simp[pl]
   ·cases h
  ·cases h
def bN (E8:x4 P w K mg base 2 "points_on" 2 x9)(I9:x4 P w K mg base 3 "plane_about" 2 D1)(E6:x4 P w K mg base 2 "dimension_of" 1 B4)(ue:mg "min"=none)(g:fA K mg "first_pair" bS):x4 P w K mg base 8 "first_pair" 1 F8:=by
 refine' n6 (k:=7) (F:=_) g qI (λhr hu eh nd=>?b) λds d hl h=>?_
 case b=>
  have qi:=hr.ad5 (by decide);refine' (c6 (j3 1 (U0 (SK rfl qi)<|o5 (b9 0) x6) nd)
   (c6 (j3 2 (GB (d6 1)<|yV (f8 (b9 1) d4) (f8 (b9 1) d4)<|c5 o9 (PD.pb<|f8 (b9 1) d4) y7) nd)
   (c6 (j3 3 (aJ E8 hr (aJ I9 hr (d6 2)<|d6 0)<|d6 0) nd)
   (c6 (A2 (o7 (iO hu) (PD.pb<|uY E6 hr<|d6 3) y7) (d8<|j2<|d6 2) p8)
   (d8<|j2<|GB (f8 (b9 3) d4)<|f8 (b9 3) d4)))))
 match ds,h with
 |[.lst xs],h=>
  simp only[F8]at h;split at h
  ·rename_i m pts hw;rw[n9 hw];split at h
   ·rename_i hz;rw[<-h];have hm:=YL hz.good.ord;have s1:N9 1000 (m::pts):=hz.sz.mono;have sm:Sz 900 m:=hz.sz.1 m (.head _);obtain⟨hp,tm,out,to,ah⟩:=G.xD hz.good.solid hz.good.mem hz.good.least;have ab:=U6 sm.mono (OC sm) s1 hp;have asz:=xU sm.mono (OC sm) s1;rw[bw]at ab;have po:=iJ (d:=(G.b8 m (m+G.kk) (m::pts)).2) asz.mono s1;obtain⟨x,y,r,et⟩:=NK tm to ah;have ts:=IZ (n:=(G.b8 m (m+G.kk) (m::pts)).1) (d:=(G.b8 m (m+G.kk) (m::pts)).2) s1;have dm:=KP (pts:=G.u9 (G.b8 m (m+G.kk) (m::pts)).1 (G.b8 m (m+G.kk) (m::pts)).2 (m::pts)) (by rw[et];simp) ts;have i0:M1 (.lst ((G.u9 (G.b8 m (m+G.kk) (m::pts)).1 (G.b8 m (m+G.kk) (m::pts)).2 (m::pts)).map vd)) (.int 0)=.ok (vd x):=M0 (by rw[et];exact ZS _ _);have i1:M1 (.lst ((G.u9 (G.b8 m (m+G.kk) (m::pts)).1 (G.b8 m (m+G.kk) (m::pts)).2 (m::pts)).map vd)) (.int 1)=.ok (vd y):=M0 (by rw[et];exact jq _ _ _);unfold G.e9;dsimp only;by_cases h2:G.R7 (G.u9 (G.b8 m (m+G.kk) (m::pts)).1 (G.b8 m (m+G.kk) (m::pts)).2 (m::pts))=2
    ·rw[if_pos h2];rw[h2]at dm;generalize(m::pts).map vd=L at*
     generalize(G.u9 (G.b8 m (m+G.kk) (m::pts)).1 (G.b8 m (m+G.kk) (m::pts)).2 (m::pts)).map vd=L2 at*
     generalize(G.b8 m (m+G.kk) (m::pts)).1=pn at*
     generalize(G.b8 m (m+G.kk) (m::pts)).2=pm at*
     simp[j5,hm,ab,po,dm,G.kk]
    ·rw[if_neg h2];have e0:(G.u9 (G.b8 m (m+G.kk) (m::pts)).1 (G.b8 m (m+G.kk) (m::pts)).2 (m::pts)).getD 0 0=x:=by rw[et];rfl
     have e1:(G.u9 (G.b8 m (m+G.kk) (m::pts)).1 (G.b8 m (m+G.kk) (m::pts)).2 (m::pts)).getD 1 0=y:=by rw[et];rfl
     rw[e0,e1];have hb:((G.R7 (G.u9 (G.b8 m (m+G.kk) (m::pts)).1 (G.b8 m (m+G.kk) (m::pts)).2 (m::pts)):Int)==2)=false:=by rw[beq_eq_false_iff_ne];lia
     generalize(m::pts).map vd=L at*
     generalize(G.u9 (G.b8 m (m+G.kk) (m::pts)).1 (G.b8 m (m+G.kk) (m::pts)).2 (m::pts)).map vd=L2 at*
     generalize(G.R7 (G.u9 (G.b8 m (m+G.kk) (m::pts)).1 (G.b8 m (m+G.kk) (m::pts)).2 (m::pts)):Int)=dd at*
     generalize(G.b8 m (m+G.kk) (m::pts)).1=pn at*
     generalize(G.b8 m (m+G.kk) (m::pts)).2=pm at*
     simp[j5,hm,ab,po,dm,hb,i0,i1]
   ·cases h
  ·cases h
def iW (x8:x4 P w K mg base 1 "product_of" 2 m8)(C5:x4 P w K mg base 1 "cross_of" 2 w5)(o6:x4 P w K mg base 1 "way_between" 2 n4)(g:fA K mg "turn_of" iX):x4 P w K mg base 2 "turn_of" 4 dZ:=by
 refine' n6 (k:=1) (F:=_) g AY (λhr hu eh nd=>?b) λds d hl h=>?_
 case b=>refine' (d8<|j2<|aJ x8 hr (d6 0)<|aJ C5 hr (aJ o6 hr (d6 1)<|d6 2)<|aJ o6 hr (d6 2)<|d6 3)
 replace h:=G1 h;obtain⟨a,b,c,ds,rfl,h⟩:=h;replace h:=G1 h;obtain⟨d,e,f,ds,rfl,h⟩:=h;replace h:=G1 h;obtain⟨g,h',i,ds,rfl,h⟩:=h;replace h:=G1 h;obtain⟨j,k,l,ds,rfl,h⟩:=h;replace h:=K5 h;obtain⟨rfl,h⟩:=h
 ·skip
  split at h
  ·rename_i hz;obtain⟨p,q,r,s⟩:=hz;rw[<-h];have c1:=cO (u:=⟨g,h',i⟩-⟨d,e,f⟩) (v:=⟨j,k,l⟩-⟨g,h',i⟩) (r.sub q).mono (s.sub r).mono;have c2:=iE (u:=⟨a,b,c⟩) (v:=G.cr (⟨g,h',i⟩-⟨d,e,f⟩) (⟨j,k,l⟩-⟨g,h',i⟩)) p.mono ((r.sub q).cr (s.sub r)).mono;simp only[vd,G.VQ,G.VD,G.UW,G.RV,G.RM,G.UC]at c1 c2;simp[j5,n4,v1,uW,c1,c2,G.turn,G.i8]
  ·cases h
def T0 (iW:x4 P w K mg base 2 "turn_of" 4 dZ)(gv:mg "len"=none)(g:fA K mg "left_chain" bE):x4 P w K mg base 3 "left_chain" 2 R8:=by
 refine' n6 (k:=2) (F:=_) g pR (λhr hu eh nd=>?b) λds d hl h=>?_
 case b=>
  refine' (c6 (dR 2 (jE q8) nd)
   (c6 (J0 aBi rfl (p7<|d6 1) (l5 3 nd) (c6 (iY (λ_=>1001) aBi (JX.pt<|CA (o7 DW (PD.pb<|OX fM<|b9 2) y7)<|vI<|o7 ik (PD.pb<|pc4 iW hr (d6 0) (f8 (b9 2)<|bP d4) (f8 (b9 2)<|bP d4)<|d6 3) y7)<|d8<|QN 2)
   (d8<|aQ 2<|d6 3)))
   (d8<|DT 2<|j2<|d6 2)))
 replace h:=G1 h;obtain⟨a,b,c,ds,rfl,h⟩:=h;replace h:=sS h;obtain⟨xs,ds,rfl,h⟩:=h;replace h:=K5 h;obtain⟨rfl,h⟩:=h
 ·skip
  split at h
  ·rename_i pts hw;rw[n9 hw];split at h
   ·rename_i hz;rw[<-h];obtain⟨sn,hs⟩:=hz;have vn:(.tup [.int a,.int b,.int c]:D)=vd ⟨a,b,c⟩:=rfl;rw[vn];generalize(⟨a,b,c⟩:G.V)=n at*
    simp[j5];refine cA (λrest ρ=>∃(c qs:List G.V) (x:Sl),ρ=[.v (vd n),.v (.lst (aDi vd pts)),.o (c.reverse.map vd),x]/\rest=qs.map vd/\(∀X∈c,Sz 1000 X)/\(∀X∈qs,Sz 1000 X)/\c.length+qs.length<=1000/\qs.foldl (λc P=>P::G.V8 n P c) c=G.y9 n pts) ?_ ⟨[],pts,_,rfl,rfl,λX hX=>by(cases hX),hs.1,by simpa using hs.2,rfl⟩ ?_
    ·rintro d ds ρ ⟨c,qs,x,rfl,e1,sc,sq,hl,e2⟩;match qs,e1 with
     |P::qs,e1=>
      injection e1 with e3 e4;subst e3 e4;have sP:=sq P (.head _);simp only[aAu]at hl;simp only[bD,aCF,aCG];refine Exists.elim (wS (n:=1001) (ρ:=[.v (vd n),.v (.lst (aDi vd pts)),.o (c.reverse.map vd),.v (vd P)]) (Post:=λρ=>∃c',ρ=[.v (vd n),.v (.lst (aDi vd pts)),.o (c'.reverse.map vd),.v (vd P)]/\(∀X∈c',Sz 1000 X)/\c'.length<=c.length/\c'=G.V8 n P c)
       (c:=WB (λρ=>((((pI 2 ρ).bind λd=>R.ok [d]).bind QD).bind λx=>ZN x (D.int 1)).bind EA) λρ=>((((W9 0 ρ).bind λd=>(((pI 2 ρ).bind λx=>M1 x (D.int (-2))).bind λd=>(((pI 2 ρ).bind λx=>M1 x (D.int (-1))).bind λd=>((W9 3 ρ).bind λd=>R.ok [d]).bind λds=>R.ok (d::ds)).bind λds=>R.ok (d::ds)).bind λds=>R.ok (d::ds)).bind dZ).bind λx=>ay x (D.int 0)).bind EA) (F:=λρ=>(AC 2 ρ).bind λz=>R.ok (Out.nx z.snd))
       (λm ρ=>∃c',ρ=[.v (vd n),.v (.lst (aDi vd pts)),.o (c'.reverse.map vd),.v (vd P)]/\(∀X∈c',Sz 1000 X)/\c'.length<=c.length/\c'.length<m/\G.V8 n P c'=G.V8 n P c) ?_ (by rintro ρ ⟨c',_,_,_,h,_⟩;lia) ⟨c,rfl,sc,aAg _,by lia,rfl⟩ ?_) ?_
      ·rintro m ρ ⟨c',rfl,sub,ig,hm,ep⟩;match c',sub,ig,hm,ep with
       |[],_,_,_,_=>exact .inl (by simp)
       |[a],_,_,_,_=>exact .inl (by simp)
       |b::a::r,sub,ig,hm,ep=>
        have er:(b::a::r).reverse.map vd=r.reverse.map vd++[vd a,vd b]:=by simp
        have i1:M1 (.lst ((b::a::r).reverse.map vd)) (.int (-1))=.ok (vd b):=M0 (by rw[er];exact UR _ _ _);have i2:M1 (.lst ((b::a::r).reverse.map vd)) (.int (-2))=.ok (vd a):=M0 (by rw[er];exact UP _ _ _);have tn:=EI sn (sub a<|.tail _ (.head _)) (sub b<|.head _) sP;have hg:(1:Int)<(aDi vd (b::a::r).reverse).length:=by rw[aAl,aCx];simp;lia
        by_cases ht:G.turn n a b P<=0
        ·refine .inr ⟨?_,[.v (vd n),.v (.lst (aDi vd pts)),.o ((a::r).reverse.map vd),.v (vd P)],?_,a::r,rfl,λX hX=>sub X (.tail _ hX),?_,?_,?_⟩
         ·simp only[uP,rM,zJ,R.aa0,AO,uU,decide_eq_true hg,DZ,if_true,fB,kX,i1,i2,tn,BE,decide_eq_true ht]
         ·show(match(aDi vd (b::a::r).reverse)[(aDi vd (b::a::r).reverse).length-1]? with|some d=>_|none=>_:R (D×Ev)).bind _=_;rw[er];simp
         ·simp only[aAu]at ig⊢;lia
         ·simp only[aAu]at hm⊢;lia
         ·rw[<-ep]
          conv=>rhs;unfold G.V8
          rw[if_pos ht]
        ·refine .inl ?_;simp only[uP,rM,zJ,R.aa0,AO,uU,decide_eq_true hg,DZ,if_true,fB,kX,i1,i2,tn,BE,decide_eq_false ht]
      ·rintro m ρ ⟨c',rfl,sub,ig,hm,ep⟩ hc;refine⟨c',rfl,sub,ig,?_⟩;match c',sub,ig,hm,ep,hc with
       |[],_,_,_,ep,_=>exact ep
       |[a],_,_,_,ep,_=>exact ep
       |b::a::r,sub,ig,hm,ep,hc=>
        have er:(b::a::r).reverse.map vd=r.reverse.map vd++[vd a,vd b]:=by simp
        have i1:M1 (.lst ((b::a::r).reverse.map vd)) (.int (-1))=.ok (vd b):=M0 (by rw[er];exact UR _ _ _);have i2:M1 (.lst ((b::a::r).reverse.map vd)) (.int (-2))=.ok (vd a):=M0 (by rw[er];exact UP _ _ _);have tn:=EI sn (sub a<|.tail _ (.head _)) (sub b<|.head _) sP;have hg:(1:Int)<(aDi vd (b::a::r).reverse).length:=by rw[aAl,aCx];simp;lia
        simp only[uP,rM,zJ,R.aa0,AO,uU,decide_eq_true hg,DZ,if_true,fB,kX,i1,i2,tn,BE,NT,decide_eq_false_iff_not]at hc;rw[<-ep]
        conv=>rhs;unfold G.V8
        rw[if_neg hc]
      ·rintro ρ2 ⟨ew,c',rfl,sub,ig,epop⟩;refine⟨[.v (vd n),.v (.lst (aDi vd pts)),.o ((P::c').reverse.map vd),.v (vd P)],?_,P::c',qs,_,rfl,rfl,?_,λX hX=>sq X (.tail _ hX),?_,?_⟩
       ·rw[ew];have hz:(aDi vd c'.reverse).length<sizeLine:=by rw[aAl,aCx];exact aDg (show c'.length<=1000 by lia) (by decide)
        simp only[A9,kX,fB,R.aa0];show(if(aDi vd c'.reverse).length<sizeLine then _ else _)=_;rw[if_pos hz];simp
       ·intro X hX;rcases aAd.mp hX with rfl|hX
        ·exact sP
        ·exact sub X hX
       ·simp;lia
       ·rw[<-e2,aEu,epop]
    ·rintro ρ ⟨c,qs,x,rfl,e1,sc,sq,hl,e2⟩;have:qs=[]:=by simpa using e1.symm
     subst this;have e2:c=G.y9 n pts:=e2;subst e2;simp[UE]
   ·cases h
  ·cases h
def kL (T0:x4 P w K mg base 3 "left_chain" 2 R8)(jb:mg "list"=none)(kn:mg "reversed"=none)(g:fA K mg "ring_of" kA):x4 P w K mg base 4 "ring_of" 2 N1:=by
 refine' n6 (k:=3) (F:=_) g zN (λhr hu eh nd=>?b) λds d hl h=>?_
 case b=>
  refine' (c6 (j3 2 (aJ T0 hr (d6 0)<|d6 1) nd)
   (c6 (j3 3 (aJ T0 hr (d6 0)<|PF.pd<|AG (b9 1) rfl) nd)
   (d8<|j2<|c5 o9 (PD.pb<|rE (b9 2) cF<|U4<|bP d4)<|PD.pb<|rE (b9 3) cF<|U4<|bP d4)))
 replace h:=G1 h;obtain⟨a,b,c,ds,rfl,h⟩:=h;replace h:=sS h;obtain⟨xs,ds,rfl,h⟩:=h;replace h:=K5 h;obtain⟨rfl,h⟩:=h
 ·skip
  split at h
  ·rename_i pts hw;rw[n9 hw];split at h
   ·rename_i hz;rw[<-h];obtain⟨sn,hs⟩:=hz;have vn:(.tup [.int a,.int b,.int c]:D)=vd ⟨a,b,c⟩:=rfl;rw[vn];generalize(⟨a,b,c⟩:G.V)=n at*
    have l1:=UV sn hs;have zg:N9 1000 pts.reverse:=hs.sub (λP hP=>by simpa using hP) (by simp);have l2:=UV sn zg;rw[aFu (l:=pts)]at l2;have k1:=qV n pts;have k2:=qV n pts.reverse;rw[aCx]at k2;have ha:lV (.lst ((G.y9 n pts).reverse.map vd).dropLast) (.lst ((G.y9 n pts.reverse).reverse.map vd).dropLast)=.ok (.lst ((G.l6 n pts).map vd)):=by rw[DA (by simp only[aFM,aAl,aCx];exact aAo (show _<=2000 by have:=hs.2;lia) (by decide))];unfold G.l6;rw[aCk,List.map_dropLast,List.map_dropLast]
    simp[-aFu,j5,l1,l2,QB,ha,cj]
   ·cases h
  ·cases h
def G5 (jb:mg "list"=none)(b_zip:mg "zip"=none)(g:fA K mg "pairs_round" Y0):x4 P w K mg base 1 "pairs_round" 1 v6:=by
 refine' n6 (k:=0) (F:=_) g pB (λhr hu eh nd=>?b) λds d hl h=>?_
 case b=>refine' (d8<|j2<|PF.pd<|BX (b9 0) (PD.pb<|c5 o9 (PD.pb<|rE (b9 0) (U4 d4) cF)<|PD.pb<|rE (b9 0) cF<|U4 d4) rfl)
 match ds,h with
 |[.lst xs],h=>
  simp only[v6]at h;split at h
  ·rename_i pts hw;rw[n9 hw];split at h
   ·rename_i hz;rw[<-h];have ha:lV (.lst (pts.map vd).tail) (.lst ((pts.map vd).take 1))=.ok (.lst ((pts.tail++pts.take 1).map vd)):=by rw[DA (by simp only[List.length_tail,aBM,aAl];exact MJ (by lia))];rw[aCk,List.map_tail,List.map_take]
    have hzz:(pts.map vd).length=((pts.tail++pts.take 1).map vd).length:=by
     simp only[aAl,aAz,List.length_tail,aBM]
     lia
    have hzp:SX [.lst (pts.map vd),.lst ((pts.tail++pts.take 1).map vd)]=.ok ((G.L9 pts).map A6):=by show(if _ then _ else _)=_;rw[if_pos hzz,qL (β:=Unit)];rfl
    simp[-aCk,-List.map_tail,-List.map_take,j5,OW,XF,ha,hzp]
   ·cases h
  ·cases h
def aO (I9:x4 P w K mg base 3 "plane_about" 2 D1)(kL:x4 P w K mg base 4 "ring_of" 2 N1)(G5:x4 P w K mg base 1 "pairs_round" 1 v6)(gv:mg "len"=none)(ba:mg "sorted"=none)(g:fA K mg "faces_from" bR):QX P w K mg base 8 3 "faces_from" F1:=by
 obtain⟨f,fd,oo,F0⟩:=g;refine' PM (k:=7) (F:=_) F0 eV rfl (F0.binds λ_ _ _ _ _ _ us hl=>match us,hl with|[_,_,_],_=>rfl) oo (λcdv A outer s H E hr=>?hb) ?hm
 case hb=>
  have hu:=hr.units;have eh:=hr.ae3;have qi:=hr.ad5 (by decide);have nd:=eV.nd;refine' (c6 (dR 3 (jE q8) nd)
   (c6 (LW 4 nd)
   (c6 (dR 5 (jE<|f9 (d6 0) q8) nd)
   (c6 (iY (λ_=>5000) aBi (o7 DW (PD.pb<|OX fM<|b9 5) y7) (c6 (zG 6 5 nd)
   (d8 (A2 (HP 4 (d6 6) eh) (c6 (j3 7 (aJ I9 hr (d6 6) (xQ 1 (k:=3) (Φ:=IR P w K mg base 3 1) rfl (f9 (f8 (b9 6) d4) q8) (z8 aE) (hr.mono (by decide)))) nd)
   (c6 (j3 8 (aJ kL hr (rE (b9 7) cF<|U4 d4) (xQ 2 (k:=3) (Φ:=IR P w K mg base 3 1) rfl (f9 (d6 7) q8) (z8 aE) (hr.mono (by decide)))) nd)
   (c6 (aQ 3<|GB (d6 7)<|d6 8)
   (d8 (J0 aBi rfl (p7<|uY G5 hr<|d6 8) (l5 9 nd) (c6 (zP 4 wK (d6 9) eh)
   (d8<|aQ 5<|GB (f8 (b9 9) d4)<|f8 (b9 9) d4))))))) p8))))
   (d8<|j2<|PF.pd<|BA (b9 3) rfl qi)))))
 case hm=>
  intro d m1 m2 d' h;simp only[F1]at h;split at h
  ·rename_i xs hm1;split at h
   ·rename_i m pts hw;split at h
    ·rename_i hz;rw[<-h];obtain⟨hz,ui,hd,e1,e2⟩:=hz;rw[n9 hw]at e1 e2;subst hd e1 e2;have s1:(1:Nat)<=sizeLine:=by decide
     simp only[jN,fB,nK,uS,R.aa0,aAu,aBD,aEQ,s1,if_true,A9];exact bz (Φ:=IR P w K mg base 3 1) hz ui
    ·cases h
   ·cases h
  ·cases h
def qU:Nst:=⟨"about",EG,D6 cQ,t9 cQ,c8 cQ,EL cQ,["corner"],[],["spread"],[1],(λρ=>(W9 1 ρ).bind λd=>.ok (.rt d)),G9,2⟩
def cG:Nst:=⟨"touched_by",iU,D6 G8,t9 G8,c8 G8,EL G8,["plane"],[],["spread"],[1],(λρ=>((o8 (W9 0) (o8 (W9 1) P3) ρ).bind x9).bind λd=>.ok (.rt d)),C6,3⟩
def HI {f:Addr}{cdv:Value}{A:Around}{outer:List Env}{s:Shared}{H:Hp}{E:XK}:NstOk (TX P w K mg base gB "faces_of" (c8 J4) f cdv A outer s H E) 2 qU where
 sc:=⟨rfl,rfl,rfl,by decide+kernel,by decide+kernel,by decide+kernel,λx h=>CT h,by decide+kernel⟩
 one:=rfl
 body:=λfa cd clos A outer s H hr=>by have hu:=hr.units;exact(d8<|j2<|d6 1)
 mm:=by
  intro wd ds d h1 h2 h;match wd,ds,h1,h2,h with
  |[_],[_],_,_,h=>cases h;rfl
 bind:=λclos doc pm cd ctv us hl=>match us,hl with|[_],_=>rfl
 len:=rfl
 at_:=λi j x h1 h2=>match i,h1,h2 with
  |0,h1,h2=>by obtain rfl:1=j:=Option.some.inj h1;obtain rfl:("spread":Str)=x:=Option.some.inj h2;exact⟨rfl,rfl⟩
  |i+1,h1,_=>nomatch(show(none:Option Nat)=some j from h1)
 d0:=rfl
 k0:=rfl
 nm:=rfl
 lc:=.inl rfl
 st:=.inl rfl
 dbg:=by decide
 cdt:=by decide
def mN (E8:x4 P w K mg base 2 "points_on" 2 x9){f:Addr}{cdv:Value}{A:Around}{outer:List Env}{s:Shared}{H:Hp}{E:XK}:NstOk (TX P w K mg base gB "faces_of" (c8 J4) f cdv A outer s H E) 2 cG where
 sc:=⟨rfl,rfl,rfl,by decide+kernel,by decide+kernel,by decide+kernel,λx h=>CT h,by decide+kernel⟩
 one:=rfl
 body:=λfa cd clos A outer s H hr=>by have hu:=hr.units;exact(d8<|j2<|aJ E8 hr (d6 0)<|d6 1)
 mm:=by
  intro wd ds d h1 h2 h;match wd,ds,h1,h2,h with
  |[w],[p],_,_,h=>have h:x9 [p,w]=.ok d:=h;show K7 (((o8 (W9 0) (o8 (W9 1) P3) [.v p,.v w]).bind x9).bind λd=>.ok (.rt d))=.ok d;have e:o8 (W9 0) (o8 (W9 1) P3) [.v p,.v w]=.ok [p,w]:=rfl;rw[e,R.aa0,h];rfl
 bind:=λclos doc pm cd ctv us hl=>match us,hl with|[_],_=>rfl
 len:=rfl
 at_:=λi j x h1 h2=>match i,h1,h2 with
  |0,h1,h2=>by obtain rfl:1=j:=Option.some.inj h1;obtain rfl:("spread":Str)=x:=Option.some.inj h2;exact⟨rfl,rfl⟩
  |i+1,h1,_=>nomatch(show(none:Option Nat)=some j from h1)
 d0:=rfl
 k0:=rfl
 nm:=rfl
 lc:=.inl rfl
 st:=.inl rfl
 dbg:=by decide
 cdt:=by decide
def J8 {Pt:Addr}(E8:x4 P w K mg base 2 "points_on" 2 x9)(Y4:x4 P w K mg base 3 "refuse_flat" 1 D3)(bN:x4 P w K mg base 8 "first_pair" 1 F8)(aO:QX P w K mg base 8 3 "faces_from" F1)(ba:mg "sorted"=none)(me:mg "set"=none)(hB:gW mg base)(hTt:(Pt,tbK)∈Tabs.tbs)(g:gx K mg "faces_of" J4 Pt):x4 P w K mg base 9 "faces_of" 1 J6:=by
 obtain⟨f,fd,cd,oo,hK,F0⟩:=g;refine' RP (k:=8) (F:=_) F0 lC (F0.fn.binds λ_ _ _ _ _ _ us hl=>match us,hl with|[_],_=>rfl) oo (λA outer s H E hr=>?hb) ?hm
 case hb=>
  have hu:=hr.units;have eh:=hr.ae3;have qi:=hr.ad5 (by decide);have nd:=lC.nd;refine' (c6 (MV<|uY Y4 hr<|d6 0)
   (c6 (j3 1 (PF.pd<|gN (b9 0) rfl qi) nd)
   (BF (n1:=qU) (n2:=cG) (clos1:=[("spread",s.heap.objs.size+1)]) (clos2:=[("spread",s.heap.objs.size+1)]) (tb:=tbK) HI (mN E8) ?co1 ?co2 ?hA hB rfl hK hTt (by decide+kernel) (by decide+kernel) (by decide+kernel) (by decide+kernel) (by decide) nd aO (hr.mono (by decide)) (uY bN hr<|d6 1) (λ_=>rfl))))
  case co1=>exact⟨rfl,rfl,rfl,λx c h=>h,λx hx=>⟨_,by obtain rfl:x= "spread":=aAZ.mp hx;rfl⟩⟩
  case co2=>exact⟨rfl,rfl,rfl,λx c h=>h,λx hx=>⟨_,by obtain rfl:x= "spread":=aAZ.mp hx;rfl⟩⟩
  case hA=>exact GV
 case hm=>
  intro ds d hl h;match ds,h with
  |[.lst xs],h=>
   simp only[J6]at h;split at h
   ·rename_i pts hw;rw[n9 hw];split at h
    ·rename_i hz;rw[<-h];obtain⟨h1,h2,h3⟩:=hz;obtain⟨m,r,e,L⟩:=eF h1 h2 (by lia);have ss:=VM (pts:=pts) (by lia);have fl:=PV (h1.mono (n:=1000)) h2;rw[e]at h3 ss⊢;have fp:=cq L;have ff:=XX L h3;obtain⟨L1,eL⟩:∃L1,(m::r).map vd=L1:=⟨_,rfl⟩;rw[eL]at ss fp ff;show K7 (C1 ((D3 [D.lst (pts.map vd)]).bind λ_=>R.ok (Out.nx [.v (.lst (pts.map vd)),.no,.no,.no])) _)=_;rw[fl,R.aa0,A9];show K7 (C1 (((gk<|.lst (pts.map vd)).bind λds=>R.ok (D.lst ds)).bind λd=>R.ok (Out.nx [.v (.lst (pts.map vd)),.v d,.no,.no])) _)=_;rw[ss,R.aa0,R.aa0,A9];show K7 (((F8 [D.lst L1]).bind λd1=>(R.ok [D.lst L1]).bind λw1=>(R.ok [D.lst L1]).bind λw2=>F1 d1 (G9 w1) (C6 w2)).bind λd=>R.ok (Out.rt d))=_;rw[fp,R.aa0,R.aa0,R.aa0,ff];rfl
    ·cases h
   ·cases h
def bL (ba:mg "sorted"=none)(me:mg "set"=none)(g:fA K mg "corners_in" aY):x4 P w K mg base 8 "corners_in" 1 F4:=by
 refine' n6 (k:=7) (F:=_) g pW (λhr hu eh nd=>?b) λds d hl h=>?_
 case b=>
  have qi:=hr.ad5 (by decide);refine' (c6 (dR 1 (jE q8) nd)
   (c6 (J0 aBi rfl (p7<|d6 0) (aX (n:=2) rfl<|p5 (l5 2 nd)<|p5 (l5 3 nd) U8)<|d8<|mS 1<|d6 3)
   (d8<|j2<|PF.pd<|gN (b9 1) rfl qi)))
 match ds,h with
 |[.lst xs],h=>
  simp only[F4]at h;split at h
  ·rename_i rs hw;split at h
   ·rename_i hz;rw[<-h];obtain⟨x',y',e⟩:=kU (a:=Sl.v (D.lst xs)) xs rs [] Sl.no Sl.no hw (by simpa using hz.1);rw[aFC,aEz]at e;have ss:=VM hz.2;simp[j5,-List.map_flatten,e,ss]
   ·cases h
  ·cases h
def kJ (bL:x4 P w K mg base 8 "corners_in" 1 F4)(J8:x4 P w K mg base 9 "faces_of" 1 J6)(g:fA K mg "body_of" jZ):x4 P w K mg base 10 "body_of" 1 Z8:=by
 refine' n6 (k:=9) (F:=_) g BH (λhr hu eh nd=>?b) λds d hl h=>?_
 case b=>refine' (d8<|j2<|uY bL hr<|uY J8 hr<|d6 0)
 match ds,h with
 |[.lst xs],h=>
  simp only[Z8]at h;split at h
  ·rename_i pts hw;rw[n9 hw];split at h
   ·rename_i hz;rw[<-h];obtain⟨h1,h2,h3⟩:=hz;obtain⟨m,r,e,L⟩:=eF h1 h2 (by lia);have fo:=pE h1 h2 h3;have fr:((k9<|c7 pts).flatMap (G.j8<|c7 pts)).length<=200/\(c7<|(k9<|c7 pts).flatMap (G.j8<|c7 pts)).length<=14:=by rw[e]at h3⊢;exact rZ L h3
    have co:=AW (pts:=c7 pts) (fs:=k9 (c7 pts)) (by lia) (by lia);simp[j5,fo,co,C0]
   ·cases h
  ·cases h
end
end K24
namespace K24
open PySem L2 DL M
section
variable [Tabs]
variable{P:Program} {w:World} {K:PySem.W.Frag} {mg:cP} {base:Heap}
def aR (J8:x4 P w K mg base 9 "faces_of" 1 J6)(G5:x4 P w K mg base 1 "pairs_round" 1 v6)(ue:mg "min"=none)(mh:mg "max"=none)(ba:mg "sorted"=none)(me:mg "set"=none)(g:fA K mg "edges_of" bO):x4 P w K mg base 10 "edges_of" 1 iL:=by
 refine' n6 (k:=9) (F:=_) g vZ (λhr hu eh nd=>?b) λds d hl h=>?_
 case b=>
  have qi:=hr.ad5 (by decide);refine' (c6 (dR 1 (jE q8) nd)
   (c6 (J0 aBi rfl (p7<|uY J8 hr<|d6 0) (aX (n:=2) rfl<|p5 (l5 2 nd)<|p5 (l5 3 nd) U8)<|d8<|mS 1<|N6 ["pair"] [] [] rfl (J5 (sc:=c8 bO) (N:=nJ)) (p7<|uY G5 hr<|d6 3) (IS λ_ _ _ _ _=>(GB (U0 (RY rfl qi)<|o5 (b9 0) x6)<|U0 (QF rfl qi)<|o5 (b9 0) x6))<|λ_=>u3)
   (d8<|j2<|PF.pd<|pN (b9 1) rfl qi)))
 match ds,h with
 |[.lst xs],h=>
  simp only[iL]at h;split at h
  ·rename_i pts e1;rw[n9 e1];split at h
   ·rename_i hz;rw[<-h];obtain⟨h1,h2,h3⟩:=hz;have FO:=pE h1 h2 (by lia);obtain⟨hf,ah,hfl⟩:=aF h1 h2 (by lia);have rl:∀f∈k9 (c7 pts),(G.j8 (c7 pts) f).length<=3000:=λf hF=>by have nd:=((hf f).mp hF).aa2 (x2 pts);exact aAo (G.C9 nd.aa4 (m:=c7 pts) λv hv=>(G.d5.mp<|nd.aa3 hv).1) (by lia)
    have tot:∀gs hs,gs++hs=k9 (c7 pts)->(bX (c7 pts) gs).length<=sizeLine:=λgs hs e=>HZ h1 h2 h3 e;have fin:=GQ h1 h2 h3;simp-implicitDefEqProofs [j5,FO];generalize k9 (c7 pts)=fs at*
    generalize c7 pts=S at*
    refine cA (λrest ρ=>∃done gs a b,rest=gs.map (l7 S)/\ρ=[.v (.lst (pts.map vd)),.o ((bX S done).map bW),a,b]/\done++gs=fs) ?_ ⟨[],fs,_,_,rfl,rfl,rfl⟩ ?_
    ·rintro d ds ρ ⟨done,gs,a,b,e1,rfl,e2⟩;match gs,e1,e2 with
     |f::gs,e1,e2=>
      injection e1 with e3 e4;subst e3 e4;have hF:f∈fs:=by rw[<-e2];simp
      have po:=xH (rl f hF);have e5:(done++[f])++gs=fs:=by rw[<-e2];simp
      have er:bX S (done++[f])=bX S done++G.L9 (G.j8 S f):=by simp[bX]
      have t1:=tot (done++[f]) gs e5;rw[er,aAz]at t1;refine⟨[.v (.lst (pts.map vd)),.o ((bX S<|done++[f]).map bW),.v (pT f.1 f.2),.v (.lst ((G.j8 S f).map vd))],?_,done++[f],gs,_,_,rfl,rfl,e5⟩;have cl:(G.L9<|G.j8 S f).length<=sizeLine:=by lia
      have cm:∀fe:Ev->R D,(∀e:G.V×G.V,fe [.v (A6 e)]=.ok (bW e))->u5 (λd ρ=>R.ok (aCE ρ 0<|Sl.v d)) (λ_=>R.ok true) fe [.no] ((G.L9<|G.j8 S f).map A6)=.ok ((G.L9<|G.j8 S f).map bW):=λfe hfe=>F7 A6 bW _ λe _=>⟨_,rfl,hfe e⟩;simp[V2,l7,bV,G2,fD,po,cl,i7];rw[cm _ λe=>?_]
      ·simp[RB,er,t1]
      ·have m1:oN [A6 e]=_:=UF e.1 e.2;have m2:mZ [A6 e]=_:=UD e.1 e.2;simp[m1,m2,Y5,bW];decide
    ·rintro ρ ⟨done,gs,a,b,e1,rfl,e2⟩;have:gs=[]:=by simpa using e1.symm
     subst this;rw[aCg]at e2;subst e2;simp[fin]
   ·exact absurd h (by simp)
  ·exact absurd h (by simp)
def V1 (J8:x4 P w K mg base 9 "faces_of" 1 J6)(Z2:x4 P w K mg base 1 "side_of" 2 G0)(mh:mg "max"=none)(g:fA K mg "where_in" bT):x4 P w K mg base 10 "where_in" 2 W4:=by
 refine' n6 (k:=9) (F:=_) g yK (λhr hu eh nd=>?b) λds d hl h=>?_
 case b=>refine' (d8<|j2<|bP<|U0 (QK rfl)<|o5 (PD.pb<|N6 ["face"] ["P"] [1] rfl (J5 (sc:=c8 bT) (N:=oP)) (p7<|uY J8 hr<|d6 0) (IS λ_ _ _ _ _=>(aJ Z2 hr (f8 (b9 0) d4)<|d6 1))<|λ_=>u3) x6)
 match ds,h with
 |[.lst xs,p],h=>
  simp only[W4]at h;split at h
  ·rename_i pts P' e1 e2;rw[n9 e1,jY e2];split at h
   ·rename_i hz;rw[<-h];obtain⟨h1,h2,h3,hP⟩:=hz;have FO:=pE h1 h2 h3;obtain⟨hf,ah,hl⟩:=aF h1 h2 h3;have ig:(k9<|c7 pts).length<=sizeLine:=aAo hl (by decide);have cm:∀(ρ:Ev),ρ.length=2->W9 1 ρ=.ok (vd P')->u5 (λd ρ=>R.ok (aCE ρ 0<|Sl.v d)) (λx=>R.ok true) (λρ=>(((pI 0 ρ).bind λx=>M1 x (D.int 0)).bind λd=>((W9 1 ρ).bind λd=>R.ok [d]).bind λds=>R.ok (d::ds)).bind G0) ρ ((k9<|c7 pts).map (l7<|c7 pts))=.ok (((k9<|c7 pts).map λf=>sgn (G.d7 f.1 P'-f.2)).map D.int):=λρ hρ e1=>by
     rw[M3 (r:=λd=>match d with|.tup [p,_]=>(match G0 [p,vd P']with|.ok x=>x|_=>.non)|_=>.non)]
     ·congr 1;rw[aBk,aBk];refine aDE λf hF=>?_;simp only[aGf,rG h1 hP ((hf f).mp hF)]
     ·intro d hd;obtain⟨f,hF,rfl⟩:=aAi.mp hd;match ρ,hρ with
      |[a,b],_=>refine⟨_,rfl,?_⟩;have zu:W9 1 [.v (l7 (c7 pts) f),b]=.ok (vd P'):=e1;have i0:M1 (l7 (c7 pts) f) (.int 0)=.ok (pT f.1 f.2):=CB rfl;have sf:=rG h1 hP ((hf f).mp hF);simp[zu,i0,sf]
    simp[j5,FO,ig];rw[cm _ (by rfl) (by rfl)];have mx:DB [.lst (((k9<|c7 pts).map λf=>sgn (G.d7 f.1 P'-f.2)).map D.int)]=.ok (.int (kK<|(k9<|c7 pts).map λf=>sgn (G.d7 f.1 P'-f.2))):=by simp only[DB,wZ];exact if_pos (by simpa using ah)
    have wm:=IA hf ah P';generalize(k9<|c7 pts).map (λf=>sgn (G.d7 f.1 P'-f.2))=ns at*
    simp[mx,RF,wm]
   ·exact absurd h (by simp)
  ·exact absurd h (by simp)
end
end K24
namespace K24
open PySem L2 DL M
section
variable [Tabs]
variable{P:Program} {w:World} {K:PySem.W.Frag} {mg:cP} {base:Heap}
def B9 (gv:mg "len"=none)(g:fA K mg "_law_cell" cE):x4 P w K mg base 1 "_law_cell" 2 aL:=by
 refine' n6 (k:=0) (F:=_) g tZ (λhr hu eh nd=>?b) λds d hl h=>?_
 case b=>
  refine' (c6 (A2 (o7 JY (b9 1)<|PD.pb<|OX fM<|b9 0) (d8<|j2<|f8 (b9 0)<|d6 1) p8)
   (d8<|j2<|c5 o9 (PD.pb<|c5 o9 (PD.pb<|c5 k7 (PD.pb<|c5 k7 y7<|b9 1)<|b9 1)<|PD.pb<|c5 k7 y7<|b9 1) y7))
 match ds,h with
 |[.lst xs,.int k],h=>
  simp only[aL]at h;split at h
  ·rename_i hz;obtain⟨h0,h1⟩:=hz;rw[<-h];have hb:bits k<=20:=K3 (by lia) (by lia);have hb2:bits (6*k)<=30:=K3 (by lia) (by lia);by_cases hk:k<xs.length
   ·have e:xs[k.toNat]?=some xs[k.toNat]:=aAh (by lia);have e2:lP xs k=some xs[k.toNat]:=by rw[Y8 h0,e]
    simp[j5,hk,M0 e2,rJ,e]
   ·have e:xs[k.toNat]?=none:=aBI.mpr (by lia);simp[j5,hk,rJ,e,f7 (l8.of (show bits 6<=10 by decide) hb),f7 (l8.of hb2 hb),f7 (l8.of (show bits 5<=10 by decide) hb),M.vV]
  ·cases h
def fO (g:fA K mg "_law_way" fY):x4 P w K mg base 1 "_law_way" 2 n4:=by
 refine' n6 (k:=0) (F:=_) g xM (λhr hu eh nd=>?b) λds d hl h=>?_
 case b=>refine' (d8<|j2<|yV (c5 u0 (PD.pb<|f8 (b9 1) d4)<|PD.pb<|f8 (b9 0) d4) (c5 u0 (PD.pb<|f8 (b9 1) d4)<|PD.pb<|f8 (b9 0) d4)<|c5 u0 (PD.pb<|f8 (b9 1) d4)<|PD.pb<|f8 (b9 0) d4)
 replace h:=G1 h;obtain⟨a,b,c,ds,rfl,h⟩:=h;replace h:=G1 h;obtain⟨a',b',c',ds,rfl,h⟩:=h;replace h:=K5 h;obtain⟨rfl,h⟩:=h;exact h
def bA (g:fA K mg "_law_cross" aP):x4 P w K mg base 1 "_law_cross" 2 w5:=by
 refine' n6 (k:=0) (F:=_) g qG (λhr hu eh nd=>?b) λds d hl h=>?_
 case b=>refine' (d8<|j2<|yV (c5 u0 (PD.pb<|c5 k7 (PD.pb<|f8 (b9 0) d4)<|PD.pb<|f8 (b9 1) d4)<|PD.pb<|c5 k7 (PD.pb<|f8 (b9 0) d4)<|PD.pb<|f8 (b9 1) d4) (c5 u0 (PD.pb<|c5 k7 (PD.pb<|f8 (b9 0) d4)<|PD.pb<|f8 (b9 1) d4)<|PD.pb<|c5 k7 (PD.pb<|f8 (b9 0) d4)<|PD.pb<|f8 (b9 1) d4)<|c5 u0 (PD.pb<|c5 k7 (PD.pb<|f8 (b9 0) d4)<|PD.pb<|f8 (b9 1) d4)<|PD.pb<|c5 k7 (PD.pb<|f8 (b9 0) d4)<|PD.pb<|f8 (b9 1) d4)
 replace h:=G1 h;obtain⟨a,b,c,ds,rfl,h⟩:=h;replace h:=G1 h;obtain⟨a',b',c',ds,rfl,h⟩:=h;replace h:=K5 h;obtain⟨rfl,h⟩:=h;split at h
 ·rename_i hz;obtain⟨⟨h1,h2,h3⟩,h4,h5,h6⟩:=hz;rw[<-h];simp[j5,f7 (l8.of h2 h6),f7 (l8.of h3 h5),f7 (l8.of h3 h4),f7 (l8.of h1 h6),f7 (l8.of h1 h5),f7 (l8.of h2 h4)]
 ·cases h
def V3 (g:fA K mg "_law_product" U3):x4 P w K mg base 1 "_law_product" 2 m8:=by
 refine' n6 (k:=0) (F:=_) g lL (λhr hu eh nd=>?b) λds d hl h=>?_
 case b=>refine' (d8<|j2<|c5 o9 (PD.pb<|c5 o9 (PD.pb<|c5 k7 (PD.pb<|f8 (b9 0) d4)<|PD.pb<|f8 (b9 1) d4)<|PD.pb<|c5 k7 (PD.pb<|f8 (b9 0) d4)<|PD.pb<|f8 (b9 1) d4)<|PD.pb<|c5 k7 (PD.pb<|f8 (b9 0) d4)<|PD.pb<|f8 (b9 1) d4)
 replace h:=VC h;obtain⟨a,b,c,t,ds,rfl,h⟩:=h;replace h:=G1 h;obtain⟨a',b',c',ds,rfl,h⟩:=h;replace h:=K5 h;obtain⟨rfl,h⟩:=h;split at h
 ·rename_i hz;obtain⟨⟨h1,h2,h3⟩,h4,h5,h6⟩:=hz;rw[<-h];simp[j5,UQ,VN,UJ,f7 (l8.of h1 h4),f7 (l8.of h2 h5),f7 (l8.of h3 h6)]
 ·cases h
def aM (gi:mg "range"=none)(ju:mg "tuple"=none)(g:fA K mg "_law_point" bI):x4 P w K mg base 1 "_law_point" 2 Z4:=by
 refine' n6 (k:=0) (F:=_) g qA (λhr hu eh nd=>?b) λds d hl h=>?_
 case b=>
  refine' (c6 (A2 (o7 (iO hu) (b9 1) y7) (c6 (j3 2 (c5 o9 (PD.pb<|c5 k7 y7<|PD.pb<|c5 aW y7 y7) y7) nd)
   (d8<|j2<|yV (c5 u0 (PD.pb<|c5 v8 (b9 0)<|b9 2)<|PD.pb<|c5 aW y7 y7) (c5 u0 (PD.pb<|c5 v8 (PD.pb<|c5 v7 (b9 0)<|b9 2)<|b9 2)<|PD.pb<|c5 aW y7 y7)<|c5 u0 (PD.pb<|c5 v8 (PD.pb<|c5 v7 (b9 0)<|PD.pb<|c5 k7 (b9 2)<|b9 2)<|b9 2)<|PD.pb<|c5 aW y7 y7)) p8)
   (c6 (A2 (o7 (iO hu) (b9 1) y7) (c6 (j3 3 (c5 v8 (PD.pb<|c5 o9 (PD.pb<|c5 k7 (b9 0) y7) y7) y7) nd)
   (c6 (dR 4 (jE q8) nd)
   (c6 (J0 aBi rfl (kH<|o5 y7 x6) (l5 5 nd) (c6 (j3 3 (c5 v8 (PD.pb<|c5 o9 (PD.pb<|c5 o9 (PD.pb<|c5 k7 (b9 3)<|b9 3)<|PD.pb<|c5 k7 y7<|b9 5) y7) y7) nd)
   (d8<|aQ 4<|c5 u0 (PD.pb<|c5 v8 (b9 3) y7)<|PD.pb<|c5 aW y7 y7)))
   (d8<|j2<|J9 vO<|o5 (b9 4) x6)))) p8)
   (c6 (j3 2 (f8 (PD.pb<|jQ<|f9 d4<|f9 d4<|f9 d4 q8)<|d6 1) nd)
   (d8<|j2<|yV (c5 u0 (PD.pb<|c5 v8 (b9 0)<|b9 2)<|PD.pb<|c5 v7 (b9 2) y7) (c5 u0 (PD.pb<|c5 v8 (PD.pb<|c5 v7 (b9 0)<|b9 2)<|b9 2)<|PD.pb<|c5 v7 (b9 2) y7)<|c5 u0 (PD.pb<|c5 v8 (PD.pb<|c5 v7 (b9 0)<|PD.pb<|c5 k7 (b9 2)<|b9 2)<|b9 2)<|PD.pb<|c5 v7 (b9 2) y7))))
 match ds,h with
 |[.int t,.int way],h=>
  simp only[Z4]at h;split at h
  ·rename_i hc;rw[<-h];obtain⟨hc,h0,h4⟩:=hc;have p9:yN (.int 10) (.int 9)=.ok (.int 1000000000):=(gT ⟨by decide,by decide,by decide⟩).trans (by rfl);have mw:∀{x w:Int},0<w->S9 (.int x) (.int w)=.ok (.int (x.fmod w)):=λhw=>Z1 hw;have wd:∀{w:Int},0<w->bits w<=80->Q0 (.int w) (.int w)=.ok (.int (w*w))/\O8 (.int t) (.int w)=.ok (.int (t.fdiv w))/\O8 (.int t) (.int (w*w))=.ok (.int (t.fdiv<|w*w))/\O8 (.int w) (.int 2)=.ok (.int (w.fdiv 2)):=λ{w} w0 wb=>by have ww:0<w*w:=aBe w0 w0;exact⟨f7 (l8.of wb wb),aI ⟨by lia,y3 wb⟩,aI ⟨by lia,y3 (bits_mul wb wb)⟩,rQ (by decide) (by decide)⟩
   rcases(show way=4\/way=3\/way=0\/way=1\/way=2 by lia)with rfl|rfl|rfl|rfl|rfl
   ·have m0:Q0 (.int t) (.int 40009)=.ok (.int (t*40009)):=f7 (l8.of hc (show bits 40009<=80 by decide));have r1:∀x:Int,bits (x.fmod 2147483647)<=80:=λx=>bits_fmod (by decide) (by decide);have b0:Q0 (.int (VF t)) (.int (VF t))=.ok (.int (VF t*VF t)):=f7 (l8.of (r1 _)<|r1 _);have b1:∀s k:Int,Q0 (.int (mB s k)) (.int (mB s k))=.ok (.int (mB s k*mB s k)):=λs k=>f7 (l8.of (r1 _)<|r1 _);have f0:(t*40009+6007).fmod 2147483647=VF t:=rfl;have f1:∀s:Int,(s*s+11).fmod 2147483647=mB s 0:=λs=>by unfold mB;simp
    have f2:∀s:Int,(s*s+5003+11).fmod 2147483647=mB s 1:=λs=>by unfold mB;simp
    have f3:∀s:Int,(s*s+10006+11).fmod 2147483647=mB s 2:=λs=>by unfold mB;simp
    have mp:∀x:Int,S9 (.int x) (.int 2147483647)=.ok (.int (x.fmod 2147483647)):=λx=>mw (by decide);have mq:∀x:Int,S9 (.int x) (.int 2000000011)=.ok (.int (x.fmod 2000000011)):=λx=>mw (by decide);have k0:Q0 (.int 5003) (.int 0)=.ok (.int 0):=(f7 (l8.of (show bits 5003<=80 by decide) (show bits 0<=80 by decide))).trans (by rfl);have k1:Q0 (.int 5003) (.int 1)=.ok (.int 5003):=(f7 (l8.of (show bits 5003<=80 by decide) (show bits 1<=80 by decide))).trans (by rfl);have k2:Q0 (.int 5003) (.int 2)=.ok (.int 10006):=(f7 (l8.of (show bits 5003<=80 by decide) (show bits 2<=80 by decide))).trans (by rfl);simp[j5,p9,m0,mp,mq,f0,f1,f2,f3,b0,b1,k0,k1,k2,P1,yQ,OS,UN,aq,vd,IX,Y5,sizeLine,sH]
   ·have k0:Q0 (.int 2) (.int 1000000000)=.ok (.int 2000000000):=(f7 (l8.of (show bits 2<=80 by decide) (show bits 1000000000<=80 by decide))).trans (by rfl);obtain⟨e1,e2,e3,e4⟩:=wd (w:=2000000001) (by decide) (by decide);have mp:∀x:Int,S9 (.int x) (.int 2000000001)=.ok (.int (x.fmod 2000000001)):=λx=>mw (by decide);simp only[aFm]at e1 e3;simp[j5,p9,k0,e1,e2,e3,mp,OS,fF,dw,vd,Y5,sizeLine]
   ·obtain⟨e1,e2,e3,e4⟩:=wd (w:=3) (by decide) (by decide);have mp:∀x:Int,S9 (.int x) (.int 3)=.ok (.int (x.fmod 3)):=λx=>mw (by decide);simp only[aFm]at e1 e3;simp[j5,e1,e2,e3,e4,mp,OS,fF,dw,vd,Y5,sizeLine,M1,lP,yW]
   ·obtain⟨e1,e2,e3,e4⟩:=wd (w:=5) (by decide) (by decide);have mp:∀x:Int,S9 (.int x) (.int 5)=.ok (.int (x.fmod 5)):=λx=>mw (by decide);simp only[aFm]at e1 e3;simp[j5,e1,e2,e3,e4,mp,OS,fF,dw,vd,Y5,sizeLine,M1,lP,yW]
   ·obtain⟨e1,e2,e3,e4⟩:=wd (w:=9) (by decide) (by decide);have mp:∀x:Int,S9 (.int x) (.int 9)=.ok (.int (x.fmod 9)):=λx=>mw (by decide);simp only[aFm]at e1 e3;simp[j5,e1,e2,e3,e4,mp,OS,fF,dw,vd,Y5,sizeLine,M1,lP,yW]
  ·exact absurd h (by simp)
def Y7 (B9:x4 P w K mg base 1 "_law_cell" 2 aL)(aM:x4 P w K mg base 1 "_law_point" 2 Z4)(gi:mg "range"=none)(jd:mg "enumerate"=none)(g:fA K mg "_law_points" G7):x4 P w K mg base 2 "_law_points" 2 dW:=by
 refine' n6 (k:=1) (F:=_) g oK (λhr hu eh nd=>?b) λds d hl h=>?_
 case b=>
  refine' (c6 (j3 2 (c5 o9 y7<|PD.pb<|c5 v8 (PD.pb<|aJ B9 hr (d6 0) d4)<|PD.pb<|c5 u0 (b9 1) y7) nd)
   (c6 (FH 3 ["k"] [] [] nd rfl (J5 (sc:=c8 G7) (N:=X7)) (kH<|o5 (b9 2) x6) (IS λ_ _ _ _ _=>(c5 o9 (PD.pb<|c5 k7 (PD.pb<|c5 k7 y7<|b9 0)<|b9 0)<|PD.pb<|c5 k7 y7<|b9 0))<|λ_=>u3)
   (c6 (J0 aBi rfl (NB<|rE (b9 0) (U4 d4)<|U4 d4) (aX (n:=2) rfl<|p5 (l5 4 nd)<|p5 (l5 5 nd) U8)<|d8<|GA 3 (c5 o9 (PD.pb<|f8 (b9 3)<|c5 v8 (b9 4)<|b9 2)<|b9 5)<|c5 v8 (b9 4)<|b9 2)
   (d8<|DT 3<|j2<|N6 ["total"] ["script"] [0] rfl (J5 (sc:=c8 G7) (N:=X7)) (p7<|d6 3) (IS λ_ _ _ _ _=>(aJ aM hr (d6 0)<|c5 v8 (PD.pb<|aJ B9 hr (d6 1) d4) y7))<|λ_=>u3))))
 match ds,h with
 |[.lst xs,.int most],h=>
  simp only[dW]at h;split at h
  ·rename_i hc;rw[<-h];obtain⟨hi,hl,h0,h1⟩:=hc;obtain⟨c0,b0⟩:=wU hi 0 (by decide) (by decide);obtain⟨c1,b1⟩:=wU hi 1 (by decide) (by decide);have mr:=fN xs h0;have md:S9 (.int (cJ xs 0)) (.int (most-3))=.ok (.int ((cJ xs 0).fmod (most-3))):=Z1 (by lia);have rg:gC [.int (4+(cJ xs 0).fmod (most-3))]=.ok ((aBy<|v9 xs most).map λ(k:Nat)=>D.int (k:Int)):=by rw[<-mr.2.2];exact rq (by lia)
   have t0:=EU (v9 xs most) (by lia);have cm:u5 (λd ρ=>R.ok (aCE ρ 0<|Sl.v d)) (λx=>R.ok true) (λρ=>(((pI 0 ρ).bind λy=>Q0 (D.int 5) y).bind λx=>(pI 0 ρ).bind λy=>Q0 x y).bind λx=>((pI 0 ρ).bind λy=>Q0 (D.int 3) y).bind λy=>lV x y) [.no] ((aBy<|v9 xs most).map λ(k:Nat)=>D.int (k:Int))=.ok ((vN<|v9 xs most).map D.int):=by
    unfold vN;rw[aBk];refine F7 (λ(k:Nat)=>D.int (k:Int)) _ _ λk hk=>⟨[.v (.int k)],rfl,?_⟩;have kr:k<v9 xs most:=by simpa using hk
    have kb:bits (k:Int)<=80:=K3 (by lia) (by lia);have m1:Q0 (.int 5) (.int k)=.ok (.int (5*k)):=f7 (l8.of (show bits 5<=80 by decide) kb);have m2:Q0 (.int (5*(k:Int))) (.int k)=.ok (.int (5*k*k)):=f7 (l8.of (bits_mul (show bits 5<=80 by decide) kb) kb);have m3:Q0 (.int 3) (.int k)=.ok (.int (3*k)):=f7 (l8.of (show bits 3<=80 by decide) kb);simp[m1,m2,m3]
   have en:OI [.lst ((xs.take 63).drop 2)]=.ok (rL 0<|(xs.take 63).drop 2):=by rw[<-RH];rfl
   have l1:v9 xs most<=sizeLine:=aAo (show v9 xs most<=20 by lia) (by decide);have hlc:((xs.take 63).drop 2).length<=61:=by simp;lia
   have hic:T9 1048576 ((xs.take 63).drop 2):=λx hx=>hi x (aEm<|aDu hx);have TK:=KA hi h0 h1;have q5:=V0 (a:=cJ xs 1) (b:=5) (by decide);have m5:S9 (.int (cJ xs 1)) (.int 5)=.ok (.int ((cJ xs 1).fmod 5)):=Z1 (by decide);have cf:u5 (λd ρ=>R.ok (aCE ρ 0<|Sl.v d)) (λx=>R.ok true) (λρ=>((W9 0 ρ).bind λd=>(((((W9 1 ρ).bind λd=>R.ok [d,D.int 1]).bind aL).bind λx=>S9 x (D.int 5)).bind λd=>R.ok [d]).bind λds=>R.ok (d::ds)).bind Z4) [.no,.v (.lst xs)] ((wJ xs most).map D.int)=.ok ((lT xs most).map vd):=by unfold lT;rw[aBk];refine F7 D.int _ _ λt ht=>⟨[.v (.int t),Sl.v (.lst xs)],rfl,?_⟩;have:=HC (t:=t) (way:=(cJ xs 1).fmod 5) (j1 (TK.2 t ht) (by decide)) q5.1 (by lia);simp[c1,m5,this]
   have l2:((wJ xs most).map D.int).length<=sizeLine:=by rw[aAl,TK.1];exact aAo (show v9 xs most<=20 by lia) (by decide)
   have mpos:0<v9 xs most:=by lia
   simp only[<-mr.2.2]at rg md⊢;simp-implicitDefEqProofs [j5,c0,md,rg,cm,l1,i7,WP,en,<-mr.2.2];refine cA (λds ρ=>∃(k:Nat) (ys:List D) (ts:List Int) (a b:Sl),ds=rL k ys/\ρ=[.v (.lst xs),.v (.int most),.v (.int (v9 xs most:Int)),.o (ts.map D.int),a,b]/\xJ (v9 xs most) k ys ts=wJ xs most/\ts.length=v9 xs most/\T9 1048576 ys) ?_ ⟨0,(xs.take 63).drop 2,vN (v9 xs most),_,_,rfl,rfl,rfl,t0.1,hic⟩ ?_
   ·rintro d ds ρ ⟨k,ys,ts,a,b,e1,rfl,e3,e4,e5⟩;match ys,e1,e3,e5 with
    |y::ys,e1,e3,e5=>
     obtain⟨i,rfl,hb⟩:=e5 _ (.head _);injection e1 with e1 e2;subst e1 e2;have hk:k%v9 xs most<ts.length:=by rw[e4];exact aDT _ mpos
     have mk:S9 (.int (k:Int)) (.int (v9 xs most:Int))=.ok (.int ((k%v9 xs most:Nat):Int)):=(Z1 (by lia)).trans (by rw[aEG _ (by lia)];rfl);have ix:M1 (.lst (ts.map D.int)) (.int ((k%v9 xs most:Nat):Int))=.ok (.int (ts.getD (k%v9 xs most) 0)):=M0 (by rw[Y8 (by lia),aCd,aAG,aAn,aAh hk];rfl)
     have ixn:yW (ts.map D.int).length ((k%v9 xs most:Nat):Int)=some (k%v9 xs most):=by unfold yW;rw[if_pos (by lia),if_pos (by rw[aAl];lia),aCd]
     refine⟨[.v (.lst xs),.v (.int most),.v (.int (v9 xs most:Int)),.o ((ts.set (k%v9 xs most)<|ts.getD (k%v9 xs most) 0+i).map D.int),.v (.int (k:Int)),.v (.int i)],?_,k+1,ys,_,_,_,rfl,rfl,e3,by simpa using e4,λx hx=>e5 x (.tail _ hx)⟩;clear e3;rw[aAl]at ixn;generalize k%v9 xs most=j at*
     generalize ts.getD j 0=tj at*
     simp[V2,bV,G2,fD,mk,ix,XE,ixn]
   ·rintro ρ ⟨k,ys,ts,a,b,e1,rfl,e3,e4,e5⟩;match ys,e1,e3 with
    |[],_,e3=>
     have e3:ts=wJ xs most:=e3;subst e3;have l3:(wJ xs most).length<=sizeLine:=by rw[aAl]at l2;exact l2
     simp[UE,S1,l3,cf]
  ·exact absurd h (by simp)
def bG (fO:x4 P w K mg base 1 "_law_way" 2 n4)(bA:x4 P w K mg base 1 "_law_cross" 2 w5)(V3:x4 P w K mg base 1 "_law_product" 2 m8)(g:fA K mg "_law_solid" L6):x4 P w K mg base 2 "_law_solid" 1 cC:=by
 refine' n6 (k:=1) (F:=_) g qE (λhr hu eh nd=>?b) λds d hl h=>?_
 case b=>
  refine' (c6 (iB 1 ["one"] ["points"] [0] nd rfl (J5 (sc:=c8 L6) (N:=bF)) (p7<|d6 0) (IS λ_ _ _ _ _=>(aJ fO hr (f8 (b9 1) d4)<|d6 0))<|λ_=>u3)
   (c6 (J0 aBi rfl (p7<|d6 1) (l5 2 nd) (d8 (J0 aBi rfl (p7<|d6 1) (l5 3 nd) (c6 (j3 4 (aJ bA hr (d6 2)<|d6 3) nd)
   (d8<|A2 (JX.pt<|CA (o7 (gS hu) (b9 4)<|PD.pb<|yV d4 d4 d4)<|vI<|o7 (gS hu) (PD.pb<|N6 ["w"] ["crossed"] [4] rfl (J5 (sc:=c8 L6) (N:=bF)) (p7<|d6 1) (hxt λ_ _ _ _ _=>⟨(o7 (gS hu) (PD.pb<|aJ V3 hr (d6 1)<|d6 0) y7),(d6 0)⟩)<|λ_=>u3)<|PD.pb<|jQ q8) (d8<|j2<|d6 0) p8)))))
   (c6 (uB (f8 (b9 0) d4)<|aX (n:=3) rfl<|p5 (l5 5 nd)<|p5 (l5 6 nd)<|p5 (l5 7 nd) U8)
   (d8<|j2<|c5 o9 (b9 0)<|PD.pb<|jQ<|f9 (yV (c5 o9 (b9 5) y7) (d6 6)<|d6 7)<|f9 (yV (d6 5) (c5 o9 (b9 6) y7)<|d6 7)<|f9 (yV (d6 5) (d6 6)<|c5 o9 (b9 7) y7) q8))))
 match ds,h with
 |[.lst xs],h=>
  simp only[cC]at h;split at h
  ·rename_i pts e1;rw[n9 e1];split at h
   ·rename_i hz;rw[<-h];obtain⟨ah,hs,hl⟩:=hz;match pts,ah with
    |P::ps,_=>
    have yes:=SG (P:=P) (ps:=ps);have no:=ZG (P:=P) (ps:=ps);obtain⟨pts,hpts⟩:∃q,P::ps=q:=⟨_,rfl⟩;have i0:M1 (.lst (pts.map vd)) (.int 0)=.ok (vd P):=M0 (by rw[Y8 (by decide),<-hpts];rfl);rw[hpts]at yes no hs hl⊢;have c1:u5 (λd ρ=>R.ok (aCE ρ 0<|Sl.v d)) (λx=>R.ok true) (λρ=>(((pI 1 ρ).bind λx=>M1 x (D.int 0)).bind λd=>((W9 0 ρ).bind λd=>R.ok [d]).bind λds=>R.ok (d::ds)).bind n4) [.no,.v (.lst (pts.map vd))] (pts.map vd)=.ok ((pts.map (· -P)).map vd):=by rw[aBk];refine F7 vd _ _ λq hq=>⟨[.v (vd q),Sl.v (.lst (pts.map vd))],rfl,?_⟩;show((M1 (.lst (pts.map vd))<|.int 0).bind _).bind _=_;rw[i0];rfl
    have hw:∀w∈pts.map (· -P),Sz 301 w:=λw hw=>by obtain⟨q,hq,rfl⟩:=aAi.mp hw;exact(hs q hq).sub (hs P (by rw[<-hpts];exact .head _))
    have bf:pts.length<=sizeLine:=aAo hl (by decide);have qe:(pts.map (· -P)).length<=sizeLine:=by rw[aAl];exact bf
    generalize pts.map (· -P)=W at*
    have c2:∀u∈W,∀v∈W,u5 (λd ρ=>R.ok (aCE ρ 0<|Sl.v d)) (λρ=>((((W9 1 ρ).bind λd=>((W9 0 ρ).bind λd=>R.ok [d]).bind λds=>R.ok (d::ds)).bind m8).bind λx=>FJ x (D.int 0)).bind EA) (W9 0) [.no,.v (vd<|G.cr u v)] (W.map vd)=.ok ((W.filter λw=>decide (G.d7 (G.cr u v) w≠0)).map vd):=λu hu v hv=>by refine M3 vd _ _ _ λw hW=>⟨[.v (vd w),Sl.v (vd<|G.cr u v)],rfl,?_,λ_=>rfl⟩;show((m8 [vd (G.cr u v),vd w]).bind _).bind _=_;rw[iE ((hw u hu).cr (hw v hv)).mono (hw w hW).mono,R.aa0,JT];show R.ok _=_;congr 1;rw[aDo];simp
    simp[j5,i7,bf,c1,S1];refine RG (x:=.lst (pts.map vd)) vd (XQ W) (λρ=>∃a b c,ρ=[.v (.lst (pts.map vd)),.v (.lst (W.map vd)),a,b,c,.no,.no,.no]) ⟨_,_,_,rfl⟩ ?_ ?_ ?_
    ·rintro u hu ρ ⟨a,b,c,rfl⟩;simp[S1];refine mO vd (XS W u) (λρ=>∃b c,ρ=[.v (.lst (pts.map vd)),.v (.lst (W.map vd)),.v (vd u),b,c,.no,.no,.no]) ?_ W _ ⟨_,_,rfl⟩ ?_
     ·rintro ρ ⟨b,c,rfl⟩;exact⟨_,_,_,rfl⟩
     ·rintro v hv ρ ⟨b,c,rfl⟩;have cc:=cO (hw u hu).mono (hw v hv).mono;have c3:=c2 u hu v hv;have c4:((W.filter λw=>decide (G.d7 (G.cr u v) w≠0)).map vd)=((W.filter λw=>decide (G.d7 (G.cr u v) w≠0)).map vd):=rfl;have ex:(!(W.filter λw=>decide (G.d7 (G.cr u v) w≠0)).isEmpty)=true↔∃w∈W,G.d7 (G.cr u v) w≠0:=by rw[Bool.not_eq_true',<-Bool.not_eq_true,List.isEmpty_iff,List.filter_eq_nil_iff];simp
      have nn:=SR (W.filter λw=>decide (G.d7 (G.cr u v) w≠0));unfold XS;rw[<-ex];clear ex c4;generalize(W.filter λw=>decide (G.d7 (G.cr u v) w≠0))=L at*
      generalize G.cr u v=X at*
      have n0:=xj X;by_cases hX:X=0
      ·refine .inr ⟨λz=>z.1 hX,[.v (.lst (pts.map vd)),.v (.lst (W.map vd)),.v (vd u),.v (vd v),.v (vd X),.no,.no,.no],?_,_,_,rfl⟩;simp only[hX,decide_true,aCW]at n0;simp[-kI,cc,hX,n0,EA]
      ·simp only[hX,decide_false,Bool.not_false]at n0;cases hL:L.isEmpty with
       |true=>rw[hL]at nn;refine .inr ⟨λz=>by simp at z,[.v (.lst (pts.map vd)),.v (.lst (W.map vd)),.v (vd u),.v (vd v),.v (vd X),.no,.no,.no],?_,_,_,rfl⟩;simp[-kI,cc,n0,EA,S1,qe,c3,nn,seen]
       |false=>rw[hL]at nn;refine .inl ⟨⟨hX,rfl⟩,?_⟩;simp[-kI,cc,n0,EA,S1,qe,c3,nn,seen]
    ·intro q;rw[yes q]
    ·rintro q ρ ⟨a,b,c,rfl⟩;rw[no q];have al:(pts.map vd).length+3<=sizeLine:=by rw[aAl];exact aAo (Nat.add_le_add_right hl 3) (by decide)
     rw[aAl]at al;have s3:3<=sizeLine:=by decide
     simp[i0,GR,bV,G2,fD,Y5,sH,lV,s3,al]
   ·exact absurd h (by simp)
  ·exact absurd h (by simp)
def X4 (g:fA K mg "_law_slants" N3):x4 P w K mg base 1 "_law_slants" 1 Z0:=by
 refine' n6 (k:=0) (F:=_) g nR (λhr hu eh nd=>?b) λds d hl h=>?_
 case b=>
  refine' (c6 (j3 1 (jQ<|f9 (c5 u0 (PD.pb<|c5 v8 (PD.pb<|c5 v7 (b9 0) y7) y7) y7)<|f9 (c5 u0 (PD.pb<|c5 v8 (PD.pb<|c5 v7 (b9 0) y7) y7) y7)<|f9 (c5 u0 (PD.pb<|c5 v8 (PD.pb<|c5 v7 (b9 0) y7) y7) y7) q8) nd)
   (c6 (A2 (o7 (iO hu) (PD.pb<|c5 v8 (b9 0) y7) y7) (d8<|iB 1 ["number"] [] [] nd rfl (J5 (sc:=c8 N3) (N:=eZ)) (p7<|d6 1) (IS λ_ _ _ _ _=>(c5 k7 (b9 0) y7))<|λ_=>u3) p8)
   (c6 (j3 2 (c5 u0 (PD.pb<|c5 v8 (PD.pb<|c5 k7 (PD.pb<|c5 v7 (b9 0) y7) y7)<|PD.pb<|c5 o9 (PD.pb<|c5 k7 y7<|PD.pb<|c5 aW y7 y7) y7)<|PD.pb<|c5 aW y7 y7) nd)
   (d8<|j2<|c5 o9 (b9 1)<|PD.pb<|jQ<|f9 (d6 2)<|f9 (c5 u0 y7<|PD.pb<|c5 v7 (b9 2) y7)<|f9 (c5 v8 (PD.pb<|c5 v7 (b9 0) y7) y7)<|f9 (c5 v8 (PD.pb<|c5 v7 (b9 0) y7) y7) q8))))
 match ds,h with
 |[.int t],h=>
  simp only[Z0]at h;split at h
  ·rename_i hc;rw[<-h];have p20:yN (.int 10) (.int 20)=.ok (.int 100000000000000000000):=(gT ⟨by decide,by decide,by decide⟩).trans (by rfl);have k20:Q0 (.int 2) (.int 100000000000000000000)=.ok (.int 200000000000000000000):=(f7 (l8.of (show bits 2<=80 by decide) (show bits 100000000000000000000<=80 by decide))).trans (by rfl);have mw:∀{x w:Int},0<w->S9 (.int x) (.int w)=.ok (.int (x.fmod w)):=λhw=>Z1 hw;have dv:∀{x w:Int},0<w->bits w<=80->O8 (.int x) (.int w)=.ok (.int (x.fdiv w)):=λw0 wb=>aI ⟨by lia,y3 wb⟩;have d3:O8 (.int t) (.int 3)=.ok (.int (t.fdiv 3)):=dv (by decide) (by decide);have d21:O8 (.int t) (.int 21)=.ok (.int (t.fdiv 21)):=dv (by decide) (by decide);have d147:O8 (.int t) (.int 147)=.ok (.int (t.fdiv 147)):=dv (by decide) (by decide);have d9:O8 (.int t) (.int 9)=.ok (.int (t.fdiv 9)):=dv (by decide) (by decide);have dn:O8 (.int t) (.int 1029)=.ok (.int (t.fdiv 1029)):=dv (by decide) (by decide);have df:O8 (.int (vE t)) (.int 7)=.ok (.int ((vE t).fdiv 7)):=dv (by decide) (by decide);have bn:bits (t.fdiv 1029)<=3000000:=bits_fdiv hc;have mb:Q0 (.int (t.fdiv 1029)) (.int 271828182845904523536)=.ok (.int (t.fdiv 1029*271828182845904523536)):=f7 (l8.of bn (show bits 271828182845904523536<=80 by decide));have m7:∀x:Int,S9 (.int x) (.int 7)=.ok (.int (x.fmod 7)):=λx=>mw (by decide);have m3:∀x:Int,S9 (.int x) (.int 3)=.ok (.int (x.fmod 3)):=λx=>mw (by decide);have m50:∀x:Int,S9 (.int x) (.int 50)=.ok (.int (x.fmod 50)):=λx=>mw (by decide);have m2:∀x:Int,S9 (.int x) (.int 2)=.ok (.int (x.fmod 2)):=λx=>mw (by decide);have mf:∀x:Int,S9 (.int x) (.int 200000000000000000001)=.ok (.int (x.fmod 200000000000000000001)):=λx=>mw (by decide);have ef:(t.fdiv 1029*271828182845904523536).fmod 200000000000000000001-100000000000000000000=vE t:=rfl;have es:∀k:Int,(t.fdiv k).fmod 7-3=s7 t k:=λk=>rfl;have sm:∀k:Int,Q0 (.int (s7 t k)) (.int 7654321)=.ok (.int (s7 t k*7654321)):=λk=>by exact f7 (l8.of (bits_sub (n:=80) (bits_fmod (by decide) (by decide)) (by decide)) (show bits 7654321<=80 by decide))
   by_cases h2:t.fmod 3=2
   ·simp[j5,p20,k20,d3,d21,d147,d9,dn,df,mb,m7,m3,m50,m2,mf,ef,es,sm,h2,YV,lH,sizeLine,sH,lV,i7]
   ·simp[j5,p20,k20,d3,d21,d147,d9,dn,df,mb,m7,m3,m50,m2,mf,ef,es,sm,h2,YV,lH,sizeLine,sH,lV,i7]
  ·exact absurd h (by simp)
def D9 (g:fA K mg "_law_slanted" V4):x4 P w K mg base 1 "_law_slanted" 2 J7:=by
 refine' n6 (k:=0) (F:=_) g lU (λhr hu eh nd=>?b) λds d hl h=>?_
 case b=>
  refine' (c6 (uB (d6 0)<|aX (n:=3) rfl<|p5 (l5 2 nd)<|p5 (l5 3 nd)<|p5 (l5 4 nd) U8)
   (c6 (j3 2 (c5 o9 (b9 2)<|PD.pb<|c5 k7 (PD.pb<|f8 (b9 1) d4)<|b9 3) nd)
   (c6 (j3 3 (c5 o9 (b9 3)<|PD.pb<|c5 k7 (PD.pb<|f8 (b9 1) d4)<|b9 4) nd)
   (c6 (j3 4 (c5 o9 (b9 4)<|PD.pb<|c5 k7 (PD.pb<|f8 (b9 1) d4)<|b9 2) nd)
   (c6 (A2 (o7 (iO hu) (PD.pb<|f8 (b9 1) d4) y7) (d8<|NW 2 3 rfl nd<|f9 (d6 3)<|f9 (d6 2) q8) p8)
   (d8<|j2<|yV (c5 o9 (b9 2)<|PD.pb<|f8 (b9 1) d4) (c5 o9 (b9 3)<|PD.pb<|f8 (b9 1) d4)<|c5 o9 (b9 4)<|PD.pb<|f8 (b9 1) d4))))))
 match ds,h with
 |[p,.lst xs],h=>
  simp only[J7]at h;split at h
  ·rename_i P l e1 e2;rw[jY e1,oI e2];split at h
   ·rename_i hz;rw[<-h];obtain⟨⟨hl7,hb⟩,hP⟩:=hz;match l,hl7,hb with
    |[a,b,c,f,g',e,s],_,hb=>
     obtain⟨x,y,z⟩:=P;obtain⟨hx,hy,hz⟩:=hP;have ha:bits a<=100:=hb a (by simp);have ja:bits b<=100:=hb b (by simp);have hc:bits c<=100:=hb c (by simp);have m1:Q0 (.int a) (.int y)=.ok (.int (a*y)):=f7 (l8.of ha hy);have m2:Q0 (.int b) (.int z)=.ok (.int (b*z)):=f7 (l8.of ja hz);have m3:Q0 (.int c) (.int (x+a*y))=.ok (.int (c*(x+a*y))):=f7 (l8.of hc<|bits_add (y3 (n:=600) hx)<|bits_mul ha hy);have i0:M1 (.lst [.int a,.int b,.int c,.int f,.int g',.int e,.int s]) (.int 0)=.ok (.int a):=M0 rfl;have i1:M1 (.lst [.int a,.int b,.int c,.int f,.int g',.int e,.int s]) (.int 1)=.ok (.int b):=M0 rfl;have i2:M1 (.lst [.int a,.int b,.int c,.int f,.int g',.int e,.int s]) (.int 2)=.ok (.int c):=M0 rfl;have i3:M1 (.lst [.int a,.int b,.int c,.int f,.int g',.int e,.int s]) (.int 3)=.ok (.int f):=M0 rfl;have i4:M1 (.lst [.int a,.int b,.int c,.int f,.int g',.int e,.int s]) (.int 4)=.ok (.int g'):=M0 rfl;have i5:M1 (.lst [.int a,.int b,.int c,.int f,.int g',.int e,.int s]) (.int 5)=.ok (.int e):=M0 rfl;have i6:M1 (.lst [.int a,.int b,.int c,.int f,.int g',.int e,.int s]) (.int 6)=.ok (.int s):=M0 rfl;by_cases hs:s=1
     ·subst hs;simp[j5,vd,lH,m1,m2,m3,i0,i1,i2,i3,i4,i5,i6,Y1,G.Sl.put,Y5,sizeLine,GR,bV,G2,fD]
     ·simp[j5,vd,lH,m1,m2,m3,i0,i1,i2,i3,i4,i5,i6,Y1,G.Sl.put,Y5,sizeLine,GR,bV,G2,fD,hs]
   ·exact absurd h (by simp)
  ·exact absurd h (by simp)
section
seal PySem.eval
def o_law {f:Addr}{fd:FuncData}(bG:x4 P w K mg base 2 "_law_solid" 1 cC)(Y7:x4 P w K mg base 2 "_law_points" 2 dW)(X4:x4 P w K mg base 1 "_law_slants" 1 Z0)(B9:x4 P w K mg base 1 "_law_cell" 2 aL)(kJ:x4 P w K mg base 10 "body_of" 1 Z8)(D9:x4 P w K mg base 1 "_law_slanted" 2 J7)(aR:x4 P w K mg base 10 "edges_of" 1 iL)(V1:x4 P w K mg base 10 "where_in" 2 W4)(jb:mg "list"=none)(ba:mg "sorted"=none)(ju:mg "tuple"=none)(gi:mg "range"=none)(mh:mg "max"=none)(gv:mg "len"=none)(F0:Fun K "law" "law" bU f fd):FnOk P w K mg base tR 11 f fd ["script"] (ZK K 1 iF):=by
 refine' fnD (k:=10) (F:=_) F0 OJ (λcdv A outer s H E hr=>?b) λds d hl h=>?_
 case b=>
  have hu:=hr.units;have eh:=hr.ae3;have qi:=hr.ad5 (by decide);have nd:=OJ.nd;refine' (c6 (j3 1 (uY bG hr<|aJ Y7 hr (d6 0) d4) nd)
   (c6 (j3 2 (uY X4 hr<|c5 v7 (PD.pb<|aJ B9 hr (d6 0) d4) y7) nd)
   (c6 (j3 3 (uY kJ hr<|J9 dH<|o5 (b9 1) x6) nd)
   (c6 (j3 4 (PF.pd<|fL (PD.pb<|N6 ["point"] ["slants"] [2] rfl (J5 (sc:=c8 bU) (N:=CH)) (p7<|d6 3) (IS λ_ _ _ _ _=>(aJ D9 hr (d6 0)<|d6 1))<|λ_=>u3) rfl qi) nd)
   (c6 (iB 5 ["pair"] ["slants"] [2] nd rfl (J5 (sc:=c8 bU) (N:=CH)) (p7<|uY aR hr<|J9 dH<|o5 (b9 3) x6) (IS λ_ _ _ _ _=>(J9 vO<|o5 (PD.pb<|PF.pd<|fL (PD.pb<|N6 ["one"] ["slants"] [1] rfl PN (EC<|d6 0) (IS λ_ _ _ _ _=>(aJ D9 hr (d6 0)<|d6 1))<|λ_=>u3) rfl qi) x6))<|λ_=>u3)
   (c6 (A2 (o7 (gS hu) (PD.pb<|uY aR hr<|J9 dH<|o5 (b9 4) x6)<|PD.pb<|PF.pd<|BQ (b9 5) rfl qi) (d8<|j2 wK) p8)
   (c6 (j3 6 (f8 (PD.pb<|jQ<|f9 (bP d4)<|f9 (bP d4)<|f9 (bP d4)<|f9 d4<|f9 (c5 aW y7 y7)<|f9 d4<|f9 (c5 aW y7 y7) q8)<|c5 v8 (PD.pb<|aJ B9 hr (d6 0) d4) y7) nd)
   (c6 (j3 7 (PF.pd (fL (PD.pb (N6 ["x", "y", "z"] ["times"] [6] rfl (J5 (sc:=c8 bU) (N:=CH)) (p7<|d6 3) (by rintro pins fp X2 ⟨s0,H1,C,rfl⟩;exact⟨(aX (n:=3) rfl (p5 (l5 0 (show(["x", "y", "z", "times"]:List Str).Nodup by decide+kernel)) (p5 (l5 1 (show(["x", "y", "z", "times"]:List Str).Nodup by decide+kernel)) (p5 (l5 2 (show(["x", "y", "z", "times"]:List Str).Nodup by decide+kernel)) U8)))),DD,(yV (c5 k7 (b9 3)<|b9 0) (c5 k7 (b9 3)<|b9 1)<|c5 k7 (b9 3)<|b9 2)⟩)<|λ_=>zI)) rfl qi)) nd)
   (c6 (J0 aBi rfl (kH<|o5 (PD.pb<|U0 (DE rfl)<|o5 y7<|o5 (PD.pb<|c5 u0 (PD.pb<|OX fM<|b9 0) y7) x6)<|o5 (PD.pb<|U0 (DE rfl)<|o5 y7<|o5 (PD.pb<|OX fM<|b9 0) x6) x6) (l5 8 nd) (c6 (j3 9 (aJ B9 hr (d6 0)<|d6 8) nd)
   (c6 (uB (f8 (b9 3)<|c5 v8 (b9 9)<|PD.pb<|OX fM<|b9 3)<|aX (n:=3) rfl<|p5 (l5 10 nd)<|p5 (l5 11 nd)<|p5 (l5 12 nd) U8)
   (c6 (j3 13 (yV (c5 u0 (PD.pb<|c5 o9 (b9 10)<|PD.pb<|c5 v8 (PD.pb<|c5 v7 (b9 9) y7) y7) y7) (c5 u0 (PD.pb<|c5 o9 (b9 11)<|PD.pb<|c5 v8 (PD.pb<|c5 v7 (b9 9) y7) y7) y7)<|c5 u0 (PD.pb<|c5 o9 (b9 12)<|PD.pb<|c5 v8 (PD.pb<|c5 v7 (b9 9) y7) y7) y7) nd)
   (c6 (j3 14 (aJ V1 hr (J9 dH<|o5 (b9 3) x6)<|d6 13) nd)
   (c6 (A2 (o7 (gS hu) (PD.pb<|aJ V1 hr (J9 dH<|o5 (b9 4) x6)<|aJ D9 hr (d6 13)<|d6 2)<|b9 14) (d8<|j2 wK) p8)
   (d8<|A2 (o7 (gS hu) (PD.pb<|aJ V1 hr (J9 dH<|o5 (b9 7) x6)<|yV (c5 k7 (b9 6)<|PD.pb<|f8 (b9 13) d4) (c5 k7 (b9 6)<|PD.pb<|f8 (b9 13) d4)<|c5 k7 (b9 6)<|PD.pb<|f8 (b9 13) d4)<|b9 14) (d8<|j2 wK) p8)))))))
   (d8<|j2 wK))))))))))
 match ds,h with
 |[.lst xs],h=>
  simp only[iF]at h;split at h
  ·rename_i hc;rw[<-h];obtain⟨hl,hi⟩:=hc;have LP:=zO hi hl (most:=6) (by decide) (by decide);obtain⟨p1,p2,p3⟩:=YK hi (most:=6) (by decide) (by decide);have ne:lT xs 6≠[]:=λz=>by rw[z]at p2;simp at p2
   have LS:=HJ ne (λp hp=>(p1 p hp).mono) (by lia);have a1:=HD ne;obtain⟨z1,z2⟩:=YY p1;have pl:(jF<|lT xs 6).length<=9:=by lia
   generalize jF (lT xs 6)=pts at*
   generalize lT xs 6=pts0 at*
   have pl2:pts.length<=sizeLine:=aAo pl (by decide);have h1:N9 900 pts:=⟨λp hp=>(z1 p hp).mono,by lia⟩;have h3:(c7 pts).length<=9:=aAo (fZ _) pl;have BO:=OZ h1 a1 (by lia);obtain⟨b1,b2,b3,b4,b5,b6⟩:=GN h1 a1 (by lia);have cz:∀p∈C0 pts,Sz 41 p:=λp hp=>z1 p (nH h1 a1 (by lia) hp);have nd:(C0 pts).Nodup:=aS _;have c9:(C0 pts).length<=9:=aAo (G.C9 nd (m:=c7 pts) λv hv=>l9.mpr (nH h1 a1 (by lia) hv)) h3;clear h1 h3 a1 z1 z2 pl p1 p2 p3 ne b5 b6;generalize C0 pts=C at*
   have cne:C≠[]:=λz=>by obtain⟨A,hA,_⟩:=b1;rw[z]at hA;cases hA
   have s9:(c7 C).length<=9:=by rw[b3];exact c9
   obtain⟨c1,bc1⟩:=wU hi 1 (by decide) (by decide);obtain⟨c2,bc2⟩:=wU hi 2 (by decide) (by decide);have SL:=AL (c:=(cJ xs 1).fdiv 5) (j1 (bits_fdiv bc1) (by decide));have so:=XU ((cJ xs 1).fdiv 5);generalize YV ((cJ xs 1).fdiv 5)=sl at*
   have PU:∀P,Sz 50 P->J7 [vd P,.lst (lH sl)]=.ok (vd<|(Y1 sl).put P):=λP hP=>wH so hP.mono;have PZ:∀P,Sz 50 P->Sz 300 ((Y1 sl).put P):=λP hP=>WG so hP;have pt:=(Y1 sl).ac8;have un:=(Y1 sl).unit;obtain⟨k1,k2,k3,k4,k5⟩:=rW (f:=(Y1 sl).put) (C:=C) (λP Q e=>by rw[pt,pt]at e;exact G.Z9 un e) (λp hp=>(PZ p (cz p hp).mono).mono) (GD _ b1) nd c9;have k5':∀Y,Y∈c7 (c7<|C.map (Y1 sl).put)↔∃X∈c7 C,Y=G.j0 (Y1 sl).mv X:=λY=>by simp only[k5,pt]
   obtain⟨es,ee,el⟩:=wE b2 b1 (by lia);have E1:=wG b2 b1 (by lia);have E2:=wG k2 k3 (by lia);have ED:=ZB un k5' b2 b1 (by lia) k2 k3 (by lia) ee λe he=>(el e he).1;have lE:(CV C).length<=sizeLine:=aAo (LV b2 b1 (by lia)) (by decide);obtain⟨t,te,t0,tb⟩:=MZ (k:=(cJ xs 2).fmod 7) (V0 (by decide)).1 (V0 (by decide)).2;obtain⟨g1,g2,g3,g4,g5⟩:=rW (f:=G.cT t) (C:=C) (QM t0) (λp hp=>⟨j1 (bits_mul tb (cz p hp).1) (by decide),j1 (bits_mul tb (cz p hp).2.1) (by decide),j1 (bits_mul tb (cz p hp).2.2) (by decide)⟩) (G.FQ t0 (λX hX=>aBj hX) b1) nd c9;have W1:∀P,Sz 50 P->W4 [.lst (C.map vd),vd P]=.ok (.int (G.G3 (c7 C) P)):=λP hP=>oT b2 b1 (by lia) hP.mono;have W2:∀P,Sz 50 P->W4 [.lst ((c7<|C.map (Y1 sl).put).map vd),vd ((Y1 sl).put P)]=.ok (.int (G.G3 (c7 C) P)):=λP hP=>by rw[oT k2 k3 (by lia) (PZ P hP).mono,pt,G.NG un k5']
   have W3:∀P,Sz 50 P->W4 [.lst ((c7<|C.map<|G.cT t).map vd),vd (G.cT t P)]=.ok (.int (G.G3 (c7 C) P)):=λP hP=>by rw[oT g2 g3 (by lia) ⟨j1 (bits_mul tb hP.1) (by decide),j1 (bits_mul tb hP.2.1) (by decide),j1 (bits_mul tb hP.2.2) (by decide)⟩,G.FU t0 g5]
   have dE:B7 (.lst (CV<|c7<|C.map (Y1 sl).put))<=40:=XB k2 k3 (by lia);have pn:∀P Q,P≠Q->(Y1 sl).put P≠(Y1 sl).put Q:=λP Q n e=>n (by rw[pt,pt]at e;exact G.Z9 un e);have ez:∀e∈es,Sz 50 e.1/\Sz 50 e.2:=λe he=>⟨(cz _<|l9.mp (el e he).2.1).mono,(cz _<|l9.mp (el e he).2.2).mono⟩;have en:∀e∈es,(Y1 sl).put e.1≠(Y1 sl).put e.2:=λe he=>pn _ _ (tQ (el e he).1);simp only[<-pt]at ED;clear k2 k3 k4 k5 k5' g2 g3 g4 g5 un pt el pn b1 b2 b4 so;have cl:C.length<=sizeLine:=aAo c9 (by decide);generalize(Y1 sl).put=put at*
   generalize G.G3 (c7 C)=wh at*
   obtain⟨Q,eQ⟩:∃Q,c7 (C.map put)=Q:=⟨_,rfl⟩;obtain⟨T,eT⟩:∃T,c7 (C.map<|G.cT t)=T:=⟨_,rfl⟩;rw[eQ]at k1 E2 ED W2 dE;rw[eT]at g1 W3;simp only[j5,aAv,aFC,aBl,aEz,aAu,aBD,Nat.reduceAdd,Nat.reduceSub,List.replicate_succ,List.replicate_zero];have fd:∀{x w:Int},0<w->w<1000000000000000->O8 (.int x) (.int w)=.ok (.int (x.fdiv w)):=λw0 w1=>rQ w0 w1;have fm:∀{x w:Int},0<w->S9 (.int x) (.int w)=.ok (.int (x.fmod w)):=λw0=>Z1 w0;refine O9 (by simp[LP,LS];rfl) ?_;refine O9 (by simp[c1,fd,SL];rfl) ?_;refine O9 (by simp[mQ,BO];rfl) ?_;refine O9 (ρ:=[.v (.lst xs),.v (.lst (pts.map vd)),.v (.lst (lH sl)),.v (.lst (C.map vd)),.v (.lst (Q.map vd)),.no,.no,.no,.no,.no,.no,.no,.no,.no,.no]) ?_ ?_
   ·simp-implicitDefEqProofs [cl,i7];rw[pG vd vd put C ?h]
    case h=>exactλq hq=>⟨[.v (vd q),.v (.lst (lH sl))],rfl,PU q (cz q hq).mono⟩
    simp only[R.aa0,k1]
   rw[ee]at E1 lE;refine O9 (ρ:=[.v (.lst xs),.v (.lst (pts.map vd)),.v (.lst (lH sl)),.v (.lst (C.map vd)),.v (.lst (Q.map vd)),.v (.lst (es.map λe=>bW (put e.1,put e.2))),.no,.no,.no,.no,.no,.no,.no,.no,.no]) ?_ ?_
   ·simp only[nK,uS,rM,NJ,R.aa0,mQ,E1,HM,if_pos lE];rw[F7 A6 (λe=>bW (put e.1,put e.2)) es ?h]
    case h=>
     intro e he;have a:=PU e.1 (ez e he).1;have b:=PU e.2 (ez e he).2;have c:=zM (en e he);have s2:2<=sizeLine:=by decide
     have i2:tY (A6 e)=.ok ([e.1,e.2].map vd):=rfl;refine⟨[.v (A6 e),.v (.lst (lH sl))],rfl,?_⟩;simp only[kX,fB,R.aa0,i2];rw[if_pos (show([e.1,e.2].map vd).length<=sizeLine from s2),pG vd vd put [e.1,e.2] ?h]
     case h=>intro p hp;have:=PU p (by simp only[aAd,aAB,or_false]at hp;rcases hp with rfl|rfl;exact(ez e he).1;exact(ez e he).2);exact⟨[.v (vd p),.v (.lst (lH sl))],rfl,this⟩
     have c:ZL (.lst (([e.1,e.2].map put).map vd))=_:=c;simp only[R.aa0,c];rfl
    rfl
   refine O9 (by simp[mQ,E2,ED,TQ dE];rfl) ?_;refine O9 (ρ:=[.v (.lst xs),.v (.lst (pts.map vd)),.v (.lst (lH sl)),.v (.lst (C.map vd)),.v (.lst (Q.map vd)),.v (.lst (es.map λe=>bW (put e.1,put e.2))),.v (.int t),.no,.no,.no,.no,.no,.no,.no,.no]) ?_ ?_
   ·have p60:yN (.int 10) (.int 60)=.ok (.int 1000000000000000000000000000000000000000000000000000000000000):=(gT ⟨by decide,by decide,by decide⟩).trans (by rfl);have p9:yN (.int 10) (.int 9)=.ok (.int 1000000000):=(gT ⟨by decide,by decide,by decide⟩).trans (by rfl);simp[RF,uz,p60,p9,c2,fm,sH,sizeLine,te]
   refine O9 (ρ:=[.v (.lst xs),.v (.lst (pts.map vd)),.v (.lst (lH sl)),.v (.lst (C.map vd)),.v (.lst (Q.map vd)),.v (.lst (es.map λe=>bW (put e.1,put e.2))),.v (.int t),.v (.lst (T.map vd)),.no,.no,.no,.no,.no,.no,.no]) ?_ ?_
   ·simp-implicitDefEqProofs [cl,i7];rw[pG vd vd (G.cT t) C ?h]
    case h=>
     intro q hq;have z:=cz q hq;have mt:∀{x:Int},bits x<=41->Q0 (.int t) (.int x)=.ok (.int (t*x)):=λh=>f7 (l8.of tb h);have s3:3<=sizeLine:=by decide
     exact⟨[.v (.int q.x),.v (.int q.y),.v (.int q.z),.v (.int t)],rfl,by simp[mt z.1,mt z.2.1,mt z.2.2,Y5,s3,G.cT]⟩
    simp only[R.aa0,g1]
   obtain⟨ds,er,hd⟩:=QA (a:=if 2<(xs.length:Int)then(xs.length:Int)-2 else 0) (b:=if 1<(xs.length:Int)then(xs.length:Int)else 1) (by split<;>lia) (by split<;>lia) (by split<;>lia) (by split<;>lia);refine PP (x:=ds) (by simp-implicitDefEqProofs [er]) ?_;refine MG (tz (.lst xs) (.lst (pts.map vd)) (.lst (lH sl)) (.lst (C.map vd)) (.lst (Q.map vd)) (.lst (es.map λe=>bW (put e.1,put e.2))) (.int t)<|.lst (T.map vd)) ?_ ⟨_,_,_,_,_,_,_,rfl⟩ (λ_ _=>rfl);rintro d ko ρ ⟨a8,a9,a10,a11,a12,a13,a14,rfl⟩;obtain⟨k,rfl,k0,k1⟩:=hd d ko;obtain⟨ck,bk⟩:=wU hi k k0 k1;generalize cJ xs k=c at*
   have iC:=kq cne c;have PS:=NL (cz _ (DQ cne c).1) c;obtain⟨A,eA⟩:∃A,ZZ C c=A:=⟨_,rfl⟩;rw[eA]at iC PS;have w1:=W1 _ PS;have w2:=W2 _ PS;have w3:=W3 _ PS;have pu:=PU _ PS;have l0:(0:Int)<C.length:=by
    have:C.length≠0:=λz=>cne (aDb z)
    lia
   have mt:∀{x:Int},bits x<=50->Q0 (.int t) (.int x)=.ok (.int (t*x)):=λh=>f7 (l8.of tb h);have m1:=mt PS.1;have m2:=mt PS.2.1;have m3:=mt PS.2.2;have k3:M1 (vd<|Z6 A c) (.int 0)=.ok (.int (Z6 A c).x)/\M1 (vd<|Z6 A c) (.int 1)=.ok (.int (Z6 A c).y)/\M1 (vd<|Z6 A c) (.int 2)=.ok (.int (Z6 A c).z):=⟨rfl,rfl,rfl⟩;have tr:Y5 [.int (t*(Z6 A c).x),.int (t*(Z6 A c).y),.int (t*(Z6 A c).z)]=.ok (vd<|G.cT t<|Z6 A c):=rfl;have tn:Y5 [.int (A.x+(c.fdiv 11).fmod 5-2),.int (A.y+(c.fdiv 55).fmod 5-2),.int (A.z+(c.fdiv 275).fmod 5-2)]=.ok (vd<|Z6 A c):=rfl;generalize Z6 A c=N at*
   refine⟨[.v (.lst xs),.v (.lst (pts.map vd)),.v (.lst (lH sl)),.v (.lst (C.map vd)),.v (.lst (Q.map vd)),.v (.lst (es.map λe=>bW (put e.1,put e.2))),.v (.int t),.v (.lst (T.map vd)),.v (.int k),.v (.int c),.v (.int A.x),.v (.int A.y),.v (.int A.z),.v (vd N),.v (.int (wh N))],?_,_,_,_,_,_,_,_,rfl⟩;clear W1 W2 W3 PU PZ LP LS BO E1 E2 ED k1 g1 hd er ko;generalize(.lst (es.map λe=>bW (put e.1,put e.2)):D)=ES;refine(bD ..).trans ?_;refine vX (ρ:=[.v (.lst xs),.v (.lst (pts.map vd)),.v (.lst (lH sl)),.v (.lst (C.map vd)),.v (.lst (Q.map vd)),.v ES,.v (.int t),.v (.lst (T.map vd)),.v (.int k),.v (.int c),a10,a11,a12,a13,a14]) (by simp[ck]) ?_;refine vX (ρ:=[.v (.lst xs),.v (.lst (pts.map vd)),.v (.lst (lH sl)),.v (.lst (C.map vd)),.v (.lst (Q.map vd)),.v ES,.v (.int t),.v (.lst (T.map vd)),.v (.int k),.v (.int c),.v (.int A.x),.v (.int A.y),.v (.int A.z),a13,a14]) (by simp[fm l0,iC,GR,bV,G2,fD,vd]) ?_;refine vX (ρ:=[.v (.lst xs),.v (.lst (pts.map vd)),.v (.lst (lH sl)),.v (.lst (C.map vd)),.v (.lst (Q.map vd)),.v ES,.v (.int t),.v (.lst (T.map vd)),.v (.int k),.v (.int c),.v (.int A.x),.v (.int A.y),.v (.int A.z),.v (vd N),a14]) (by simp[fd,fm,tn]) ?_;refine vX (ρ:=[.v (.lst xs),.v (.lst (pts.map vd)),.v (.lst (lH sl)),.v (.lst (C.map vd)),.v (.lst (Q.map vd)),.v ES,.v (.int t),.v (.lst (T.map vd)),.v (.int k),.v (.int c),.v (.int A.x),.v (.int A.y),.v (.int A.z),.v (vd N),.v (.int (wh N))]) (by simp[mQ,w1]) ?_;refine vX (ρ:=[.v (.lst xs),.v (.lst (pts.map vd)),.v (.lst (lH sl)),.v (.lst (C.map vd)),.v (.lst (Q.map vd)),.v ES,.v (.int t),.v (.lst (T.map vd)),.v (.int k),.v (.int c),.v (.int A.x),.v (.int A.y),.v (.int A.z),.v (vd N),.v (.int (wh N))]) (by simp[mQ,pu,w2]) ?_;simp[mQ,k3,m1,m2,m3,tr,w3]
  ·exact absurd h (by simp)
end
end
end K24
section
namespace K24
open PySem L2 DL M
def truth (ns:List Int)(h1:ns.length<=63)(h2:∀x∈ns,aAV x<=1048576):iF [.lst (ns.map D.int)]=.ok (.bl true):=by unfold iF;exact if_pos ⟨by simpa using h1,SF h2⟩
end K24
namespace K24
open PySem L2 DL M
variable [Tabs]
def all_mk {l:PySem.W.OpenLaw}{w:World}{K:PySem.W.Frag}{h:Heap}{mg:cP}{fa f31 Pt:Addr}(X:K.In h)(G:h.Ns mainGlobals mg)(hfa:mg "law"=some (.ref fa))
  (g0:Got K "way_between" Y6)
  (g1:Got K "cross_of" gD)
  (g2:Got K "product_of" aK)
  (g3:Got K "common_divisor" M5)
  (g4:Got K "plane_through" R3)
  (g5:Got K "side_of" kF)
  (g6:Got K "first_real_way" M2)
  (g7:Got K "dimension_of" B0)
  (g8:Got K "refuse_flat" Y9)
  (g9:Got K "points_on" W0)
  (g10:Got K "plane_about" X8)
  (g11:Got K "first_pair" bS)
  (g12:Got K "turn_of" iX)
  (g13:Got K "left_chain" bE)
  (g14:Got K "ring_of" kA)
  (g15:Got K "pairs_round" Y0)
  (g16:Got K "faces_from" bR)
  (g17:QS K "faces_of" J4 Pt)
  (g18:Got K "corners_in" aY)
  (g19:Got K "body_of" jZ)
  (g20:Got K "edges_of" bO)
  (g21:Got K "where_in" bT)
  (g22:Got K "_law_cell" cE)
  (g23:Got K "_law_way" fY)
  (g24:Got K "_law_cross" aP)
  (g25:Got K "_law_product" U3)
  (g26:Got K "_law_point" bI)
  (g27:Got K "_law_points" G7)
  (g28:Got K "_law_solid" L6)
  (g29:Got K "_law_slants" N3)
  (g30:Got K "_law_slanted" V4)
  {od31 an31:Option Addr} {sl31:Array (Option Value)} {oc31 kV31 dc31 pm31 cd31 ct31:Value}
  (a31:PySem.W.nsIn K mainGlobals "law"=some (some (.ref f31))) (l31:K.lookup f31=some ⟨oc31,od31,.func (PySem.W.fnOf "law" "law" (D6 bU) (t9 bU) (c8 bU) .none kV31 dc31 pm31 an31 cd31 ct31),sl31⟩) (e31:PySem.W.codeIn K cd31 "law"=true) (k31:PySem.W.keepIn K (.ref f31)=true)
  (z_abs:PySem.W.nsIn K mainGlobals "abs"=some none)
  (z_len:PySem.W.nsIn K mainGlobals "len"=some none)
  (z_any:PySem.W.nsIn K mainGlobals "any"=some none)
  (z_min:PySem.W.nsIn K mainGlobals "min"=some none)
  (z_list:PySem.W.nsIn K mainGlobals "list"=some none)
  (z_reversed:PySem.W.nsIn K mainGlobals "reversed"=some none)
  (z_zip:PySem.W.nsIn K mainGlobals "zip"=some none)
  (z_sorted:PySem.W.nsIn K mainGlobals "sorted"=some none)
  (z_set:PySem.W.nsIn K mainGlobals "set"=some none)
  (z_max:PySem.W.nsIn K mainGlobals "max"=some none)
  (z_range:PySem.W.nsIn K mainGlobals "range"=some none)
  (z_tuple:PySem.W.nsIn K mainGlobals "tuple"=some none)
  (z_enumerate:PySem.W.nsIn K mainGlobals "enumerate"=some none)
  {mi:Addr} {dd_NO_WAY:Option Addr} {tk0_NO_WAY tk1_NO_WAY tk2_NO_WAY:Tok} {nn_NO_WAY:Nat} {ss_NO_WAY:Array (Option Value)}
  (ca_NO_WAY:PySem.W.nsIn K mainGlobals "NO_WAY"=some (some (.ref mi))) (cl_NO_WAY:K.lookup mi=some ⟨.type "tuple",dd_NO_WAY,.seq #[.int 0 tk0_NO_WAY,.int 0 tk1_NO_WAY,.int 0 tk2_NO_WAY] nn_NO_WAY,ss_NO_WAY⟩)
  (nt:(Pt,tbK)∈Tabs.tbs)
  (truth:∀ns:List Int,ns.length<=63->(∀x∈ns,aAV x<=1048576)->iF [.lst (ns.map D.int)]=.ok (.bl true)):
  ∃fd:FuncData,(∀(s:Shared) (v:Value),BindsTo s fd ⟨[v],[]⟩ [("script",v)])/\∀base:Heap,K.In base->base.Ns mainGlobals mg->gW mg base->FnOk l.prog w K mg base tR 11 fa fd ["script"] (uA K):=by
 have e:=hfa.symm.trans (PySem.W.mg_of X G a31);cases e;have b_abs:=PySem.W.mg_none_of X G z_abs;have gv:=PySem.W.mg_none_of X G z_len;have b_any:=PySem.W.mg_none_of X G z_any;have ue:=PySem.W.mg_none_of X G z_min;have jb:=PySem.W.mg_none_of X G z_list;have kn:=PySem.W.mg_none_of X G z_reversed;have b_zip:=PySem.W.mg_none_of X G z_zip;have ba:=PySem.W.mg_none_of X G z_sorted;have me:=PySem.W.mg_none_of X G z_set;have mh:=PySem.W.mg_none_of X G z_max;have gi:=PySem.W.mg_none_of X G z_range;have ju:=PySem.W.mg_none_of X G z_tuple;have jd:=PySem.W.mg_none_of X G z_enumerate;have cb:NC K mg "NO_WAY" [0,0,0]:=WH (PySem.W.mg_of X G ca_NO_WAY) cl_NO_WAY;refine⟨PySem.W.fnOf "law" "law" (D6 bU) (t9 bU) (c8 bU) .none kV31 dc31 pm31 an31 cd31 ct31,λs v=>.of_eq rfl,λbase _ _ hB=>?_⟩;have bo:x4 l.prog w K mg base 1 "way_between" 2 n4:=o6 (g0.def X G);have de:x4 l.prog w K mg base 1 "cross_of" 2 w5:=C5 (g1.def X G);have br:x4 l.prog w K mg base 1 "product_of" 2 m8:=x8 (g2.def X G);have r_common_divisor:x4 l.prog w K mg base 1 "common_divisor" 1 B5:=M4 b_abs (g3.def X G);have r_plane_through:=Q6 de bo r_common_divisor br (g4.def X G);have ml:x4 l.prog w K mg base 1 "side_of" 2 G0:=Z2 (g5.def X G);have r_first_real_way:x4 l.prog w K mg base 1 "first_real_way" 1 y6:=F9 cb (g6.def X G);have gg:=E6 bo r_first_real_way de br gv b_any (g7.def X G);have r_refuse_flat:=Y4 gg (g8.def X G);have je:=E8 ml (g9.def X G);have ia:=I9 bo br de r_plane_through cb (g10.def X G);have r_first_pair:=bN je ia gg ue (g11.def X G);have r_turn_of:=iW br de bo (g12.def X G);have r_left_chain:=T0 r_turn_of gv (g13.def X G);have r_ring_of:=kL r_left_chain jb kn (g14.def X G);have ib:x4 l.prog w K mg base 1 "pairs_round" 1 v6:=G5 jb b_zip (g15.def X G);have r_faces_from:=aO ia r_ring_of ib gv ba (g16.def X G);have ie:=J8 je r_refuse_flat r_first_pair r_faces_from ba me hB nt (g17.def X G);have r_corners_in:x4 l.prog w K mg base 8 "corners_in" 1 F4:=bL ba me (g18.def X G);have r_body_of:=kJ r_corners_in ie (g19.def X G);have r_edges_of:=aR ie ib ue mh ba me (g20.def X G);have r_where_in:=V1 ie ml mh (g21.def X G);have jf:x4 l.prog w K mg base 1 "_law_cell" 2 aL:=B9 gv (g22.def X G);have r__law_way:x4 l.prog w K mg base 1 "_law_way" 2 n4:=fO (g23.def X G);have r__law_cross:x4 l.prog w K mg base 1 "_law_cross" 2 w5:=bA (g24.def X G);have r__law_product:x4 l.prog w K mg base 1 "_law_product" 2 m8:=V3 (g25.def X G);have r__law_point:x4 l.prog w K mg base 1 "_law_point" 2 Z4:=aM gi ju (g26.def X G);have r__law_points:=Y7 jf r__law_point gi jd (g27.def X G);have r__law_solid:=bG r__law_way r__law_cross r__law_product (g28.def X G);have r__law_slants:x4 l.prog w K mg base 1 "_law_slants" 1 Z0:=X4 (g29.def X G);have r__law_slanted:x4 l.prog w K mg base 1 "_law_slanted" 2 J7:=D9 (g30.def X G);exact PY (o_law r__law_solid r__law_points r__law_slants jf r_body_of r__law_slanted r_edges_of r_where_in jb ba ju gi mh gv<|JF (st:=bU) l31 e31 k31) truth
end K24
namespace PySem.W.Fast
def tw12371316270726471487:=0
def tw7420976775739271854:=0
def tw9345806458992386856:=0
def tw6153463198037916499:=0
def tw3764050009693532954:=0
def tw13363586422587684265:=0
def tw12499624426926449:=0
def tw15646211299673474075:=0
def tw11216430210242513752:=0
def tw16281389340931223424:=0
def tw1257217659666271663:=0
def tw4759705566325279226:=0
def tw4645474523379921940:=0
def tw2674213302584490137:=0
def tw11314151856476727239:=0
def tw18360914870418882701:=0
def tw6748771331082710416:=0
def tw1604997073646804141:=0
def tw5910562749045313136:=0
def tw15282900694960774158:=0
def tw1845638340272158447:=0
def tw3964747956255886895:=0
def tw13614819725228214435:=0
def tw5580681106147569546:=0
def tw5474591834603055438:=0
def tw7343821488038914659:=0
def tw16594158093405389234:=0
def tw9557319090593415469:=0
def tw5154325213997885130:=0
def tw3439198655323804771:=0
def tw17783712339730103983:=0
def tw12890173236755619057:=0
def tw6133209744448940085:=0
def tw12931624018255270571:=0
def tw7220566264140394131:=0
def tw4122252540999008927:=0
def tw17378815553719473484:=0
def tw1382253655463617685:=0
def tw1087284640505378865:=0
def tw6125790532668974488:=0
def tw5319931567326913275:=0
def tw6060753949423274653:=0
def tw6494951810859426078:=0
def tw16624935796052289711:=0
def tw8437212091676203142:=0
def tw5633077511250538037:=0
def tw16864572553780530569:=0
def tw15556519134033025305:=0
def tw1330175735216531455:=0
def tw15906977113663174239:=0
def tw11561199206074901602:=0
def tw10201624925767476282:=0
def tw11525633337002259381:=0
def tw9874256570924326409:=0
def tw18222630192744840625:=0
def tw10825364194058116939:=0
def tw18010049522191428998:=0
def tw14178319985672858601:=0
def tw11746619276004762211:=0
def tw13388801347016172478:=0
def tw15809842953019042660:=0
def tw6088609210036963485:=0
def tw11272319708500866217:=0
def tw10844839969188963337:=0
def tw1700602987067137334:=0
def tw11337206857294678947:=0
def tw18075628550997223001:=0
def tw7916160771133301541:=0
def tw2560064189345033866:=0
def tw5343293551573092247:=0
def tw11439956303537430032:=0
def tw948245926764054661:=0
def tw1168772922322073584:=0
def tw5565412410833591186:=0
def tw13060350570293762581:=0
def tw604615678948952466:=0
def tw13307531143810774723:=0
def tw16618105840294261753:=0
def tw18244109433906636225:=0
def tw9352011190874106032:=0
def tw3347740600451913976:=0
def tw7790846665950326078:=0
def tw4815241861898693732:=0
def tw8726609569410171092:=0
def tw5279514040178737556:=0
def tw483827756833429237:=0
def tw6262847646526595371:=0
def tw17191514292982512090:=0
def tw3893698195123121770:=0
def tw6370610160934318826:=0
def tw11221408106406577039:=0
def tw14308839666406711108:=0
def tw11800066021071578691:=0
def tw5081602422347288442:=0
def tw11979110944025810847:=0
def tw8027223749030104072:=0
def tw5206699844427566735:=0
def tw3259547535294227049:=0
def tw16731095410941511746:=0
def tw12358630081577614474:=0
def tw5190894322363878970:=0
def tw10521999735101756059:=0
def tw12616984138889335725:=0
def tw10902328237268187542:=0
def tw4984558984053495880:=0
def tw6519001802902532578:=0
def tw9093189643363915061:=0
def tw10690570480098020083:=0
def tw16770880303958358402:=0
def tw2589766365543316245:=0
def tw1248388661319716074:=0
def tw4589301656887172806:=0
def tw9310445390421392135:=0
def tw12588877931460600541:=0
def tw14081581896658789276:=0
def tw12360384060355981016:=0
def tw3081521767494824388:=0
def tw6969070480816346613:=0
def tw3410686852015910264:=0
def tw9282577011526067467:=0
def tw1317466234006240510:=0
def tw3794765665657980208:=0
def tw17782061842686426769:=0
def tw2999995010277588047:=0
def tw4812254960337628212:=0
def tw3115885528002679083:=0
def tw8702027345228097346:=0
def tw14302138612425066577:=0
def tw15228569935556242501:=0
def tw18198252278298059695:=0
def tw11302908337806893101:=0
def tw5524848878180716946:=0
def tw16982658269087886945:=0
def tw18192827519702578932:=0
def tw12639912780543920344:=0
def tw6685868385590926587:=0
def tw10071024506524270117:=0
def tw10652420768837558980:=0
def tw10224636366030965449:=0
def tw4070949895128787034:=0
def tw14567228737244849787:=0
def tw12203050693021600849:=0
def tw450855429632002617:=0
def tw10121906508305427034:=0
def tw6169585186761395944:=0
def tw7904988942567397122:=0
def tw10340927946247761417:=0
def tw12146939533802151589:=0
def tw12618158373128251983:=0
def tw13444722775399993:=0
def tw1444406723781653347:=0
def tw3162066346442608622:=0
def tw3679502872052901958:=0
def tw3814562285230034247:=0
def tw7529190386358774338:=0
end PySem.W.Fast
open PySem PySem.W PyProof.Rows
set_option maxRecDepth 100000 in
theorem PySem.Challenge.cw_stakebodies_k24_whole_edges_of_moved_holds : PySem.Challenge.rw_stakebodies_k24_whole_edges_of_moved.Holds := by
 w_on;o_law;k_head;(case hw=>w_witness2)
 k_fill
 letI tabs9:DL.Tabs:=⟨[(169,K24.tbK)]⟩
 refine DL.RK (l:=PySem.Challenge.rw_stakebodies_k24_whole_edges_of_moved) (k:=11) rfl rfl ⟨rfl,by decide,by decide⟩ (λw h Y=>⟨PySem.W.km_in_of Y,PySem.W.km_tabs_of Y⟩) (DL.TN (c:=173) (by k_mem) (λw=>by kernel_rfl)) (aAE.mpr ⟨aAB,aCK⟩) (λw=>by kernel_rfl) ?F
 case F=>
  intro w mg fa h KX G hmg;refine' K24.all_mk KX G hmg ?_ ?_ ?_ ?_ ?_ ?_ ?_ ?_ ?_ ?_ ?_ ?_ ?_ ?_ ?_ ?_ ?_ ?_ ?_ ?_ ?_ ?_ ?_ ?_ ?_ ?_ ?_ ?_ ?_ ?_ ?_ ?a31 ?l31 ?e31 ?k31 ?z_abs ?z_len ?z_any ?z_min ?z_list ?z_reversed ?z_zip ?z_sorted ?z_set ?z_max ?z_range ?z_tuple ?z_enumerate ?ca_NO_WAY ?cl_NO_WAY (aAZ.mpr rfl) K24.truth
  all_goals first|(refine' DL.VU ?a ?l ?c ?k;(case a=>k_is);(case l=>k_is);(case c=>k_is);(case k=>k_is))|(refine' DL.QQ ?a ?l ?c ?k rfl ?n;(case a=>k_is);(case l=>k_is);(case c=>k_is);(case k=>k_is);(case n=>kernel_rfl))|k_is|skip
end
