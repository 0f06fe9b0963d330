import PyProof.Rows.All
import Wide.All
import OpenK.AllK
import Wide.FinOn
import Lean
import PyProof.EqAt
import PyProof.EqKinds
import PyProof.TupleCall
import PyProof.NeKinds
import KE.RegKIsAll
import PyProof.ExcClass3
import PySem.SetTable
import PySem.Value
import PyProof.CollectIter
import PyProof.SetKind
import PyProof.Walks
import PyProof.ForAny
import PyProof.FactsAll.set_1
import PyProof.FactsAll.set_2
import PyProof.Rows.SortShellK
import PyProof.ZipIter
import KE.KRevIter
import PyProof.ListNew
import OpenK.KOwn
import PyProof.ConsumeS
import KE.KNestM
import KE.KIsAll
import PyProof.Rows.StrWeight2
import PySem.Challenge.RW_stakebodies_k16_bodies_refused
set_option Elab.async false
set_option linter.all false
set_option backward.eqns.nonrecursive false
set_option maxRecDepth 100000
set_option maxHeartbeats 4000000
open PySem renaming wpAny_bind → aAa, wpAny_pure → aAb, wpAny_holding → aAJ, wpAny_Call_Name_kw → aAM, wpAny_call_entry → aBk, wpAny_specialOf → aBl, codeAny_builtin → aBu, wpAny_mono → aBw, wpAny_newObj_type → aBx, wpAny_seqItems → aBH, wpAny_truthy_bool → aBM, plainId_quiet → aBQ, wpAny_setField_rec → aBR, wpAny_updateSeq → aBT, wpAny_setState_of → aCa, builtinLookup_eq_fast → aCh, wpAny_forIn_list → aCn, wpAny_callSpecial?_slot → aCq, wpAny_execs_cons → aCA, wpAny_field → aCH, wpAny_passesOwn → aCK, wpAny_nextOf_list_item → aCV, wpAny_callSpecialIfBoundUnlessNone?_slot → aCZ, codeAny_mono → aDc, typeLookup_type → aDg, wpAny_pyIter_list → aDh, wpAny_isInstance → aDv, wpAny_typeOf → aDy, wpAny_rule → aDz, wpAny_execs_nil → aDA, wpAny_letGo → aDN, wpAny_isTrue_Compare1 → aDT, codeAny_call_builtin → aEf, wpAny_attempt → aEg, wpAny_loadPart' → aEi, pushCells_keeps → aEk, wpAny_setEntries_of → aEn, slot_dict_contains → aEG, isSubtype_type → aEI, wpAny_tryCatch → aEJ, wpAny_Assign_Name → aEM, wpAny_pyIter_slot → aEU, wpAny_loadPart_at → aEW, wpAny_standAt → aEX, sizeLine_eq → aEY, noFill_tuple_add → aFd, beq_builtin_none → aFf, wpAny_askSetting → aFg, concat_meets → aFp, wpAny_call → aFy, call_meets → aFz, wpAny_Expr_any → aFK, wpAny_newTuple → aFN
open PySem.Heap renaming get?_push_of_some → aAc, lt_size → aAf, get?_push_size → aAn, get?_update_other → aAB, get?_update_self → aBf, size_push → aBn, get?_none_of_le → aEc
open List renaming mem_cons_of_mem → aAd, mem_cons → aAe, getElem?_eq_getElem → aAk, length_map → aAl, size_toArray → aAm, mem_map → aAp, mem_of_getElem? → aAr, map_cons → aAs, length_cons → aAt, getElem?_append_right → aAu, getD_eq_getElem?_getD → aAv, pairwise_cons → aAw, getElem?_eq_some_iff → aAy, length_append → aAz, mem_append_right → aAC, replicate → aAD, not_mem_nil → aAG, nodup_cons → aAK, getElem?_map → aAN, reverse_cons → aAO, getElem?_append_left → aAP, mem_append → aAS, lookup_cons → aAT, mem_cons_self → aAX, getLast?_cons_cons → aAY, range → aBb, mem_singleton → aBd, getElem?_replicate → aBg, replicate_succ → aBh, length_take → aBj, cons_append → aBm, getElem?_zip_eq_some → aBp, getElem?_set_self → aBq, append_nil → aBr, lookup_cons_self → aBs, getElem_of_mem → aBt, mem_append_left → aBz, dropLast_concat → aBB, mem_filterMap → aBC, mem_range → aBE, length_nil → aBF, map_append → aBJ, mem_flatMap → aBK, pairwise_map → aBN, zip_cons_cons → aBO, all_eq_true → aBU, nodup_iff_pairwise_ne → aBV, filterMap_cons → aBY, flatten_cons → aBZ, getElem?_eq_none_iff → aCb, pairwise_iff_getElem → aCc, length_replicate → aCe, map_map → aCi, getElem_mem → aCo, getElem?_set_ne → aCp, length_reverse → aCx, getElem?_toArray → aCD, set_cons_succ → aCE, set_cons_zero → aCF, forIn_cons → aCM, nodup_append → aCN, getElem?_cons_zero → aCQ, mem_reverse → aCS, eq_nil_of_length_eq_zero → aCT, nodup_nil → aCU, filterMap_map → aCW, map → aCY, mem_filter → aDa, nil_append → aDe, mem_iff_getElem? → aDf, append_assoc → aDi, perm_ext_iff_of_nodup → aDm, drop_eq_getElem_cons → aDo, length_drop → aDs, set → aDw, mem_map_of_mem → aDx, of_mem_zip → aDC, pairwise_singleton → aDF, sum_cons → aDJ, take_of_length_le → aDK, length_pos_of_mem → aDL, length_range → aDO, forIn_nil → aDQ, map_nil → aDR, dropLast_eq_take → aDS, pairwise_reverse → aDV, any_eq_true → aDZ, zipIdx_cons → aEa, getElem_map → aEb, mem_of_getLast? → aEd, foldl_cons → aEj, zipIdx_nil → aEp, replicate_zero → aEs, exists_cons_of_ne_nil → aEu, head?_reverse → aEB, getLast?_cons → aEC, exists_mem_of_ne_nil → aEL, length_erase_of_mem → aES, ext_getElem? → aET, eraseIdx_cons_succ → aEZ, getElem?_cons_succ → aFa, map_reverse → aFi, range_succ_eq_map → aFl, take_append_drop → aFt, length_dropLast → aFC, mem_erase_of_ne → aFG, mem_of_mem_take → aFH, mem_of_mem_drop → aFI, drop_zero → aFM, length → aFO, all_cons → aFW, map_take → aGb, foldl → aGe
open Nat renaming le_refl → aAg, ne_of_lt → aAi, lt_of_lt_of_le → aAo, le_trans → aAx, zero_le → aAW, lt_irrefl → aAZ, lt_succ_of_lt → aBo, le_of_succ_le → aCv, lt_of_le_of_lt → aCC, le_of_lt → aCP, lt_or_eq_of_le → aCX, ne_of_gt → aDb, lt_succ_self → aDt, le_add_right → aDu, le_of_eq → aDU, le_of_not_lt → aDY, mul_le_mul → aEK, mod_lt → aER, le_of_lt_succ → aEV, gcd_dvd_left → aFe, min_eq_right → aFj, le_add_left → aFr, zero_add → aFs, not_lt_zero → aFv, min_eq_left → aFw, reduceAdd → aFZ, reduceSub → aGa, lt_trans → aGk, succ_pos → aGm
open False renaming elim → aAh
open Option.some renaming inj → aAj, injEq → aGf
open Bool renaming false_eq_true → aAq, and_eq_true → aAF, false_ne_true → aAL, not_true → aDk, eq_iff_iff → aDD, and_false → aFL
open Array renaming getElem?_toList → aAA, getElem?_eq_getElem → aAE, length_toList → aAU, getElem?_eq_some_iff → aBW, forIn_toList → aCl, getElem?_eq_none → aCy, replicate → aEm, perm_iff_toList_perm → aEw, getD → aEQ, toList → aFo, getElem_toList → aFJ, toList_append → aFS
open PySem.Builtin.Tuple renaming tupleHashOf → aAH, tupleExact → aCL, tupleItemsOf → aDl
open Int renaming mul_eq_zero → aAI, mul_le_mul_of_nonneg_left → aAR, mul_le_mul_of_nonneg_right → aAV, le_of_lt → aBe, mul_pos → aBA, mul_neg_of_pos_of_neg → aBG, toNat_natCast → aCu, le_refl → aCI, eq_of_mul_eq_mul_left → aDp, mul_nonneg → aDP, mul_ediv_cancel' → aEe, toNat → aEo, fdiv_eq_ediv_of_nonneg → aEv, mul_lt_mul_of_pos_left → aEx, le_of_mul_le_mul_right → aEy, natAbs_eq_zero → aED, ofNat_dvd_left → aEE, mul_zero → aEH, neg_nonneg_of_nonpos → aEP, neg_mul_neg → aFq, mul_assoc → aFY, gcd → aGi, mul_comm → aGn
open PySem.Builtin.Int renaming intBits → aAQ
open PySem.Around renaming under_plainId → aBa, frames_deeper → aFA
open PyProof.Rows renaming callWith_type1 → aBc, wpS_bind → aBi, wpS_pure → aCd, callWith_builtin1 → aCf, slot_tuple_getitem → aCs, wpS_forRange → aDW, listItems_at → aDX, envOfC → aEr, pairsOf_size → aEF, KK_mirror_equal → aFu, mirror_perm → aFQ, wpS_reverse → aFR
open PySem.PassesOwn renaming never → aBv
open Or renaming inr → aBy, inl → aCt
open PySem.Obj renaming mapSeq → aBD, putSet → aEh
open PySem.Builtin.SmallTypes renaming nextOf → aBI, ownedTupleIsFree → aBL, ownedTupleHandOut → aDr
open PySem.NameKind renaming cell → aBP
open PySem.Builtin.List renaming listExtendWith → aBS, listTooLong → aCk, listLengthHint → aCw, listItems → aCz, listSameRef → aCO, listTouch → aFn
open PySem.Value renaming bool → aBX, type → aCj, ref → aCJ, builtin → aDj, int → aGp
open ForInStep renaming yield → aCg
open Ne renaming symm → aCm
open PySem.Builtin.Range renaming rangeSize → aCr, small → aFP
open PySem.F renaming plain_min_loop → aCB, plain_extend_loop → aCR, slot_zip_next → aDI, entry_min_loop → aFh
open PySem.Builtin.Slice renaming slicePlaces → aCG, sliceAdjust → aDn, sliceApplied → aEt
open PySem.Str renaming ofString → aDd
open PySem.SetTable renaming below → aDq, bits → aDG, fits → aFX, insertAt → aGj, tooFull → aGo
open PySem.Calls renaming spliced_cons → aDB, spliced_nil → aEN, callWith_builtin → aFk, evalArgs_plain → aFB
open PySem.SeqAt.EqAt renaming same → aDE, int_int → aEz, of_refs → aEA, int_tuple → aFD, tuple_int → aFE, int_str → aFT, str_int → aFU
open Classical renaming propDecidable → aDH
open Option renaming map_eq_some_iff → aDM, isSome_iff_exists → aEO
open PySem.Builtin.Builtins renaming bindParams → aEq
open PySem.Moved renaming trans → aFb
open PySem.Builtin.Frozenset renaming slot0 → aFc
open PySem.SeqAt renaming ne_of_list_tuple → aFm
open List.cons renaming injEq → aFx
open List.Pairwise renaming filter → aFF, nil → aGh
open Prod renaming ext → aFV
open Sum renaming inl → aGc, inr → aGd
open PySem.Heap.SameBut renaming refl → aGg
open PySem.pickOrder renaming go → aGl
open Array.Perm renaming refl → aGq
abbrev C5:=PySem.Value->PySem.Shared->Prop
abbrev K7:=List (PySem.Addr×PySem.Obj)
abbrev V5:=PySem.Str->Option PySem.Value
abbrev rZ:=Bool->PySem.Shared->Prop
noncomputable section
namespace L2
open PySem PySem.Spec PyProof.Rows
abbrev vC:=Sum Int Str
def FX:vC->Value->Bool
 |.inl k,v=>Value.isInt k v
 |.inr x,v=>Value.isStrOf x v
def ez (w:World):vC->Int
 |.inl k=>hashInt k
 |.inr x=>hashStr w x
theorem z8:∀{k:vC} {v:Value},FX k v=true->(∃i t,k=aGc i/\v=aGp i t)\/(∃x t,k=aGd x/\v=Value.str x t)
 |.inl i,v,h=>by obtain⟨t,e⟩:=Value.isInt_shape (k:=i) (v:=v) h;exact .inl ⟨i,t,rfl,e⟩
 |.inr x,v,h=>by obtain⟨t,e⟩:=Value.isStrOf_shape (x:=x) (v:=v) h;exact .inr ⟨x,t,rfl,e⟩
def TH (a b:Int):decide ((aGc a:vC)=aGc b)=(a==b):=by
 by_cases e:a=b
 ·subst e;simp
 ·have h:¬(aGc a:vC)=aGc b:=λq=>e (Sum.inl.inj q);rw[decide_eq_false h];exact(beq_eq_false_iff_ne.mpr e).symm
def TD (a b:Str):decide ((aGd a:vC)=aGd b)=decide (a=b):=by
 by_cases e:a=b
 ·subst e;simp
 ·have h:¬(aGd a:vC)=aGd b:=λq=>e (Sum.inr.inj q);rw[decide_eq_false h,decide_eq_false e]
def TN (a:Int)(b:Str):decide ((aGc a:vC)=aGd b)=false:=decide_eq_false (λq=>nomatch q)
def SA (a:Str)(b:Int):decide ((aGd a:vC)=aGc b)=false:=decide_eq_false (λq=>nomatch q)
def qQ (prog:Program)(w:World):PySem.KeyKind prog w vC where
 is:=FX
 hash:=ez w
 inj:=λv a b ha hb=>by
  rcases z8 ha with⟨i,t,rfl,rfl⟩|⟨x,t,rfl,rfl⟩
  ·rcases z8 hb with⟨j,u,rfl,e⟩|⟨y,u,rfl,e⟩
   ·injection e with e1 _;rw[e1]
   ·exact nomatch e
  ·rcases z8 hb with⟨j,u,rfl,e⟩|⟨y,u,rfl,e⟩
   ·exact nomatch e
   ·injection e with e1 _;rw[e1]
 byValue:=λk v h=>by rcases z8 h with⟨i,t,rfl,rfl⟩|⟨x,t,rfl,rfl⟩<;>rfl
 pyHash:=λhv h=>by
  rcases z8 hv with⟨i,t,rfl,rfl⟩|⟨x,t,rfl,rfl⟩
  ·exact wpAny_pyHash_int h
  ·exact wpAny_pyHash_str h
 eqBool:=λhu hv h=>by
  rcases z8 hu with⟨i,t,rfl,rfl⟩|⟨x,t,rfl,rfl⟩
  ·rcases z8 hv with⟨j,u,rfl,rfl⟩|⟨y,u,rfl,rfl⟩
   ·rw[TH]at h;exact wpAny_eqBool_int h
   ·rw[TN]at h;exact aFT i t y u _ _ _ _ h
  ·rcases z8 hv with⟨j,u,rfl,rfl⟩|⟨y,u,rfl,rfl⟩
   ·rw[SA]at h;exact aFU x t j u _ _ _ _ h
   ·rw[TD]at h;exact wpAny_eqBool_str h
 «strs»:=λk x t v h=>by
  rcases z8 h with⟨i,u,rfl,e⟩|⟨y,u,rfl,e⟩
  ·exact nomatch e
  ·injection e with e1 _;subst e1;cases v<;>rfl
def QP (prog:Program)(w:World)(k:vC)(v:Value):(qQ prog w).is k v=FX k v:=rfl
end L2
namespace L2
open PySem PySem.Spec PyProof.Rows
inductive V where
 |non|bl (b:Bool)|int (i:Int)|str (x:Str)|byt (b:Array UInt8)|flt (b:UInt64)|ref (a:Addr)|ty (n:String)
 deriving DecidableEq
def RelV:V->Value->Prop
 |.non,u=>u=Value.none
 |.bl b,u=>u=aBX b
 |.int i,u=>∃t,u=aGp i t
 |.str x,u=>∃t,u=Value.str x t
 |.byt b,u=>∃t,u=Value.bytes b t
 |.flt b,u=>∃t,u=Value.float b t
 |.ref a,u=>u=aCJ a
 |.ty n,u=>u=aCj n
abbrev m6:List V->List Value->Prop:=Paired RelV
def m6.length {xs:List V}{us:List Value}(r:m6 xs us):xs.length=us.length:=Paired.length r
theorem m6.get:∀{xs:List V} {us:List Value} {i:Nat} {x:V},m6 xs us->xs[i]?=some x->∃u,us[i]?=some u/\RelV x u
 |_,_,_,_,.nil,e=>by simp at e
 |_,_,0,_,.cons r _,e=>by simp at e;subst e;exact⟨_,rfl,r⟩
 |_,_,i+1,x,.cons _ t,e=>by obtain⟨u,h1,h2⟩:=m6.get (i:=i) (x:=x) t (by simpa using e);exact⟨u,by simpa using h1,h2⟩
theorem m6.append:∀{xs ys:List V} {us ws:List Value},m6 xs us->m6 ys ws->m6 (xs++ys) (us++ws)
 |_,_,_,_,.nil,s=>s
 |_,_,_,_,.cons r t,s=>.cons r (m6.append t s)
theorem m6.take:∀{xs:List V} {us:List Value} (n:Nat),m6 xs us->m6 (xs.take n) (us.take n)
 |_,_,0,_=>.nil
 |_,_,_+1,.nil=>.nil
 |_,_,n+1,.cons r t=>.cons r (m6.take n t)
theorem m6.drop:∀{xs:List V} {us:List Value} (n:Nat),m6 xs us->m6 (xs.drop n) (us.drop n)
 |_,_,0,r=>r
 |_,_,_+1,.nil=>.nil
 |_,_,n+1,.cons _ t=>m6.drop n t
def WG:Option V->Option Value->Prop
 |some v,some u=>RelV v u
 |none,none=>True
 |_,_=>False
def KV {κ:Type}:List (κ×V)->List (κ×Value)->Prop:=Paired λ(p:κ×V) (q:κ×Value)=>p.1=q.1/\RelV p.2 q.2
def kV:vC->V
 |.inl i=>.int i
 |.inr x=>.str x
inductive HO where
 |lst (xs:List V)
 |tup (xs:List V)
 |dK (kvs:List (vC×V))|dT (kvs:List (List vC×V))
 |set (S:Int->Bool) (n:Nat)
 |ins (C dx:Addr) (fs:List (Str×V))
 |own (x:Addr)
 |xd (fs:List (Str×V))
 |met (f x:Addr)
 |rng (lo hi:Int)
 |frz (o:Obj) (u:HO)
 |tbl (tb:List (Pos×Str))
 |ext (φ:Heap->Prop)
abbrev Hp:=Addr->Option HO
def upd (H:Hp)(a:Addr)(o:HO):Hp:=λb=>if b=a then some o else H b
def i4:upd H a o a=some o:=by unfold upd;rw[if_pos rfl]
def j7 (h:b≠a):upd H a o b=H b:=by unfold upd;rw[if_neg h]
def t8 {H:Hp}{a b:Addr}{o:HO}(h:H a=some o)(h':H b=none):a≠b:=by intro e;subst e;rw[h]at h';cases h'
section
variable(P:Program) (w:World)
def ObjOk (H:Hp)(h:Heap)(a:Addr):HO->Prop
 |.lst xs=>xs.length<=sizeLine/\∃(its:List Value) (n:Nat),m6 xs its/\h.get? a=some {cls:=.type "list",data:=.seq its.toArray n}
 |.tup xs=>xs.length<=sizeLine/\∃its:List Value,m6 xs its/\IsTup h a its.toArray
 |.dK kvs=>kvs.length<=sizeLine/\(a==sysModules)=false/\∃vs,KV kvs vs/\h.DictOf (qQ P w) a vs
 |.dT kvs=>kvs.length<=sizeLine/\(a==sysModules)=false/\∃xs:List (List vC×Addr×Value),
  Paired (λ(p:List vC×V) (q:List vC×Addr×Value)=>p.1=q.1/\H q.2.1=some (.tup (p.1.map kV))/\RelV p.2 q.2.2) kvs xs/\
  ∃o es ep,h.get? a=some o/\o.ExactDict/\o.data=.dict es ep/\es.toList=xs.map (entryOfKey<|tupleKind<|qQ P w)/\(xs.map (·.1)).Nodup
 |.set S n=>h.SetOf (intKind P w) a S n
 |.ins C dx fs=>H dx=some (.own a)/\fs.length<=1000/\dx≠a/\h.get? a=some (PySem.W.instObj C dx)/\
  ∃mA,h.Ns1 dx mA/\(∀f,WG (fs.lookup f) (mA f))/\PySem.Within mA (fs.map (·.1))
 |.own _=>∃o,h.get? a=some o
 |.xd fs=>∃mA,h.Ns1 a mA/\∀f,WG (fs.lookup f) (mA f)
 |.rng lo hi=>∃t u v,h.get? a=some {cls:=.type "range",data:=.fields #[.int lo t,.int hi u,.int 1 v]}
 |.frz o u=>h.get? a=some o/\ObjOk H h a u
 |.tbl tb=>∃ps:Array Value,h.get? a=some {cls:=.none,data:=.fields ps}/\TriplesOk ps.toList/\∀p∈tb,codeAmong p.1 ps.toList=none\/∃c oc vs t,codeAmong p.1 ps.toList=some (.ref c)/\H c=some (.frz oc (.own c))/\oc.data=.fields vs/\vs[1]?=some (.str p.2 t)
 |.met f x=>h.get? a=some (PySem.W.methodObj (.ref f)<|.ref x)
 |.ext φ=>φ h/\(∃o,h.get? a=some o)/\∀h1 h2:Heap,φ h1->(∀o,h1.get? a=some o->h2.get? a=some o)->φ h2
def OP:HO->Prop
 |.tup _=>True
 |.frz o _=>∃vs,o.data=.fields vs
 |_=>False
def W7 (H:Hp)(h:Heap):Prop:=∀a o,H a=some o->ObjOk P w H h a o
end
section
variable{P:Program} {w:World} {H H':Hp} {h h':Heap} {a:Addr} {o:HO}
def ObjOk.lt (x:ObjOk P w H h a o):a<h.objs.size:=by
 cases o with
 |lst xs=>obtain⟨_,_,_,_,e⟩:=x;exact aAf e
 |tup xs=>obtain⟨_,_,_,p⟩:=x;exact p.lt
 |dK kvs=>obtain⟨_,_,_,_,o,_,_,e,_⟩:=x;exact aAf e
 |dT kvs=>obtain⟨_,_,_,_,o,_,_,e,_⟩:=x;exact aAf e
 |set S n=>obtain⟨o,_,_,_,e,_⟩:=x;exact aAf e
 |ins C dx fs=>obtain⟨_,_,_,e,_⟩:=x;exact aAf e
 |own y=>obtain⟨_,e⟩:=x;exact aAf e
 |xd fs=>obtain⟨_,⟨_,_,_,e,_⟩,_⟩:=x;exact aAf e
 |rng lo hi=>obtain⟨_,_,_,e⟩:=x;exact aAf e
 |frz ob u=>obtain⟨e,_⟩:=x;exact aAf e
 |tbl tb=>obtain⟨_,e,_⟩:=x;exact aAf e
 |met f y=>exact aAf (show h.get? a=some _ from x)
 |ext φ=>obtain⟨_,⟨_,e⟩,_⟩:=x;exact aAf e
theorem Paired.af1 {α β:Type}{F G:α->β->Prop}:∀{l₁:List α} {l₂:List β},Paired F l₁ l₂->(∀a b,F a b->G a b)->Paired G l₁ l₂
 |_,_,.nil,_=>.nil
 |_,_,.cons r t,f=>.cons (f _ _ r) (Paired.af1 t f)
def ObjOk.ab7 (x:ObjOk P w H h a o)(k:∀b u,(b=a\/H b=some (.own a))->h.get? b=some u->h'.get? b=some u)
  (ho:∀b,H b=some (.own a)->H' b=some (.own a)) (ht:∀b u,OP u->H b=some u->H' b=some u):ObjOk P w H' h' a o:=by
 induction o with
 |lst xs=>obtain⟨z,its,n,r,e⟩:=x;exact⟨z,its,n,r,k _ _ (.inl rfl) e⟩
 |tup xs=>obtain⟨z,its,r,ob,e,c⟩:=x;exact⟨z,its,r,ob,k _ _ (.inl rfl) e,c⟩
 |dK kvs=>obtain⟨z,y,vs,r,ob,es,ep,e,c⟩:=x;exact⟨z,y,vs,r,ob,es,ep,k _ _ (.inl rfl) e,c⟩
 |dT kvs=>obtain⟨z,y,xs,r,ob,es,ep,e,c⟩:=x;exact⟨z,y,xs,Paired.af1 r λp q z=>⟨z.1,ht _ _ trivial z.2.1,z.2.2⟩,ob,es,ep,k _ _ (.inl rfl) e,c⟩
 |set S n=>obtain⟨ob,es,ep,t,e,c⟩:=x;exact⟨ob,es,ep,t,k _ _ (.inl rfl) e,c⟩
 |ins C dx fs=>obtain⟨d,z,ne,e,mA,⟨od,es,ep,e2,c⟩,r⟩:=x;exact⟨ho _ d,z,ne,k _ _ (.inl rfl) e,mA,⟨od,es,ep,k _ _ (.inr d) e2,c⟩,r⟩
 |own y=>obtain⟨ob,e⟩:=x;exact⟨ob,k _ _ (.inl rfl) e⟩
 |xd fs=>obtain⟨mA,⟨od,es,ep,e,c⟩,r⟩:=x;exact⟨mA,⟨od,es,ep,k _ _ (.inl rfl) e,c⟩,r⟩
 |rng lo hi=>obtain⟨t,u,v,e⟩:=x;exact⟨t,u,v,k _ _ (.inl rfl) e⟩
 |frz ob u ih=>obtain⟨e,q⟩:=x;exact⟨k _ _ (.inl rfl) e,ih q⟩
 |tbl tb=>obtain⟨ps,e,t,f⟩:=x;exact⟨ps,k a _ (.inl rfl) e,t,λp hp=>(f p hp).imp id λ⟨c,oc,vs,t,e1,e2,e3⟩=>⟨c,oc,vs,t,e1,ht _ _ ⟨vs,e3.1⟩ e2,e3⟩⟩
 |met f y=>have e:h.get? a=some (PySem.W.methodObj (.ref f)<|.ref y):=x;show h'.get? a=some (PySem.W.methodObj (.ref f)<|.ref y);exact k a _ (.inl rfl) e
 |ext φ=>obtain⟨p,⟨o,e⟩,st⟩:=x;exact⟨st _ _ p λo q=>k _ _ (.inl rfl) q,⟨o,k _ _ (.inl rfl) e⟩,st⟩
def W7.lt (x:W7 P w H h)(e:H a=some o):a<h.objs.size:=(x a o e).lt
def W7.fresh (x:W7 P w H h)(e:h.objs.size<=a):H a=none:=by
 cases q:H a with
 |none=>rfl
 |some u=>exact absurd (aAo (x.lt q) e) (aAZ _)
def W7.kept (x:W7 P w H h)(k:∀b u,h.get? b=some u->h'.get? b=some u):W7 P w H h':=λa o e=>(x a o e).ab7 (λb u _ q=>k b u q) (λ_ q=>q) λ_ _ _ q=>q
def W7.laid (x:W7 P w H h)(k:∀b u,h.get? b=some u->h'.get? b=some u)(hp:h.objs.size<=a)(new:ObjOk P w (upd H a o) h' a o):W7 P w (upd H a o) h':=λb u e=>by
 have hn:=x.fresh hp;by_cases hb:b=a
 ·subst hb;rw[i4]at e;cases e;exact new
 ·rw[j7 hb]at e;exact(x b u e).ab7 (λc v _ q=>k c v q) (λc q=>by rw[j7 (t8 q hn)];exact q) λc xs _ q=>by rw[j7 (t8 q hn)];exact q
end
def Rd (H:Hp)(a:Addr)(u:HO):Prop:=H a=some u\/∃o,H a=some (.frz o u)
def Rd.ok (r:Rd H a u)(x:W7 P w H h):ObjOk P w H h a u:=by
 rcases r with r|⟨o,r⟩
 ·exact x a u r
 ·obtain⟨_,q⟩:=x a _ r;exact q
def YO:Option HO->Prop
 |some (.lst _)=>True
 |some (.dK _)=>True
 |some (.dT _)=>True
 |some (.set _ _)=>True
 |some (.ins _ _ _)=>True
 |some (.ext _)=>True
 |_=>False
section
variable{P:Program} {w:World} {H:Hp} {h h':Heap} {x e:Addr} {o':HO}
def W7.write (ok:W7 P w H h)(mu:YO (H x))(he:e=x\/H e=some (.own x))(k:∀b u,b≠e->h.get? b=some u->h'.get? b=some u)(heo:∃u,h'.get? e=some u)
  (new:ObjOk P w (upd H x o') h' x o'):W7 P w (upd H x o') h':=λb u q=>by
 have nown:∀c y,H c=some (.own y)->c≠x:=λc y r z=>by subst z;rw[r]at mu;exact mu
 have ntup:∀c u,OP u->H c=some u->c≠x:=λc u f r z=>by subst z;rw[r]at mu;cases u<;>first|exact mu|exact f
 by_cases hb:b=x
 ·subst hb;rw[i4]at q;cases q;exact new
 ·rw[j7 hb]at q;by_cases yn:b=e
  ·have q':H b=some (.own x):=by
    rcases he with z|z
    ·exact absurd (yn.trans z) hb
    ·rw[yn];exact z
   rw[q]at q';cases q';obtain⟨v,hv⟩:=heo;exact⟨v,by rw[yn];exact hv⟩
  ·refine(ok b u q).ab7 (λc v hc r=>k c v ?_ r) (λc r=>by rw[j7 (nown c b r)];exact r) λc xs f r=>by rw[j7 (ntup c xs f r)];exact r
   rcases hc with rfl|hc
   ·exact yn
   ·rintro rfl;rcases he with z|z
    ·exact nown c b hc z
    ·rw[hc]at z;cases z;exact hb rfl
end
structure Un (fs ex:List Addr)(H H':Hp)(h h':Heap):Prop where
 keep:∀b o,h.get? b=some o->H b=none->b∉fs->b∉ex->h'.get? b=some o
 slot:∀b o,h.get? b=some o->H b=none->b∈fs->b∉ex->∃sl,h'.get? b=some {o with slots:=sl}
 free:∀b o,h.get? b=some o->H b=none->b∉ex->H' b=none
 there:∀b o,h.get? b=some o->b∉ex->∃o',h'.get? b=some o'
 tups:∀b xs,H b=some (.tup xs)->H' b=some (.tup xs)
 frzs:∀b o u,H b=some (.frz o u)->H' b=some (.frz o u)
 tbls:∀b tb,H b=some (.tbl tb)->H' b=some (.tbl tb)
section
variable{fs xt ex ex':List Addr} {H H1 H2:Hp} {h h1 h2 h':Heap} {a x e:Addr} {o:HO}
def Un.any (u:Un fs ex H H1 h h1)(q:h.get? b=some ob)(n:H b=none)(hx:b∉ex):∃sl,h1.get? b=some {ob with slots:=sl}:=by
 by_cases hb:b∈fs
 ·exact u.slot b ob q n hb hx
 ·exact⟨ob.slots,u.keep b ob q n hb hx⟩
def Un.kept (k:∀b u,h.get? b=some u->h'.get? b=some u):Un fs ex H H h h':=
 ⟨λb ob q _ _ _=>k b ob q,λb ob q _ _ _=>⟨ob.slots,k b ob q⟩,λ_ _ _ n _=>n,λb ob q _=>⟨ob,k b ob q⟩,λ_ _ q=>q,λ_ _ _ q=>q,λ_ _ q=>q⟩
def Un.refl:Un fs ex H H h h:=Un.kept λ_ _ q=>q
def Un.laid (k:∀b u,h.get? b=some u->h'.get? b=some u)(hp:h.objs.size<=a)(hn:H a=none):Un fs ex H (upd H a o) h h' where
 keep:=λb u q _ _ _=>k b u q
 slot:=λb u q _ _ _=>⟨u.slots,k b u q⟩
 free:=λb u q n _=>by rw[j7 (aAi<|aAo (aAf q) hp)];exact n
 there:=λb u q _=>⟨u,k b u q⟩
 tups:=λb xs q=>by rw[j7 (t8 q hn)];exact q
 frzs:=λb u xs q=>by rw[j7 (t8 q hn)];exact q
 tbls:=λb ps q=>by rw[j7 (t8 q hn)];exact q
def Un.write (mu:YO (H x))(he:e=x\/H e=some (.own x))(k:∀b u,b≠e->h.get? b=some u->h'.get? b=some u)(heo:∃u,h'.get? e=some u):Un fs ex H (upd H x o) h h':=by
 have hx:∀b,H b=none->b≠x:=λb n z=>by subst z;rw[n]at mu;exact mu
 have hb:∀b,H b=none->b≠e:=λb n z=>by
  subst z;rcases he with r|r
  ·exact hx b n r
  ·rw[n]at r;cases r
 have hm:∀b u,H b=some u->¬YO (some u)->b≠x:=λb u q nm z=>by subst z;rw[q]at mu;exact nm mu
 refine⟨λb u q n _ _=>k b u (hb b n) q,λb u q n _ _=>⟨u.slots,k b u (hb b n) q⟩,λb u q n _=>by rw[j7 (hx b n)];exact n,λb u q _=>?_,
  λb xs q=>by rw[j7 (hm b _ q λz=>z)];exact q,λb u xs q=>by rw[j7 (hm b _ q λz=>z)];exact q,λb ps q=>by rw[j7 (hm b _ q λz=>z)];exact q⟩
 by_cases yn:b=e
 ·subst yn;exact heo
 ·exact⟨u,k b u yn q⟩
end
def trk (h:Heap)(H:Hp):List Addr:=(aBb h.objs.size).filter λa=>(H a).isSome
def nP (h:Heap)(H:Hp):Heap:=PySem.W.hideAll h (trk h H)
def BH (h:Heap)(H:Hp):(nP h H).objs.size=h.objs.size:=PySem.W.hideAll_size _ _
def GJ (e:h.get? b=some o)(n:H b=none):(nP h H).get? b=some o:=
 PySem.W.hideAll_get _ e λhm=>by have q:(H b).isSome=true:=(aDa.mp hm).2;rw[n]at q;simp at q
def OC (e:(nP h H).get? b=some o):h.get? b=some o/\H b=none:=by
 have e':h.get? b=some o:=PySem.W.of_hideAll (trk h H) e;refine⟨e',?_⟩;cases q:H b with
 |none=>rfl
 |some x=>have hm:b∈trk h H:=aDa.mpr ⟨aBE.mpr (aAf e'),by simp[q]⟩;have z:(nP h H).get? b=none:=PySem.W.hideAll_none (trk h H) hm;rw[z]at e;cases e
def NQ (g h:Heap)(L:Addr):List (Addr×Obj):=(aBb h.objs.size).filterMap λa=>if a=L\/(g.get? a).isSome=true then none else(h.get? a).map λo=>(a,o)
def rest (g h:Heap)(L d:Addr):List (Addr×Obj):=(NQ g h L).filter λp=>decide (p.1≠d)
end L2
namespace L2
open PySem PySem.Spec PyProof.Rows
structure Mod (K:PySem.W.Frag)(mg:V5)(base:Heap):Prop where
 kin:K.In base
 glob:base.Ns mainGlobals mg
 blt:∃mb,base.Ns builtinsNs mb/\∀x:Str,x≠ "__name__"->mb x=bootBuiltins x
 nolimit:base.NoLimit
structure Cx where
 prog:Program
 w:World
 K:PySem.W.Frag
 mg:Str->Option Value
 base:Heap
 A:Around
 N:List Str
 se:Shared
 Ha:Hp
 env:Env
 outer:List Env
 stack:List Env
 ex:List Addr
 fn:Str->Bool
 calm:Bool
 pn:List (Addr×Obj)
 xe:Value->Shared->Prop
def T3 (l:List Env):List Addr:=l.filterMap (·.frame)
abbrev Cx.fs (X:Cx):List Addr:=T3 X.outer
def sD (sc:Scope)(x:Str):Prop:=sc.names.lookup x=some .local\/sc.names.lookup x=some .cell\/sc.names.lookup x=some .free
def Loc (sc:Scope)(x:Str):Prop:=sc.names.lookup x=some .local\/sc.names.lookup x=some .cell
def Look (env:Env)(h:Heap)(m:V5)(x:Str)(u:Value):Prop:=
 (env.kindOf x=some .local/\m x=some u)\/((env.kindOf x=some .cell\/env.kindOf x=some .free)/\∃c,env.cells.lookup x=some c/\h.IsCell c (some u))
structure Cx.Ok (X:Cx):Prop where
 mod:Mod X.K X.mg X.base
 kind:X.env.scope.kind=.function
 glob:X.env.globals=mainGlobals
 blt:X.env.builtins=builtinsNs
 above:X.se.heap.objs.size<=X.env.locals
 inj:∀x y c,X.env.cells.lookup x=some c->X.env.cells.lookup y=some c->x=y
 has:∀x,(X.env.kindOf x=some .cell\/X.env.kindOf x=some .free)->∃c,X.env.cells.lookup x=some c
 cab:∀x c,X.fn x=true->X.env.cells.lookup x=some c->X.se.heap.objs.size<=c
 hd:X.calm=true->X.A.handled=none
 frames:X.A.frames=some X.stack
 stk:X.stack=X.outer\/(X.stack=X.env::X.outer/\X.env.frame=some X.env.locals)
 exf:∀b∈X.ex,b≠X.env.locals/\∀x c,X.env.cells.lookup x=some c->c≠b
 bs:∀b o,X.base.get? b=some o->X.se.heap.get? b=some o/\X.Ha b=none
 bsz:X.base.objs.size<=X.se.heap.objs.size
 noex:∀b o,X.base.get? b=some o->b∉X.ex
 exfs:∀b∈X.ex,b∉X.fs
 funs:X.se.heap.FunFrames X.base X.outer
 frf:∀b∈X.fs,X.Ha b=none
structure Inv (X:Cx)(pins:K7)(σ:List (Option V))(H:Hp)(s:Shared):Prop where
 ok:X.Ok
 os:s.os=X.se.os
 bare:AllBare s.gens
 base:Un X.fs X.ex X.Ha H X.se.heap s.heap
 loc:∃m,s.heap.Ns X.env.locals m/\∀(i:Nat) (x:Str) (v:V),X.N[i]?=some x->σ[i]?=some (some v)->sD X.env.scope x->∃u,RelV v u/\Look X.env s.heap m x u
 cell:∀x c,X.env.cells.lookup x=some c->∃v,s.heap.IsCell c v
 free:H X.env.locals=none
 freeC:∀x c,X.env.cells.lookup x=some c->H c=none
 pin:∀p∈X.pn++pins,s.heap.get? p.1=some p.2/\H p.1=none/\p.1≠X.env.locals/\p.1∉X.fs/\∀v,p.2.data≠.cell v
 hok:W7 X.prog X.w H s.heap
 len:σ.length=X.N.length
section
variable{X:Cx} {pins:K7} {σ:List (Option V)} {H H':Hp} {s:Shared} {h':Heap}
def Cx.Ok.nofr (ok:X.Ok)(e:X.base.get? b=some o):b∉X.fs:=λhb=>by have:=(ok.funs.mem hb).1;rw[e]at this;cases this
def Inv.bs (I:Inv X pins σ H s):∀b o,X.base.get? b=some o->s.heap.get? b=some o/\H b=none:=λb o e=>⟨I.base.keep b o (I.ok.bs b o e).1 (I.ok.bs b o e).2 (I.ok.nofr e) (I.ok.noex b o e),I.base.free b o (I.ok.bs b o e).1 (I.ok.bs b o e).2 (I.ok.noex b o e)⟩
def Inv.bk (I:Inv X pins σ H s):∀b o,X.base.get? b=some o->s.heap.get? b=some o:=λb o e=>(I.bs b o e).1
def Inv.mod (I:Inv X pins σ H s):Mod X.K X.mg X.base:=I.ok.mod
def Inv.kIn (I:Inv X pins σ H s):X.K.In s.heap:=I.ok.mod.kin.keeps I.bk
def Inv.lt (I:Inv X pins σ H s):X.env.locals<s.heap.objs.size:=let⟨_,hn,_⟩:=I.loc;hn.lt
def Inv.sz (I:Inv X pins σ H s):X.se.heap.objs.size<=s.heap.objs.size:=aAx I.ok.above (aCP I.lt)
def Inv.ag1 (I:Inv X pins σ H s)(h:s.heap.objs.size<=a):a∉X.fs:=λhb=>by obtain⟨_,o,ho,_⟩:=I.ok.funs.mem hb;exact absurd (aAo (aAf ho)<|aAx I.sz h) (aAZ _)
def Inv.cne (I:Inv X pins σ H s):∀x c,X.env.cells.lookup x=some c->c≠X.env.locals:=λx c e z=>by obtain⟨v,o,ho,hd⟩:=I.cell x c e;obtain⟨m,⟨o',es,ep,um,og,_⟩,_⟩:=I.loc;rw[z,um]at ho;cases ho;rw[og]at hd;cases hd
def Inv.funs (I:Inv X pins σ H s):s.heap.FunFrames X.base X.outer:=by
 have all:∀(l:List Env),(∀b∈T3 l,b∈X.fs)->X.se.heap.FunFrames X.base l->s.heap.FunFrames X.base l:=by
  intro l;induction l with
  |nil=>intro _ _;trivial
  |cons env r ih=>intro hs hl;obtain⟨hk,⟨L,o,hf,hn,ho,hd⟩,hr⟩:=hl;have hL:L∈X.fs:=hs L (by unfold T3;rw[aBY,hf];exact aAX);obtain⟨sl,e⟩:=I.base.slot L o ho (I.ok.frf L hL) hL λz=>I.ok.exfs L z hL;exact⟨hk,⟨L,_,hf,hn,e,hd⟩,ih (λb hb=>hs b (by unfold T3;rw[aBY,hf];exact aAd _ hb)) hr⟩
 exact all X.outer (λ_ hb=>hb) I.ok.funs
def Inv.stack (I:Inv X pins σ H s):s.heap.FunFrames X.base X.stack:=by
 rcases I.ok.stk with e|⟨e,hf⟩
 ·rw[e];exact I.funs
 ·rw[e];obtain⟨m,hn,_⟩:=I.loc;refine .cons (by rw[I.ok.kind];decide) hf hn ?_ I.funs;exact aEc (aAx I.ok.bsz I.ok.above)
def Inv.ab0 (I:Inv X pins σ H s):∀b∈T3 X.stack,b∈X.env.locals::X.fs:=λb hb=>by
 rcases I.ok.stk with e|⟨e,hf⟩
 ·rw[e]at hb;exact aAd _ hb
 ·rw[e]at hb;unfold T3 at hb;rw[aBY,hf]at hb;exact hb
def Inv.ab8 (I:Inv X pins σ H s):∀b∈T3 X.stack,H b=none:=λb hb=>by
 rcases aAe.mp (I.ab0 b hb)with e|hb
 ·rw[e];exact I.free
 ·obtain⟨_,o,ho,_⟩:=I.ok.funs.mem hb;exact I.base.free b o ho (I.ok.frf b hb) λz=>I.ok.exfs b z hb
def Inv.step {g':Array GenState}{t':Nat}{d':Drawn}{ch:List Addr}(I:Inv X pins σ H s)
  (xu:∀b∈ch,(b∈X.ex\/X.se.heap.objs.size<=b)/\b≠X.env.locals/\(∀x c,X.env.cells.lookup x=some c->c≠b)/\∀p∈X.pn++pins,p.1≠b)
  (keep:∀b o,b≠X.env.locals->b∉X.fs->b∉ch->s.heap.get? b=some o->H b=none->h'.get? b=some o)
  (slot:∀b o,b≠X.env.locals->b∈X.fs->b∉ch->s.heap.get? b=some o->H b=none->∃sl,h'.get? b=some {o with slots:=sl}) (free:∀b o,b∉ch->s.heap.get? b=some o->H b=none->H' b=none)
  (there:∀b o,b∉ch->s.heap.get? b=some o->∃o',h'.get? b=some o')
  (tups:∀b xs,H b=some (.tup xs)->H' b=some (.tup xs)) (frzs:∀b o u,H b=some (.frz o u)->H' b=some (.frz o u)) (tbls:∀b tb,H b=some (.tbl tb)->H' b=some (.tbl tb))
  (ns:∀m,s.heap.Ns X.env.locals m->h'.Ns X.env.locals m) (hok:W7 X.prog X.w H' h') (hg:AllBare g'):
  Inv X pins σ H' {s with heap:=h',gens:=g',drawn:=d',toks:=t'}:=by
 have neL:∀b o,X.se.heap.get? b=some o->b≠X.env.locals:=λb o e=>aAi (aAo (aAf e) I.ok.above);have neC:∀b o,X.se.heap.get? b=some o->b∉X.ex->b∉ch:=λb o e hx hb=>by
  rcases(xu b hb).1 with z|z
  ·exact hx z
  ·exact absurd (aAo (aAf e) z) (aAZ _)
 have cellK:∀x c,X.env.cells.lookup x=some c->∀v,s.heap.IsCell c v->h'.IsCell c v:=λx c e v ⟨o,ho,hd⟩=>by
  have nch:c∉ch:=λz=>(xu c z).2.2.1 x c e rfl;by_cases hc:c∈X.fs
  ·obtain⟨sl,q⟩:=slot c o (I.cne x c e) hc nch ho (I.freeC x c e);exact⟨_,q,hd⟩
  ·exact⟨o,keep c o (I.cne x c e) hc nch ho (I.freeC x c e),hd⟩
 refine⟨I.ok,I.os,hg,⟨λb o e n hb hx=>?_,λb o e n hb hx=>?_,λb o e n hx=>?_,λb o e hx=>?_,λb xs e=>tups b xs (I.base.tups b xs e),λb o xs e=>frzs b o xs (I.base.frzs b o xs e),λb ps e=>?_⟩,?_,λx c e=>?_,?_,λx c e=>?_,λp hp=>?_,hok,I.len⟩
 ·exact keep b o (neL b o e) hb (neC b o e hx) (I.base.keep b o e n hb hx) (I.base.free b o e n hx)
 ·obtain⟨sl,e1⟩:=I.base.slot b o e n hb hx;obtain⟨sl',e2⟩:=slot b _ (neL b o e) hb (neC b o e hx) e1 (I.base.free b o e n hx);exact⟨sl',e2⟩
 ·obtain⟨o',e1⟩:=I.base.there b o e hx;exact free b o' (neC b o e hx) e1 (I.base.free b o e n hx)
 ·obtain⟨o',e1⟩:=I.base.there b o e hx;exact there b o' (neC b o e hx) e1
 ·exact tbls b ps (I.base.tbls b ps e)
 ·obtain⟨m,hn,hl⟩:=I.loc;refine⟨m,ns m hn,λi x v e1 e2 e3=>?_⟩;obtain⟨u,r,l⟩:=hl i x v e1 e2 e3;refine⟨u,r,?_⟩;rcases l with l|⟨k,c,e,z⟩
  ·exact .inl l
  ·exact .inr ⟨k,c,e,cellK x c e _ z⟩
 ·obtain⟨v,z⟩:=I.cell x c e;exact⟨v,cellK x c e v z⟩
 ·obtain⟨m,⟨o,_,_,ho,_⟩,_⟩:=I.loc;exact free _ o (λz=>(xu _ z).2.1 rfl) ho I.free
 ·obtain⟨v,o,ho,hd⟩:=I.cell x c e;exact free c o (λz=>(xu c z).2.2.1 x c e rfl) ho (I.freeC x c e)
 ·obtain⟨e,n,ne,nf,d⟩:=I.pin p hp;have nch:p.1∉ch:=λz=>(xu p.1 z).2.2.2 p hp rfl;exact⟨keep p.1 p.2 ne nf nch e n,free p.1 p.2 nch e n,ne,nf,d⟩
def Inv.un {t':Nat}(I:Inv X pins σ H s)(u:Un X.fs [] H H' s.heap h')(hok:W7 X.prog X.w H' h'):Inv X pins σ H' {s with heap:=h',toks:=t'}:=by
 obtain⟨m,⟨o,es,ep,ho,r⟩,_⟩:=id I.loc;obtain⟨sl,hL⟩:=u.any ho I.free (by simp);exact I.step (g':=s.gens) (d':=s.drawn) (ch:=[]) (λ_ z=>nomatch z) (λb o _ hb _ e n=>u.keep b o e n hb (by simp)) (λb o _ hb _ e n=>u.slot b o e n hb (by simp)) (λb o _ e n=>u.free b o e n (by simp)) (λb o _ e=>u.there b o e (by simp)) u.tups u.frzs u.tbls (λm' hm=>by obtain⟨o',es',ep',um,r'⟩:=hm;rw[ho]at um;cases um;exact⟨_,es',ep',hL,r'⟩) hok I.bare
def Inv.call {g':Array GenState}{t':Nat}{d':Drawn}{ch:List Addr}(I:Inv X pins σ H s)(u:Un (T3 X.stack) ch H H' s.heap h')(hok:W7 X.prog X.w H' h')(hg:AllBare g')
  (xu:∀b∈ch,(b∈X.ex\/X.se.heap.objs.size<=b)/\b≠X.env.locals/\(∀x c,X.env.cells.lookup x=some c->c≠b)/\∀p∈X.pn++pins,p.1≠b):
  Inv X pins σ H' {s with heap:=h',gens:=g',drawn:=d',toks:=t'}:=by
 obtain⟨m,⟨o,es,ep,ho,r⟩,_⟩:=id I.loc;obtain⟨sl,hL⟩:=u.any ho I.free λz=>(xu _ z).2.1 rfl;exact I.step (ch:=ch) xu (λb o hL hb hc e n=>u.keep b o e n (λz=>(aAe.mp<|I.ab0 b z).elim hL hb) hc) (λb o _ _ hc e n=>u.any e n hc) (λb o hc e n=>u.free b o e n hc) (λb o hc e=>u.there b o e hc) u.tups u.frzs u.tbls (λm' hm=>by obtain⟨o',es',ep',um,r'⟩:=hm;rw[ho]at um;cases um;exact⟨_,es',ep',hL,r'⟩) hok hg
def Inv.turned {t':Nat}{it:Addr}(I:Inv X pins σ H s)(k:∀b o,b≠it->s.heap.get? b=some o->h'.get? b=some o)(hn:H it=none)(hL:it≠X.env.locals)
  (h1:it∈X.ex\/X.se.heap.objs.size<=it) (h2:∀x c,X.env.cells.lookup x=some c->c≠it) (h3:∀p∈X.pn++pins,p.1≠it):Inv X pins σ H {s with heap:=h',toks:=t'}:=by
 have nit:∀b u,H b=some u->b≠it:=λb u e z=>by rw[z,hn]at e;cases e
 refine I.step (g':=s.gens) (d':=s.drawn) (ch:=[it]) (λb hb=>?_) (λb o _ _ hc e _=>k b o (λz=>hc (by simp[z])) e) (λb o _ _ hc e _=>⟨o.slots,k b o (λz=>hc (by simp[z])) e⟩) (λ_ _ _ _ n=>n)
  (λb o hc e=>⟨o,k b o (λz=>hc (by simp[z])) e⟩) (λ_ _ e=>e) (λ_ _ _ e=>e) (λ_ _ e=>e) (λm hm=>?_) (λb u e=>?_) I.bare
 ·have e:b=it:=by simpa using hb
  subst e;exact⟨h1,hL,h2,h3⟩
 ·obtain⟨o,es,ep,ho,r⟩:=hm;exact⟨o,es,ep,k _ o (aCm hL) ho,r⟩
 ·refine(I.hok b u e).ab7 (λc v hc q=>k c v ?_ q) (λ_ q=>q) λ_ _ _ q=>q;rcases hc with z|z
  ·rw[z];exact nit b u e
  ·exact nit c _ z
def Inv.tok (I:Inv X pins σ H s)(t:Nat):Inv X pins σ H {s with toks:=t}:=I.un (h':=s.heap) (t':=t) Un.refl I.hok
def Inv.kept (I:Inv X pins σ H s)(k:∀b u,s.heap.get? b=some u->h'.get? b=some u):Inv X pins σ H {s with heap:=h',toks:=t'}:=I.un (Un.kept k) (I.hok.kept k)
def Inv.laid (I:Inv X pins σ H s)(k:∀b u,s.heap.get? b=some u->h'.get? b=some u)(hp:s.heap.objs.size<=a)(new:ObjOk X.prog X.w (upd H a o) h' a o):
 Inv X pins σ (upd H a o) {s with heap:=h',toks:=t'}:=I.un (Un.laid k hp<|I.hok.fresh hp) (I.hok.laid k hp new)
def Inv.write (I:Inv X pins σ H s)(mu:YO (H x))(he:e=x\/H e=some (.own x))(k:∀b u,b≠e->s.heap.get? b=some u->h'.get? b=some u)(heo:∃u,h'.get? e=some u)(new:ObjOk X.prog X.w (upd H x o) h' x o):Inv X pins σ (upd H x o) {s with heap:=h',toks:=t'}:=I.un (Un.write mu he k heo) (I.hok.write mu he k heo new)
def Inv.ad1 (I:Inv X pins σ H s)(h:∀p∈pins',s.heap.get? p.1=some p.2/\H p.1=none/\p.1≠X.env.locals/\p.1∉X.fs/\∀v,p.2.data≠.cell v):Inv X pins' σ H s:=
 ⟨I.ok,I.os,I.bare,I.base,I.loc,I.cell,I.free,I.freeC,λp hp=>(aAS.mp hp).elim (λz=>I.pin p (aBz _ z)) (h p),I.hok,I.len⟩
def lQ {N:List Str}(hN:N.Nodup){i j:Nat}{x:Str}(a:N[i]?=some x)(b:N[j]?=some x):i=j:=by obtain⟨h1,e1⟩:=aAy.mp a;obtain⟨h2,e2⟩:=aAy.mp b;exact(List.getElem_inj hN).mp (e1.trans e2.symm)
def nZ {M:Model}{A:Around}{E:C5}{i:Nat}{x:Str}{v:V}{u:Value}{Q:Unit->Shared->Prop}(I:Inv X pins σ H s)(hN:X.N.Nodup)(hi:X.N[i]?=some x)(hx:Loc X.env.scope x)(r:RelV v u)
  (h:∀s',Inv X pins (σ.set i (some v)) H s'->(∃a,Heap.SameBut a s.heap s'.heap/\(a=X.env.locals\/X.env.cells.lookup x=some a))->Q () s') (hf:X.fn x=true\/X.env.scope.names.lookup x=some .local:=by first|exact .inl rfl|exact .inr rfl|assumption):wpAny M A (storeName X.env x u) Q E s:=by
 obtain⟨m,hn,hl⟩:=id I.loc;have hcls:(X.env.scope.kind==.class||(X.env.scope.kind==.module&&X.env.locals !=X.env.globals))=false:=by rw[I.ok.kind];rfl
 have yo:i<σ.length:=by rw[I.len];exact(aAy.mp hi).1
 have cne:=I.cne;have tracked:∀{a:Addr} {h':Heap},(∃o,s.heap.get? a=some o/\H a=none)->Heap.SameBut a s.heap h'->W7 X.prog X.w H h':=λ{a h'} ha hs b ob e=>by
  obtain⟨_,_,ke⟩:=ha;refine(I.hok b ob e).ab7 (λc w' hc q=>(hs.2 c ?_).trans q) (λ_ q=>q) λ_ _ _ q=>q;rintro rfl;rcases hc with rfl|hc
  ·rw[ke]at e;cases e
  ·rw[ke]at hc;cases hc
 rcases hx with hk|hk
 ·refine wpAny_storeName_local hk hn (λh' hn' hs=>?_) hcls;obtain⟨oL,_,_,hoL,_⟩:=id hn;refine h _ ⟨I.ok,I.os,I.bare,⟨λb o e n hb hx=>?_,λb o e n hb hx=>?_,I.base.free,λb o e hx=>?_,I.base.tups,I.base.frzs,I.base.tbls⟩,⟨_,hn',λj y v' e1 e2 e3=>?_⟩,λy c e=>?_,I.free,I.freeC,λp hp=>?_,tracked ⟨oL,hoL,I.free⟩ hs,by simpa using I.len⟩ ⟨_,hs,.inl rfl⟩
  ·exact(hs.2 b (aAi<|aAo (aAf e) I.ok.above)).trans (I.base.keep b o e n hb hx)
  ·obtain⟨sl,e1⟩:=I.base.slot b o e n hb hx;exact⟨sl,(hs.2 b (aAi<|aAo (aAf e) I.ok.above)).trans e1⟩
  ·obtain⟨o',e1⟩:=I.base.there b o e hx;exact⟨o',(hs.2 b (aAi<|aAo (aAf e) I.ok.above)).trans e1⟩
  ·by_cases hj:j=i
   ·subst hj;rw[hi]at e1;cases e1;rw[aBq yo]at e2;cases e2;exact⟨u,r,.inl ⟨hk,by simp⟩⟩
   ·rw[aCp (aCm hj)]at e2;obtain⟨u',r',q⟩:=hl j y v' e1 e2 e3;refine⟨u',r',?_⟩;rcases q with⟨k,e⟩|⟨k,c,e,z⟩
    ·refine .inl ⟨k,?_⟩;have:y≠x:=λe=>hj (lQ hN e1<|e▸hi);simp[this,e]
    ·exact .inr ⟨k,c,e,z.sameBut hs (cne y c e)⟩
  ·obtain⟨w',z⟩:=I.cell y c e;exact⟨w',z.sameBut hs (cne y c e)⟩
  ·obtain⟨e,n,ne,nf,d⟩:=I.pin p hp;exact⟨(hs.2 p.1 ne).trans e,n,ne,nf,d⟩
 ·have xv:X.fn x=true:=by
   rcases hf with z|z
   ·exact z
   ·rw[z]at hk;cases hk
  obtain⟨c,hc⟩:=I.ok.has x (.inl hk);obtain⟨w',z⟩:=I.cell x c hc;refine wpAny_storeName_cell I.ok.kind hk hc z (λh' hc' hs=>?_);obtain⟨oc,fg,hocd⟩:=id z;refine h {s with heap:=h'} ⟨I.ok,I.os,I.bare,⟨λb o e n hb hx=>?_,λb o e n hb hx=>?_,I.base.free,λb o e hx=>?_,I.base.tups,I.base.frzs,I.base.tbls⟩,⟨m,hn.sameBut hs (aCm<|cne x c hc),λj y v' e1 e2 e3=>?_⟩,λy c' e=>?_,I.free,I.freeC,λp hp=>?_,tracked ⟨oc,fg,I.freeC x c hc⟩ hs,by simpa using I.len⟩ ⟨c,hs,.inr hc⟩
  ·exact(hs.2 b (aAi<|aAo (aAf e)<|I.ok.cab x c xv hc)).trans (I.base.keep b o e n hb hx)
  ·obtain⟨sl,e1⟩:=I.base.slot b o e n hb hx;exact⟨sl,(hs.2 b (aAi<|aAo (aAf e)<|I.ok.cab x c xv hc)).trans e1⟩
  ·obtain⟨o',e1⟩:=I.base.there b o e hx;exact⟨o',(hs.2 b (aAi<|aAo (aAf e)<|I.ok.cab x c xv hc)).trans e1⟩
  ·by_cases hj:j=i
   ·subst hj;rw[hi]at e1;cases e1;rw[aBq yo]at e2;cases e2;exact⟨u,r,.inr ⟨.inl hk,c,hc,hc'⟩⟩
   ·rw[aCp (aCm hj)]at e2;obtain⟨u',r',q⟩:=hl j y v' e1 e2 e3;refine⟨u',r',?_⟩;rcases q with q|⟨k,c',e,z'⟩
    ·exact .inl q
    ·refine .inr ⟨k,c',e,z'.sameBut hs ?_⟩;rintro rfl;exact hj (lQ hN e1<|I.ok.inj _ _ _ e hc▸hi)
  ·by_cases hcc:c'=c
   ·subst hcc;exact⟨_,hc'⟩
   ·obtain⟨w2,z2⟩:=I.cell y c' e;exact⟨w2,z2.sameBut hs hcc⟩
  ·obtain⟨e,n,ne,nf,d⟩:=I.pin p hp;refine⟨(hs.2 p.1 ?_).trans e,n,ne,nf,d⟩;intro q;rw[q,fg]at e;have q':oc=p.2:=aAj e;exact d w' (by rw[<-q'];exact hocd)
def S7 {E:C5}{Q:Unit->Shared->Prop}(I:Inv X pins σ H s)(hN:X.N.Nodup)(hi:X.N[i]?=some x)(hx:Loc X.env.scope x)(r:RelV v u)(h:∀s',Inv X pins (σ.set i (some v)) H s'->Q () s')(hf:X.fn x=true\/X.env.scope.names.lookup x=some .local:=by first|exact .inl rfl|exact .inr rfl|assumption):wpAny M A (storeName X.env x u) Q E s:=
 nZ I hN hi hx r (λs' I' _=>h s' I') hf
def Inv.ae8 (I:Inv X pins σ H s)(ho:s'.os=s.os)(u:Un (T3 X.stack) ch H H' s.heap s'.heap)(hok:W7 X.prog X.w H' s'.heap)(hg:AllBare s'.gens)(xu:∀b∈ch,(b∈X.ex\/X.se.heap.objs.size<=b)/\b≠X.env.locals/\(∀x c,X.env.cells.lookup x=some c->c≠b)/\∀p∈X.pn++pins,p.1≠b):Inv X pins σ H' s':=by obtain⟨h',g',d',t',o'⟩:=s';have e:o'=s.os:=ho;subst e;exact I.call (g':=g') (t':=t') (d':=d') u hok hg xu
end
abbrev XK:=Value->Option Addr->Hp->Prop
abbrev St:=List (Option V)
abbrev VK:=V->Hp->Prop
abbrev TE:=St->Hp->VK->Prop
abbrev TT:=St->Hp->(Bool->Hp->Prop)->Prop
abbrev TA:=St->Hp->(List V->Hp->Prop)->Prop
structure Ends where
 nx:St->Hp->Prop
 rt:VK
 bk:St->Hp->Prop:=λ_ _=>False
 ct:St->Hp->Prop:=λ_ _=>False
abbrev TS:=Ends->St->Hp->Prop
def EP (X:Cx)(pins:K7)(σ:St)(Q:VK)(u:Value)(s':Shared):Prop:=∃v H',Inv X pins σ H' s'/\RelV v u/\Q v H'
def TP (X:Cx)(pins:K7)(σ:St)(Q:Bool->Hp->Prop)(b:Bool)(s':Shared):Prop:=∃H',Inv X pins σ H' s'/\Q b H'
def AP (X:Cx)(pins:K7)(σ:St)(Q:List V->Hp->Prop)(us:List Value)(s':Shared):Prop:=∃vs H',Inv X pins σ H' s'/\m6 vs us/\Q vs H'
def SP (X:Cx)(pins:K7)(D:Ends)(f:Flow)(s':Shared):Prop:=
 match f with
 |.next=>∃ai H',Inv X pins ai H' s'/\D.nx ai H'
 |.brk=>∃ai H',Inv X pins ai H' s'/\D.bk ai H'
 |.cont=>∃ai H',Inv X pins ai H' s'/\D.ct ai H'
 |.ret u=>∃v ai H',Inv X pins ai H' s'/\RelV v u/\D.rt v H'
def PE (X:Cx)(e:Expr)(t:TE):Prop:=
 ∀(pins:K7) (s:Shared) (σ:St) (H:Hp) (Q:VK),Inv X pins σ H s->t σ H Q->wpAny (model X.prog X.w) X.A (eval e X.env) (EP X pins σ Q) X.xe s
def PT (X:Cx)(e:Expr)(t:TT):Prop:=
 ∀(pins:K7) (s:Shared) (σ:St) (H:Hp) (Q:Bool->Hp->Prop),Inv X pins σ H s->t σ H Q->wpAny (model X.prog X.w) X.A (isTrue e X.env<|eval e X.env) (TP X pins σ Q) X.xe s
def PW (X:Cx)(e:Expr)(t:TT):Prop:=
 ∀(whole:Sem Value) (pins:K7) (s:Shared) (σ:St) (H:Hp) (Q:Bool->Hp->Prop),Inv X pins σ H s->t σ H Q->wpAny (model X.prog X.w) X.A (isTrue e X.env whole) (TP X pins σ Q) X.xe s
def PW.pt (h:PW X e t):PT X e t:=h _
def PA (X:Cx)(es:List Expr)(t:TA):Prop:=
 ∀(pos:Pos) (pins:K7) (s:Shared) (σ:St) (H:Hp) (Q:List V->Hp->Prop),Inv X pins σ H s->t σ H Q->wpAny (model X.prog X.w) X.A (spliced<|backTo pos<|starEach es X.env) (AP X pins σ Q) X.xe s
def PS (X:Cx)(st:Stmt)(t:TS):Prop:=
 ∀(pins:K7) (s:Shared) (σ:St) (H:Hp) (D:Ends),Inv X pins σ H s->t D σ H->wpAny (model X.prog X.w) X.A (exec st X.env) (SP X pins D) X.xe s
def qT (X:Cx)(st:List Stmt)(t:TS):Prop:=
 ∀(pins:K7) (s:Shared) (σ:St) (H:Hp) (D:Ends),Inv X pins σ H s->t D σ H->wpAny (model X.prog X.w) X.A (execs st X.env) (SP X pins D) X.xe s
def C4 {α:Type}{t:Sem α}{Q Q':α->Shared->Prop}{M:Model}{A:Around}{E:C5}{s:Shared}(h:wpAny M A t Q E s)(hQ:∀a s,Q a s->Q' a s):wpAny M A t Q' E s:=aBw h hQ λ_ _ x=>x
end L2
namespace L2
open PySem PySem.Spec PyProof.Rows
section
variable{X:Cx}
def VA (i:Nat):TE:=λσ H Q=>∃v,σ[i]?=some (some v)/\Q v H
def tC (v:V):TE:=λ_ H Q=>Q v H
def O7 (hN:X.N[i]?=some x)(hv:sD X.env.scope x)(hd:(x==("__debug__":Str))=false:=by decide)(gc:(x==("__classdict__":Str))=false:=by decide):PE X (.Name x pos) (VA i):=by
 intro pins s σ H Q I h;obtain⟨v,e,h⟩:=h;obtain⟨m,hn,hl⟩:=I.loc;obtain⟨u,r,l⟩:=hl i x v hN e hv;have fin:EP X pins σ Q u s:=⟨v,H,I,r,h⟩;rcases l with⟨hk,hm⟩|⟨hk,c,hc,jd⟩
 ·exact wpAny_Name (wpAny_loadName_local I.ok.kind hk hn hm fin) hd
 ·rcases hk with hk|hk
  ·exact wpAny_Name (wpAny_loadName_cell I.ok.kind hk hc jd fin) hd
  ·exact wpAny_Name (wpAny_loadName_free I.ok.kind hk hc jd fin gc) hd
def QU {i j pos}:PE X (.Constant (.int i) j pos) (tC (.int i)):=λ_ _ _ H _ I h=>wpAny_Constant_int ⟨.int i,H,I.tok _,⟨_,rfl⟩,h⟩
def WW {b j pos}:PE X (.Constant (.bool b) j pos) (tC (.bl b)):=λ_ _ _ H _ I h=>Constant_bool ⟨.bl b,H,I,rfl,h⟩
def TX {j pos}:PE X (.Constant .none j pos) (tC .non):=λ_ _ _ H _ I h=>Constant_none ⟨.non,H,I,rfl,h⟩
def QQ {x j pos}:PE X (.Constant (.str x) j pos) (tC (.str x)):=λ_ _ _ H _ I h=>Calls.Constant_str ⟨.str x,H,I.tok _,⟨_,rfl⟩,h⟩
def Gl (X:Cx)(x:Str):Prop:=X.env.kindOf x=some .globalImplicit
def Z7 {E:C5}{Q:C5}(I:Inv X pins σ H s)(hg:Gl X x)(hm:X.mg x=some u)(h:Q u s)(hd:(x==("__debug__":Str))=false:=by decide):wpAny (model X.prog X.w) X.A (eval (.Name x pos) X.env) Q E s:=
 Calls.Name_function_global I.ok.kind hg (Calls.loadGlobal_global (by rw[I.ok.glob];exact I.mod.glob.keeps I.bk) hm h) hd
def P3 {E:C5}{Q:C5}(I:Inv X pins σ H s)(hg:Gl X x)(hm:X.mg x=none)(hv:bootBuiltins x=some u)(h:Q u s)(hn:x≠ "__name__":=by decide)(hd:(x==("__debug__":Str))=false:=by decide):wpAny (model X.prog X.w) X.A (eval (.Name x pos) X.env) Q E s:=by obtain⟨mb,h1,h2⟩:=I.mod.blt;exact Calls.Name_function_global I.ok.kind hg (Calls.loadGlobal_builtin (by rw[I.ok.glob];exact I.mod.glob.keeps I.bk) hm (by rw[I.ok.blt];exact h1.keeps I.bk) ((h2 x hn).trans hv) h) hd
def AE (hg:Gl X x)(hm:X.mg x=some u)(r:RelV v u)(hd:(x==("__debug__":Str))=false:=by decide):PE X (.Name x pos) (tC v):=
 λ_ _ _ H _ I h=>Z7 I hg hm ⟨v,H,I,r,h⟩ hd
def OA (hg:Gl X x)(hm:X.mg x=none)(hv:bootBuiltins x=some u)(r:RelV v u)(hn:x≠ "__name__":=by decide)(hd:(x==("__debug__":Str))=false:=by decide):PE X (.Name x pos) (tC v):=
 λ_ _ _ H _ I h=>P3 I hg hm hv ⟨v,H,I,r,h⟩ hn hd
variable{a b:Expr} {ta tb:TE} {pos:Pos}
def tB (t:TE):TT:=λσ H Q=>t σ H λx H1=>∃c,x=.bl c/\Q c H1
def QW {e:Expr}{t:TE}(h:PE X e t)(he:∀whole,isTrue e X.env whole=(do let v<-whole;standAt e.pos;holding [v] (truthy v)):=by intro _;rfl):PT X e (tB t):=by intro pins s σ H Q I hw;refine isTrue_plain (C4 (h pins s σ H _ I hw) λv s1 ⟨x,H1,I1,r1,q1⟩=>?_) (he _);obtain⟨d,rfl,q⟩:=q1;cases r1;exact aBM ⟨H1,I1,q⟩
variable{tA tB':TT} {rest:List Expr}
def gw (t u:TT):TT:=λσ H Q=>t σ H λc H1=>if c=true then u σ H1 Q else Q false H1
def uz (t u:TT):TT:=λσ H Q=>t σ H λc H1=>if c=true then Q true H1 else u σ H1 Q
def ck (t:TT):TT:=λσ H Q=>t σ H λc H1=>Q (!c) H1
def NL (ha:PT X a tA):PW X (.BoolOp .And [a] pos) tA:=by
 intro wh pins s σ H Q I h;refine isTrue_and (C4 (ha pins s σ H Q I h) λc s1 e=>?_);cases c with
 |true=>exact isTrue_and_nil e
 |false=>exact e
def SJ (ha:PT X a tA):PW X (.BoolOp .Or [a] pos) tA:=by
 intro wh pins s σ H Q I h;refine isTrue_or (C4 (ha pins s σ H Q I h) λc s1 e=>?_);cases c with
 |false=>exact isTrue_or_nil e
 |true=>exact e
def QE (ha:PT X a tA)(hb:PW X (.BoolOp .And (b::rest) pos) tB'):PW X (.BoolOp .And (a::b::rest) pos) (gw tA tB'):=by
 intro wh pins s σ H Q I h;refine isTrue_and (C4 (ha pins s σ H _ I h) λc s1 ⟨H1,I1,q1⟩=>?_);cases c with
 |true=>exact hb wh pins s1 σ H1 Q I1 q1
 |false=>exact⟨H1,I1,q1⟩
def UY (ha:PT X a tA)(hb:PW X (.BoolOp .Or (b::rest) pos) tB'):PW X (.BoolOp .Or (a::b::rest) pos) (uz tA tB'):=by
 intro wh pins s σ H Q I h;refine isTrue_or (C4 (ha pins s σ H _ I h) λc s1 ⟨H1,I1,q1⟩=>?_);cases c with
 |true=>exact⟨H1,I1,q1⟩
 |false=>exact hb wh pins s1 σ H1 Q I1 q1
def UD (ha:PT X a tA):PT X (.UnaryOp .Not a pos) (ck tA):=by intro pins s σ H Q I h;exact isTrue_not (ha pins s σ H (λc H1=>Q (!c) H1) I h)
end
end L2
namespace L2
open PySem PySem.Spec PyProof.Rows
def N1 (K:PySem.W.Frag)(H:Hp)(a:Addr)(xs:List V):Prop:=
 Rd H a (.lst xs)\/
  ∃(o:Obj) (its:Array Value) (n:Nat),K.lookup a=some o/\o.cls=.type "list"/\o.dict=none/\o.data=.seq its n/\its.size<=sizeLine/\m6 xs its.toList
def V9 (K:PySem.W.Frag)(H:Hp)(a:Addr)(xs:List V):Prop:=
 Rd H a (.tup xs)\/
  ∃(o:Obj) (its:Array Value) (n:Nat),K.lookup a=some o/\o.cls=.type "tuple"/\o.data=.seq its n/\its.size<=sizeLine/\m6 xs its.toList
def ZQ:Value->Option V
 |.none=>some .non
 |.bool b=>some (.bl b)
 |.int i _=>some (.int i)
 |.str x _=>some (.str x)
 |.bytes b _=>some (.byt b)
 |.float b _=>some (.flt b)
 |.ref a=>some (.ref a)
 |.type n=>some (.ty n)
 |_=>none
def RelV.abs (r:RelV x u):ZQ u=some x:=by
 cases x with
 |non=>cases r;rfl
 |bl _=>cases r;rfl
 |int _=>obtain⟨t,rfl⟩:=r;rfl
 |str _=>obtain⟨t,rfl⟩:=r;rfl
 |byt _=>obtain⟨t,rfl⟩:=r;rfl
 |flt _=>obtain⟨t,rfl⟩:=r;rfl
 |ref _=>cases r;rfl
 |ty _=>cases r;rfl
def RelV.inj {x y:V}{u:Value}(r:RelV x u)(q:RelV y u):x=y:=aAj (r.abs.symm.trans q.abs)
theorem m6.inj:∀{xs ys:List V} {us:List Value},m6 xs us->m6 ys us->xs=ys
 |_,_,_,.nil,.nil=>rfl
 |_,_,_,.cons r t,.cons r' t'=>by rw[r.inj r',m6.inj t t']
section
variable{X:Cx} {pins:K7} {σ:St} {H:Hp} {s:Shared} {a:Addr} {xs ys:List V}
def N1.of {K:PySem.W.Frag}(h:H a=some (.lst xs)):N1 K H a xs:=.inl (.inl h)
def V9.of {K:PySem.W.Frag}(h:H a=some (.tup xs)):V9 K H a xs:=.inl (.inl h)
def Inv.list (I:Inv X pins σ H s)(h:N1 X.K H a xs):∃its:List Value,m6 xs its/\PlainL s.heap a its.toArray/\xs.length<=sizeLine:=by
 rcases h with h|⟨o,its,n,hk,hc,hd,hs,hz,r⟩
 ·obtain⟨z,its,n,r,e⟩:=h.ok I.hok;exact⟨its,r,⟨_,n,e,rfl,rfl,rfl⟩,z⟩
 ·refine⟨its.toList,r,⟨o,n,I.kIn a o hk,hc,hd,by simpa using hs⟩,?_⟩;have e:=r.length;simp only[aAU]at e
  lia
def Inv.tuple (I:Inv X pins σ H s)(h:V9 X.K H a xs):∃its:List Value,m6 xs its/\IsTup s.heap a its.toArray/\xs.length<=sizeLine:=by
 rcases h with h|⟨o,its,n,hk,hc,hs,hz,r⟩
 ·obtain⟨z,its,r,p⟩:=h.ok I.hok;exact⟨its,r,p,z⟩
 ·refine⟨its.toList,r,⟨o,I.kIn a o hk,hc,n,by simpa using hs⟩,?_⟩;have e:=r.length;simp only[aAU]at e
  lia
def Inv.ac0 (I:Inv X pins σ H s)(h:N1 X.K H a xs)(h':N1 X.K H a ys):xs=ys:=by
 obtain⟨its,r,⟨o,n,e,_,_,d⟩,_⟩:=I.list h;obtain⟨its',r',⟨o',n',e',_,_,d'⟩,_⟩:=I.list h';rw[e]at e';cases e';rw[d]at d';injection d' with d1 _;have:its=its':=by simpa using congrArg aFo d1
 subst this;exact r.inj r'
def Inv.ab5 (I:Inv X pins σ H s)(h:V9 X.K H a xs)(h':V9 X.K H a ys):xs=ys:=by
 obtain⟨its,r,⟨o,e,_,n,d⟩,_⟩:=I.tuple h;obtain⟨its',r',⟨o',e',_,n',d'⟩,_⟩:=I.tuple h';rw[e]at e';cases e';rw[d]at d';injection d' with d1 _;have:its=its':=by simpa using congrArg aFo d1
 subst this;exact r.inj r'
end
abbrev Cx.aa9 (X:Cx)(E:C5):Cx:={X with xe:=E}
abbrev Cx.nox (X:Cx):Cx:=X.aa9 λ_ _=>False
def Cx.Ok.aa9 {X:Cx}(ok:X.Ok)(E:C5):(X.aa9 E).Ok:=
 ⟨ok.mod,ok.kind,ok.glob,ok.blt,ok.above,ok.inj,ok.has,ok.cab,ok.hd,ok.frames,ok.stk,ok.exf,ok.bs,ok.bsz,ok.noex,ok.exfs,ok.funs,ok.frf⟩
def Cx.Ok.aa3 {X:Cx}{E:C5}(ok:(X.aa9 E).Ok):X.Ok:=
 ⟨ok.mod,ok.kind,ok.glob,ok.blt,ok.above,ok.inj,ok.has,ok.cab,ok.hd,ok.frames,ok.stk,ok.exf,ok.bs,ok.bsz,ok.noex,ok.exfs,ok.funs,ok.frf⟩
section
variable{X:Cx} {pins:K7} {σ:St} {H:Hp} {s:Shared} {E:C5}
def Inv.aa9 (I:Inv X pins σ H s)(E:C5):Inv (X.aa9 E) pins σ H s:=⟨I.ok.aa9 E,I.os,I.bare,I.base,I.loc,I.cell,I.free,I.freeC,I.pin,I.hok,I.len⟩
def Inv.aa3 (I:Inv (X.aa9 E) pins σ H s):Inv X pins σ H s:=⟨I.ok.aa3,I.os,I.bare,I.base,I.loc,I.cell,I.free,I.freeC,I.pin,I.hok,I.len⟩
def SP.aa3 (h:SP (X.aa9 E) pins D f s'):SP X pins D f s':=by
 cases f with
 |next=>obtain⟨ai,H',I,q⟩:=h;exact⟨ai,H',I.aa3,q⟩
 |brk=>obtain⟨ai,H',I,q⟩:=h;exact⟨ai,H',I.aa3,q⟩
 |cont=>obtain⟨ai,H',I,q⟩:=h;exact⟨ai,H',I.aa3,q⟩
 |ret u=>obtain⟨v,ai,H',I,r,q⟩:=h;exact⟨v,ai,H',I.aa3,r,q⟩
def qT.nox {st:List Stmt}{t:TS}(h:qT X.nox st t):qT X st t:=λpins s σ H D I hw=>aBw (h pins s σ H D (I.aa9 _) hw) (λ_ _ q=>q.aa3) λ_ _ z=>aAh z
end
section
variable{X:Cx} {st:Stmt} {rest:List Stmt} {t u:TS} {e:Expr} {te:TE} {pos:Pos}
def WH:TS:=λD σ H=>D.nx σ H
def ZE (t u:TS):TS:=λD σ H=>t {D with nx:=u D} σ H
def LS:qT X [] WH:=λ_ _ σ H _ I h=>aDA ⟨σ,H,I,h⟩
def HR (h1:PS X st t)(h2:qT X rest u):qT X (st::rest) (ZE t u):=by
 intro pins s σ H D I h;refine aCA (C4 (h1 pins s σ H {D with nx:=u D} I h) λf s1 q=>?_);cases f with
 |next=>obtain⟨ai,H',I',q⟩:=q;exact h2 pins s1 ai H' D I' q
 |ret v=>exact q
 |brk=>exact q
 |cont=>exact q
def zV (h1:PS X st t):qT X [st] t:=by
 intro pins s σ H D I h;refine aCA (C4 (h1 pins s σ H D I h) λf s1 q=>?_);cases f with
 |next=>exact aDA q
 |ret v=>exact q
 |brk=>exact q
 |cont=>exact q
def Inv.quiet (I:Inv X pins σ H s):interactive X.env=false:=by simp[interactive,I.ok.kind]
def WZ (te:TE):TS:=λD σ H=>te σ H λ_ H1=>D.nx σ H1
def kC (he:PE X e te)(hs:swapsWith e none pos.line X.env=pure false:=by rfl):PS X (.Expr e pos) (WZ te):=by intro pins s σ H D I h;exact aFK (C4 (he pins s σ H _ I h) λv s1 ⟨x,H1,I1,r1,q1⟩=>⟨σ,H1,I1,q1⟩) I.quiet hs
def YU (te:TE):TS:=λD σ H=>te σ H D.rt
def GL (he:PE X e te):PS X (.Return (some e) pos) (YU te):=by intro pins s σ H D I h;exact wpAny_Return_some (C4 (he pins s σ H _ I h) λv s1 ⟨x,H1,I1,r1,q1⟩=>⟨x,σ,H1,I1,r1,q1⟩)
def YS (c:TT)(t u:TS):TS:=λD σ H=>c σ H λb H1=>if b=true then t D σ H1 else u D σ H1
def XA {c:Expr}{a b:List Stmt}{tc:TT}(hc:PT X c tc)(ha:qT X a t)(hb:qT X b u):PS X (.If c a b pos) (YS tc t u):=by
 intro pins s σ H D I h;refine wpAny_If (C4 (hc pins s σ H _ I h) λd s1 ⟨H1,I1,q1⟩=>?_);cases d with
 |true=>exact ha pins s1 σ H1 D I1 q1
 |false=>exact hb pins s1 σ H1 D I1 q1
def RG:TS:=λ_ _ _=>False
def EN:PS X st RG:=λ_ _ _ _ _ _ h=>h.elim
end
abbrev TG:=V->St->Hp->(St->Hp->Prop)->Prop
abbrev SX:=List V->St->Hp->(St->Hp->Prop)->Prop
def PG (X:Cx)(target:Expr)(t:TG):Prop:=
 ∀(pins:K7) (s:Shared) (σ:St) (H:Hp) (v:V) (u:Value) (Q:St->Hp->Prop),Inv X pins σ H s->RelV v u->t v σ H Q->
  wpAny (model X.prog X.w) X.A (assign target X.env u) (λ_ s'=>∃ai H',Inv X pins ai H' s'/\Q ai H') X.xe s
def UN (X:Cx)(ts:List Expr)(t:SX):Prop:=
 ∀(pins:K7) (s:Shared) (σ:St) (H:Hp) (vs:List V) (us:List Value) (Q:St->Hp->Prop),Inv X pins σ H s->m6 vs us->t vs σ H Q->
  wpAny (model X.prog X.w) X.A (assignInOrder ((assignEach ts X.env).map (·.2)) us) (λ_ s'=>∃ai H',Inv X pins ai H' s'/\Q ai H') X.xe s
abbrev MB:=V->V->V->Hp->(Hp->Prop)->Prop
def WE (X:Cx)(t:MB):Prop:=
 ∀(pins:K7) (s:Shared) (σ:St) (H:Hp) (o i v:V) (ov iv u:Value) (Q:Hp->Prop),Inv X pins σ H s->RelV o ov->RelV i iv->RelV v u->t o i v H Q->
  wpAny (model X.prog X.w) X.A (setItem ov iv u) (λ_ s'=>∃H',Inv X pins σ H' s'/\Q H') X.xe s
section
variable{X:Cx} {pos:Pos}
def PU (i:Nat):TG:=λv σ H Q=>Q (σ.set i<|some v) H
def LN (hN:X.N.Nodup)(hi:X.N[i]?=some x)(hx:Loc X.env.scope x)(hf:X.fn x=true\/X.env.scope.names.lookup x=some .local:=by first|exact .inl rfl|exact .inr rfl|assumption):PG X (.Name x pos) (PU i):=by intro pins s σ H v u Q I r h;exact wpAny_assign_Name (S7 I hN hi hx r (λs' I'=>⟨_,H,I',h⟩) hf)
def bj:SX:=λvs σ H Q=>vs=[]/\Q σ H
def WY (t:TG)(u:SX):SX:=λvs σ H Q=>∃v r,vs=v::r/\t v σ H λai H'=>u r ai H' Q
def LD:UN X [] bj:=by intro pins s σ H vs us Q I r h;obtain⟨e,h⟩:=h;subst e;cases r;exact assignInOrder_nil ⟨σ,H,I,h⟩
def JZ {e:Expr}{es:List Expr}{t:TG}{u:SX}(h1:PG X e t)(h2:UN X es u)
  (hs:(assignEach (e::es) X.env).map (·.2)=assign e X.env::(assignEach es X.env).map (·.2):=by rfl):UN X (e::es) (WY t u):=by
 intro pins s σ H vs us Q I r h;obtain⟨v,vr,e1,h⟩:=h;subst e1;cases r with
 |cons r rr=>rw[hs];refine assignInOrder_cons (C4 (h1 pins s σ H _ _ _ I r h) λ_ s1 ⟨σ1,H1,I1,q1⟩=>?_);exact h2 pins s1 σ1 H1 _ _ Q I1 rr q1
def ZV (to ti:TE)(t:MB):TG:=λv σ H Q=>to σ H λo H1=>ti σ H1 λi H2=>t o i v H2 λH3=>Q σ H3
def SB {o i:Expr}{to ti:TE}{t:MB}(ho:PE X o to)(hi:PE X i ti)(hs:WE X t)
  (ha:∀v,assign (.Subscript o i pos) X.env v=(do
   let ov<-holding [v] (eval o X.env)
   let iv<-holding [v,ov] (eval i X.env)
   standAt pos
   holding [v,ov,iv] (setItem ov iv v)
   release [v,ov,iv] []):=by intro _;rfl):PG X (.Subscript o i pos) (ZV to ti t):=by
 intro pins s σ H v u Q I r h;rw[ha];refine aAa (aAJ<|C4 (ho pins s σ H _ I h) λov s1 ⟨x,H1,I1,r1,q1⟩=>?_);refine aAa (aAJ<|C4 (hi pins s1 σ H1 _ I1 q1) λiv s2 ⟨y,H2,I2,r2,q2⟩=>?_);refine aAa (aEX<|aAa<|aAJ<|C4 (hs pins s2 σ H2 x y v ov iv u _ I2 r1 r2 r q2) λ_ s3 ⟨H3,I3,q3⟩=>?_);exact wpAny_release ⟨σ,H3,I3,q3⟩
def UW (te:TE)(g:TG):TS:=λD σ H=>te σ H λx H1=>g x σ H1 D.nx
def HE {tg e:Expr}{te:TE}{g:TG}(he:PE X e te)(hg:PG X tg g)(hs:swapsWithSole [tg] e pos.line X.env=pure false:=by rfl)(hw:swappedStores [tg] e X.env=pure none:=by rfl)
  (h1:(assignEach [tg] X.env).map (·.2)=[assign tg X.env]:=by rfl):PS X (.Assign [tg] e pos) (UW te g):=by
 intro pins s σ H D I h;refine wpAny_Assign_stores (C4 (he pins s σ H _ I h) λv s1 ⟨x,H1,I1,r1,q1⟩=>?_) hs hw;rw[h1];exact C4 (hg pins s1 σ H1 x v _ I1 r1 q1) λ_ s2 q=>q
def EO {i:Nat}{x:Str}{e:Expr}{te:TE}{pos':Pos}(hN:X.N.Nodup)(hi:X.N[i]?=some x)(hx:Loc X.env.scope x)(he:PE X e te)(hs:swapsWith e (some (.Name x pos')) pos.line X.env=pure false:=by rfl)(hf:X.fn x=true\/X.env.scope.names.lookup x=some .local:=by first|exact .inl rfl|exact .inr rfl|assumption):
  PS X (.Assign [.Name x pos'] e pos) (UW te (PU i)):=by
 intro pins s σ H D I h;refine aEM (C4 (he pins s σ H _ I h) λv s1 ⟨y,H1,I1,r1,q1⟩=>?_) hs;exact S7 I1 hN hi hx r1 (λs2 I2=>⟨_,H1,I2,q1⟩) hf
end
section
variable{X:Cx} {pos:Pos}
def RT (c:TT)(tb:TS):TS:=λD σ H=>∃W:Nat->St->Hp->Prop,(∃m,W m σ H)/\∀m σ H,W m σ H->
 c σ H λb H1=>if b=true then∃N:St->Hp->Prop,(∀ai H',N ai H'->∃m',m'<m/\W m' ai H')/\tb {D with nx:=N,ct:=N,bk:=D.nx} σ H1 else D.nx σ H1
def FQ {c:Expr}{body:List Stmt}{tc:TT}{tb:TS}(hp:PassesOwn (model X.prog X.w) X.A X.env X.xe)(hc:PT X c tc)(hb:qT X body tb):PS X (.While c body [] pos) (RT tc tb):=by
 intro pins s σ H D I h;obtain⟨W,⟨m0,w0⟩,turn⟩:=h;refine wpAny_While (codeAny_whileLoop (λn s'=>∃ai H',Inv X pins ai H' s'/\W n ai H') ?_ m0 ⟨σ,H,I,w0⟩);rintro n s1 ⟨σ1,H1,I1,w1⟩;refine aCK hp (C4 (hc pins s1 σ1 H1 _ I1<|turn n σ1 H1 w1) λb s2 ⟨H2,I2,q2⟩=>?_);cases b with
 |true=>
  obtain⟨N,hN,q2⟩:=q2;rw[if_pos rfl];refine aCK hp (C4 (hb pins s2 σ1 H2 _ I2 q2) λf s3 q3=>?_);cases f with
  |next=>obtain⟨qi,H3,I3,n3⟩:=q3;obtain⟨m',hm,w3⟩:=hN qi H3 n3;exact⟨m',hm,qi,H3,I3,w3⟩
  |cont=>obtain⟨qi,H3,I3,n3⟩:=q3;obtain⟨m',hm,w3⟩:=hN qi H3 n3;exact⟨m',hm,qi,H3,I3,w3⟩
  |brk=>exact q3
  |ret v=>exact q3
 |false=>rw[if_neg aAL];exact aDA ⟨σ1,H2,I2,q2⟩
end
structure It where
 go:Nat->Hp->Prop
 yld:Nat->Hp->V->Hp->Prop
 stop:Nat->Hp->Prop
def nC (X:Cx)(pins:K7)(H:Hp)(b:Addr):Prop:=
 H b=none/\b≠X.env.locals/\b∉X.fs/\(b∈X.ex\/X.se.heap.objs.size<=b)/\(∀x c,X.env.cells.lookup x=some c->c≠b)/\∀p∈X.pn++pins,p.1≠b
def Inv.af4 (I:Inv X pins σ H s)(hb:s.heap.objs.size<=b)(hn:H' b=none):nC X pins H' b:=by
 refine⟨hn,aDb (aAo I.lt hb),I.ag1 hb,.inr (aAx I.sz hb),λx c e z=>?_,λp hp z=>?_⟩
 ·obtain⟨v,q⟩:=I.cell x c e;exact absurd (aAo q.lt (by rw[z];exact hb)) (aAZ _)
 ·exact absurd (aAo (aAf (I.pin p hp).1) (by rw[z];exact hb)) (aAZ _)
structure Turn (P:Program)(w:World)(K:PySem.W.Frag)(tg:Expr)(J:It)(fp:List Addr)(it:Addr)(tn:Nat->Heap->Prop):Prop where
 mem:it∈fp
 obj:∀i h,tn i h->∀b∈fp,∃o,h.get? b=some o/\∀v,o.data≠.cell v
 keep:∀i h h',tn i h->(∀b∈fp,∀o,h.get? b=some o->h'.get? b=some o)->tn i h'
 item:∀(X:Cx),X.prog=P->X.w=w->X.K=K->X.calm=true->∀(i:Nat) (pins:K7) (s:Shared) (σ:St) (H:Hp) (E:C5),Inv X pins σ H s->(∀b∈fp,nC X pins H b)->tn i s.heap->J.go i H->
  wpAny (model P w) X.A (pyNext (.ref it)) (λr s1=>∃u,r=some u/\
   wpAny (model P w) X.A (letOwnedTupleGo tg (.ref it) u) (λ_ s2=>∃x H',Inv X pins σ H' s2/\RelV x u/\J.yld i H x H'/\tn (i+1) s2.heap/\∀b∈fp,H' b=none) E s1) E s
 done:∀(X:Cx),X.prog=P->X.w=w->X.K=K->X.calm=true->∀(i:Nat) (pins:K7) (s:Shared) (σ:St) (H:Hp) (E:C5),Inv X pins σ H s->(∀b∈fp,nC X pins H b)->tn i s.heap->J.stop i H->
  wpAny (model P w) X.A (pyNext (.ref it)) (λr s1=>r=none/\Inv X pins σ H s1) E s
 self:∀(A:Around) (i:Nat) (s:Shared) (Q:C5) (E:C5),tn i s.heap->Q (.ref it) s->wpAny (model P w) A (pyIter (.ref it)) Q E s
abbrev TI:=St->Hp->(It->Hp->Prop)->Prop
def bq (X:Cx)(pins:K7)(σ:St)(tg:Expr)(R:It->Hp->Prop)(itv:Value)(s2:Shared):Prop:=
 ∃(it:Addr) (fp:List Addr) (tn:Nat->Heap->Prop) (J:It) (H':Hp),itv=.ref it/\Inv X pins σ H' s2/\Turn X.prog X.w X.K tg J fp it tn/\tn 0 s2.heap/\(∀b∈fp,nC X pins H' b)/\R J H'
def PI (X:Cx)(tg C9:Expr)(wi:TI):Prop:=
 ∀(pins:K7) (s:Shared) (σ:St) (H:Hp) (R:It->Hp->Prop),Inv X pins σ H s->wi σ H R->
  wpAny (model X.prog X.w) X.A (eval C9 X.env) (λv s1=>wpAny (model X.prog X.w) X.A (pyIter v) (bq X pins σ tg R) X.xe s1) X.xe s
def II {E : Value → Shared → Prop} {Q : Unit → Shared → Prop} (ho : s.heap.get? it = some o) (hc : o.cls = .type n) (hd : o.data = .fields vs) (hn : ["enumerate", "zip", "dict_itemiterator", "dict_reverseitemiterator", "odict_iterator", "itertools.zip_longest", "itertools.pairwise"].contains n = false) (hQ : Q () s) : wpAny M A (letOwnedTupleGo tg (.ref it) u) Q E s := by
  unfold letOwnedTupleGo;cases tg <;> first
    | exact aAb hQ
    | (cases u <;> first
        | exact aAb hQ
        | (refine aAa (wpAny_load ho ?_)
           rw [hc, hd];show wpAny M A (if (["enumerate", "zip", "dict_itemiterator", "dict_reverseitemiterator", "odict_iterator", "itertools.zip_longest", "itertools.pairwise"].contains n && vs[0]? == some (rawInt _)) = true then _ else _) Q E s;rw [if_neg (by intro h; rw [hn, Bool.false_and] at h; cases h)];exact aAb hQ))
def cz (K:PySem.W.Frag)(a:Addr):It:=
 ⟨λi H=>∃xs x,N1 K H a xs/\xs[i]?=some x,λi H x H'=>H'=H/\∀xs,N1 K H a xs->xs[i]?=some x,λi H=>∃xs,N1 K H a xs/\xs.length<=i⟩
def ZA (K:PySem.W.Frag)(a:Addr):It:=
 ⟨λi H=>∃xs x,V9 K H a xs/\xs[i]?=some x,λi H x H'=>H'=H/\∀xs,V9 K H a xs->xs[i]?=some x,λi H=>∃xs,V9 K H a xs/\xs.length<=i⟩
def CA {P:Program}{w:World}{K:PySem.W.Frag}{tg:Expr}(a it:Addr):Turn P w K tg (cz K a) [it] it (λi h=>h.IsListIter it a i)where
 mem:=by simp
 obj:=λi h st b hb=>by
  have e:b=it:=by simpa using hb
  subst e;obtain⟨o,e,c,d⟩:=st;exact⟨o,e,λv z=>by rw[d]at z;cases z⟩
 keep:=λi h h' st k=>st.at λo e=>k it (by simp) o e
 item:=by intro X hP hw hK hc i pins s σ H E I hf st hg;subst hP hw hK;obtain⟨xs,x,hq,hx⟩:=hg;obtain⟨its,rv,p,hz⟩:=I.list hq;obtain⟨u,hu,ru⟩:=rv.get hx;obtain⟨f0,f1,f2,f3,f4,f5⟩:=hf it (by simp);refine wpAny_pyNext_list_item st p.isList (x:=u) (by simpa using hu) λh' st' sb=>?_;have I1:Inv X pins σ H {s with heap:=h'}:=I.turned (t':=s.toks) (λb o hb e=>(sb.2 b hb).trans e) f0 f1 f3 f4 f5;obtain⟨o,e,c,d⟩:=id st';exact⟨u,rfl,II (s:={s with heap:=h'}) e c d (by decide) ⟨x,H,I1,ru,⟨rfl,λys hy=>by rw[I.ac0 hy hq];exact hx⟩,st',λb hb=>(hf b hb).1⟩⟩
 done:=by intro X hP hw hK hc i pins s σ H E I hf st hg;subst hP hw hK;obtain⟨xs,hq,hx⟩:=hg;obtain⟨its,rv,p,hz⟩:=I.list hq;obtain⟨f0,f1,f2,f3,f4,f5⟩:=hf it (by simp);have hl:=rv.length;exact wpAny_pyNext_list_end (I.ok.hd hc) st p.isList (by simp;lia) λh' eb=>⟨rfl,I.turned (t':=s.toks) (λb o hb e=>eb b o hb e) f0 f1 f3 f4 f5⟩
 self:=λ_ _ _ _ _ st h=>wpAny_pyIter_listiter st h
def wU {P:Program}{w:World}{K:PySem.W.Frag}{tg:Expr}(a it:Addr):Turn P w K tg (ZA K a) [it] it (λi h=>h.IsTupleIter it a i)where
 mem:=by simp
 obj:=λi h st b hb=>by
  have e:b=it:=by simpa using hb
  subst e;obtain⟨o,e,c,d⟩:=st;exact⟨o,e,λv z=>by rw[d]at z;cases z⟩
 keep:=λi h h' st k=>st.at λo e=>k it (by simp) o e
 item:=by intro X hP hw hK hc i pins s σ H E I hf st hg;subst hP hw hK;obtain⟨xs,x,hq,hx⟩:=hg;obtain⟨its,rv,p,hz⟩:=I.tuple hq;obtain⟨u,hu,ru⟩:=rv.get hx;obtain⟨f0,f1,f2,f3,f4,f5⟩:=hf it (by simp);refine wpAny_pyNext_tuple_item st (show s.heap.IsTuple a its.toArray from p) (x:=u) (by simpa using hu) λh' st' sb=>?_;have I1:Inv X pins σ H {s with heap:=h'}:=I.turned (t':=s.toks) (λb o hb e=>(sb.2 b hb).trans e) f0 f1 f3 f4 f5;obtain⟨o,e,c,d⟩:=id st';exact⟨u,rfl,II (s:={s with heap:=h'}) e c d (by decide) ⟨x,H,I1,ru,⟨rfl,λys hy=>by rw[I.ab5 hy hq];exact hx⟩,st',λb hb=>(hf b hb).1⟩⟩
 done:=by intro X hP hw hK hc i pins s σ H E I hf st hg;subst hP hw hK;obtain⟨xs,hq,hx⟩:=hg;obtain⟨its,rv,p,hz⟩:=I.tuple hq;obtain⟨f0,f1,f2,f3,f4,f5⟩:=hf it (by simp);have hl:=rv.length;exact wpAny_pyNext_tuple_end (I.ok.hd hc) st (show s.heap.IsTuple a its.toArray from p) (by simp;lia) λh' eb=>⟨rfl,I.turned (t':=s.toks) (λb o hb e=>eb b o hb e) f0 f1 f3 f4 f5⟩
 self:=λ_ _ _ _ _ st h=>wpAny_pyIter_tupleiter st h
end L2
namespace L2
open PySem PySem.Spec PyProof.Rows
section
variable{X:Cx} {tg:Expr}
def XN (K:PySem.W.Frag)(tl:TE):TI:=λσ H R=>tl σ H λx H1=>∃a,x=.ref a/\(∃xs,N1 K H1 a xs)/\R (cz K a) H1
def ZK (K:PySem.W.Frag)(tl:TE):TI:=λσ H R=>tl σ H λx H1=>∃a,x=.ref a/\(∃xs,V9 K H1 a xs)/\R (ZA K a) H1
def OG (hl:PE X l tl):PI X tg l (XN X.K tl):=by
 intro pins s σ H R I h;refine C4 (hl pins s σ H _ I h) λv s1 ⟨x,H1,I1,r1,q1⟩=>?_;obtain⟨a,e,⟨xs,hq⟩,q⟩:=q1;subst e;cases r1;obtain⟨its,rv,p,hz⟩:=I1.list hq;refine aDh p.isList ?_;refine⟨s1.heap.objs.size,[s1.heap.objs.size],_,_,H1,rfl,I1.kept (t':=s1.toks) λb o e=>aAc _ e,CA a _,⟨_,aAn _ rfl,rfl,rfl⟩,λb hb=>?_,q⟩;have e:b=s1.heap.objs.size:=by simpa using hb
 subst e;exact I1.af4 (aAg _) (I1.hok.fresh<|aAg _)
def QI {l:Expr}{tl:TE}(hl:PE X l tl):PI X tg l (ZK X.K tl):=by
 intro pins s σ H R I h;refine C4 (hl pins s σ H _ I h) λv s1 ⟨x,H1,I1,r1,q1⟩=>?_;obtain⟨a,e,⟨xs,hq⟩,q⟩:=q1;subst e;cases r1;obtain⟨its,rv,p,hz⟩:=I1.tuple hq;refine wpAny_pyIter_tuple (show s1.heap.IsTuple a its.toArray from p) ?_;refine⟨s1.heap.objs.size,[s1.heap.objs.size],_,_,H1,rfl,I1.kept (t':=s1.toks) λb o e=>aAc _ e,wU a _,⟨_,aAn _ rfl,rfl,rfl⟩,λb hb=>?_,q⟩;have e:b=s1.heap.objs.size:=by simpa using hb
 subst e;exact I1.af4 (aAg _) (I1.hok.fresh<|aAg _)
def ZL (wi:TI)(g:TG)(tb:TS):TS:=λD σ H=>wi σ H λJ H1=>∃W:Nat->Nat->St->Hp->Prop,(∃m,W 0 m σ H1)/\∀i m σ H,W i m σ H->
 (J.stop i H/\D.nx σ H)\/(J.go i H/\∃N:St->Hp->Prop,(∀ai H',N ai H'->∃m',m'<m/\W (i+1) m' ai H')/\∀x H',J.yld i H x H'->g x σ H' λvm H2=>tb {D with nx:=N,ct:=N,bk:=D.nx} vm H2)
def lR (fp:List Addr)(h:Heap):List (Addr×Obj):=fp.filterMap λb=>(h.get? b).map λo=>(b,o)
def Z3 (hb:b∈fp)(e:h.get? b=some o):(b,o)∈lR fp h:=aBC.mpr ⟨b,hb,by rw[e];rfl⟩
def BS (hp:p∈lR fp h):p.1∈fp/\h.get? p.1=some p.2:=by
 obtain⟨b,hb,e⟩:=aBC.mp hp;cases q:h.get? b with
 |none=>rw[q]at e;cases e
 |some o=>rw[q]at e;have e':(b,o)=p:=aAj e;subst e';exact⟨hb,q⟩
def Inv.pinned (I:Inv X pins σ H s)(hf:∀b∈fp,nC X pins H b)(ho:∀b∈fp,∃o,s.heap.get? b=some o/\∀v,o.data≠.cell v):Inv X (pins++lR fp s.heap) σ H s:=
 I.ad1 λp hp=>(aAS.mp hp).elim (λz=>I.pin p (aAC _ z)) λz=>by obtain⟨hb,e⟩:=BS z;obtain⟨f0,f1,f2,_⟩:=hf p.1 hb;obtain⟨o,e',d⟩:=ho p.1 hb;rw[e]at e';cases e';exact⟨e,f0,f1,f2,d⟩
def Inv.ab1 (I:Inv X (pins++pl) σ H s):Inv X pins σ H s:=I.ad1 λp hp=>I.pin p (aAC _<|aBz _ hp)
def SC (hp:PassesOwn (model X.prog X.w) X.A X.env X.xe)(hc:X.calm=true)(hi:PI X tg C9 wi)(hg:PG X tg g)(hb:qT X body tb)(hs:∀x,foldedSetIterable C9 X.env x=pure x:=by intro _;rfl):PS X (.For tg C9 body [] pos) (ZL wi g tb):=by
 intro pins s σ H D I h;refine wpAny_For (C4 (hi pins s σ H _ I h) λv s1 h1=>C4 h1 λitv s2 h2=>?_) hs;obtain⟨it,fp,tn,J,H2,e,I2,T,mf,f2,W,⟨m0,w0⟩,turn⟩:=h2;subst e;have stat:∀{H':Hp},(∀b∈fp,H' b=none)->∀b∈fp,nC X pins H' b:=λhn b hb=>⟨hn b hb,(f2 b hb).2⟩;refine codeAny_forLoop_any (λn s'=>∃i ai H',Inv X pins ai H' s'/\tn i s'.heap/\(∀b∈fp,H' b=none)/\W i n ai H') ?_ m0 ⟨0,σ,H2,I2,mf,λb hb=>(f2 b hb).1,w0⟩;rintro n s3 ⟨i,qi,H3,I3,st3,fr3,w3⟩;rcases turn i n qi H3 w3 with⟨stop,qn⟩|⟨go,N,hN,step⟩
 ·refine aCK hp (C4 (T.done X rfl rfl rfl hc i pins s3 qi H3 X.xe I3 (stat fr3) st3 stop) λr s4 ⟨hr,I4⟩=>?_);subst hr;exact aDA ⟨qi,H3,I4,qn⟩
 ·refine aCK hp (C4 (T.item X rfl rfl rfl hc i pins s3 qi H3 X.xe I3 (stat fr3) st3 go) λr s4 ⟨u,hr,h4⟩=>?_);subst hr;refine aCK hp (C4 h4 λ_ s5 ⟨x,H5,I5,r5,y5,st5,fr5⟩=>?_);have I5':=I5.pinned (stat fr5) (T.obj _ _ st5);refine aCK hp (C4 (hg _ s5 qi H5 x u _ I5' r5<|step x H5 y5) λ_ s6 ⟨σ6,H6,I6,q6⟩=>?_);refine aCK hp (C4 (hb _ s6 σ6 H6 _ I6 q6) λf s7 q7=>?_);have again:∀{qd:St} {H7:Hp},Inv X (pins++lR fp s5.heap) qd H7 s7->N qd H7->∃m,m<n/\∃i ai H',Inv X pins ai H' s7/\tn i s7.heap/\(∀b∈fp,H' b=none)/\W i m ai H':=λ{qd H7} I7 n7=>by obtain⟨m',hm,w7⟩:=hN qd H7 n7;refine⟨m',hm,i+1,qd,H7,I7.ab1,T.keep _ _ _ st5 λb hb o e=>(I7.pin (b,o)<|aAC _<|aAC _<|Z3 hb e).1,λb hb=>?_,w7⟩;obtain⟨o,e,d⟩:=T.obj _ _ st5 b hb;exact(I7.pin (b,o)<|aAC _<|aAC _<|Z3 hb e).2.1
  cases f with
  |next=>obtain⟨qd,H7,I7,n7⟩:=q7;exact again I7 n7
  |cont=>obtain⟨qd,H7,I7,n7⟩:=q7;exact again I7 n7
  |brk=>obtain⟨qd,H7,I7,q7⟩:=q7;exact⟨qd,H7,I7.ab1,q7⟩
  |ret v=>obtain⟨x7,qd,H7,I7,r7,q7⟩:=q7;exact⟨x7,qd,H7,I7.ab1,r7,q7⟩
end
end L2
namespace L2
open PySem PySem.Spec PyProof.Rows
abbrev R2:=V->V->Hp->VK->Prop
def gC (X:Cx)(f:Value->Value->Sem Value)(r:R2):Prop:=
 ∀(pins:K7) (s:Shared) (σ:St) (H:Hp) (x y:V) (v u:Value) (Q:VK),Inv X pins σ H s->RelV x v->RelV y u->r x y H Q->
  wpAny (model X.prog X.w) X.A (f v u) (EP X pins σ Q) X.xe s
def gq (X:Cx)(f:Value->Sem Value)(r:V->Hp->VK->Prop):Prop:=
 ∀(pins:K7) (s:Shared) (σ:St) (H:Hp) (x:V) (v:Value) (Q:VK),Inv X pins σ H s->RelV x v->r x H Q->
  wpAny (model X.prog X.w) X.A (f v) (EP X pins σ Q) X.xe s
def mF (X:Cx)(f:Value)(r:List V->Hp->VK->Prop):Prop:=
 ∀(pins:K7) (s:Shared) (σ:St) (H:Hp) (xs:List V) (us:List Value) (Q:VK),Inv X pins σ H s->m6 xs us->r xs H Q->
  wpAny (model X.prog X.w) X.A (call f us) (EP X pins σ Q) X.xe s
def yj (r:V->Hp->VK->Prop)(ta:TE):TE:=λσ H Q=>ta σ H λx H1=>r x H1 Q
def rI (C:Int->Int->Prop)(g:Int->Int->V):R2:=λx y H Q=>∃i j,x=.int i/\y=.int j/\C i j/\Q (g i j) H
def OZ (g:Int->Int->V):R2:=λx y H Q=>∃i j,x=.int i/\y=.int j/\Q (g i j) H
def rU (g:Int->V):V->Hp->VK->Prop:=λx H Q=>∃i,x=.int i/\Q (g i) H
section
variable{X:Cx} {a b c:Expr} {ta tb tc:TE} {pos:Pos}
def DD (ha:PE X a ta)(hb:PE X b tb){pins:K7}{s:Shared}{σ:St}{H:Hp}{R:V->V->Hp->Prop}(I:Inv X pins σ H s)
  (h:ta σ H λx H1=>tb σ H1 λy H2=>R x y H2) {Q:C5} {f:Value->Value->Sem Value}
  (hf:∀v u s2 x y H2,Inv X pins σ H2 s2->RelV x v->RelV y u->R x y H2->wpAny (model X.prog X.w) X.A (f v u) Q X.xe s2):
  wpAny (model X.prog X.w) X.A (eval a X.env) (λv ah=>wpAny (model X.prog X.w) X.A (eval b X.env) (λu ic=>wpAny (model X.prog X.w) X.A (f v u) Q X.xe ic) X.xe ah) X.xe s:=by
 refine C4 (ha pins s σ H _ I h) λv s1 ⟨x,H1,I1,r1,q1⟩=>?_;refine C4 (hb pins s1 σ H1 _ I1 q1) λu s2 ⟨y,H2,I2,r2,q2⟩=>?_;exact hf v u s2 x y H2 I2 r1 r2 q2
def WF {r:V->Hp->VK->Prop}(ho:gq X (unaryOp op) r)(ha:PE X a ta):PE X (.UnaryOp op a pos) (yj r ta):=by intro pins s σ H Q I h;exact UnaryOp_ (C4 (ha pins s σ H _ I h) λv s1 ⟨x,H1,I1,r1,q1⟩=>ho pins s1 σ H1 x v Q I1 r1 q1)
def XV {f:Value->Value->Sem Value}{C:Int->Int->Prop}{g:Int->Int->Int}
  (rule:∀(i j:Int) (t u:Tok) (s:Shared) (Q:C5) (E:C5),C i j->Q (.int (g i j) s.toks) {s with toks:=s.toks+1}->wpAny (model X.prog X.w) X.A (f (.int i t) (.int j u)) Q E s):
  gC X f (rI C λi j=>.int (g i j)):=by
 intro pins s σ H x y v u Q I rx ry h;obtain⟨i,j,rfl,rfl,hc,q⟩:=h;obtain⟨t,rfl⟩:=rx;obtain⟨t',rfl⟩:=ry;exact rule i j t t' s _ _ hc ⟨.int (g i j),H,I.tok _,⟨_,rfl⟩,q⟩
def WP {f:Value->Value->Sem Value}{g:Int->Int->Int}
  (rule:∀(i j:Int) (t u:Tok) (s:Shared) (Q:C5) (E:C5),Q (.int (g i j) s.toks) {s with toks:=s.toks+1}->wpAny (model X.prog X.w) X.A (f (.int i t) (.int j u)) Q E s):
  gC X f (OZ λi j=>.int (g i j)):=by
 intro pins s σ H x y v u Q I rx ry h;obtain⟨i,j,rfl,rfl,q⟩:=h;obtain⟨t,rfl⟩:=rx;obtain⟨t',rfl⟩:=ry;exact rule i j t t' s _ _ ⟨.int (g i j),H,I.tok _,⟨_,rfl⟩,q⟩
def RE {f:Value->Value->Sem Value}{g:Int->Int->Bool}
  (rule:∀(i j:Int) (t u:Tok) (s:Shared) (Q:C5) (E:C5),Q (.bool (g i j)) s->wpAny (model X.prog X.w) X.A (f (.int i t) (.int j u)) Q E s):
  gC X f (OZ λi j=>.bl (g i j)):=by
 intro pins s σ H x y v u Q I rx ry h;obtain⟨i,j,rfl,rfl,q⟩:=h;obtain⟨t,rfl⟩:=rx;obtain⟨t',rfl⟩:=ry;exact rule i j t t' s _ _ ⟨.bl (g i j),H,I,rfl,q⟩
def ay (i j:Int):Prop:=0<=j/\j<=1000000/\i.natAbs<2^64
def wq (i j:Int):Prop:=(-(2^64)<i/\i<2^64)\/(-(2^64)<j/\j<2^64)
def QK:gC X (binaryOp .Add) (OZ λi j=>.int (i+j)):=WP λ_ _ _ _ _ _ _ q=>add_int q
def SD:gC X (binaryOp .Sub) (OZ λi j=>.int (i-j)):=WP λ_ _ _ _ _ _ _ q=>sub_int q
def NC:gC X (binaryOp .Mod) (rI (λ_ j=>j≠0) λi j=>.int (i.fmod j)):=XV λ_ _ _ _ _ _ _ hc q=>mod_int' hc q
def RZ:gC X (binaryOp .Pow) (rI ay λi j=>.int (i^j.toNat)):=XV λ_ _ _ _ _ _ _ hc q=>pow_int_small hc.1 hc.2.1 hc.2.2 q
def vq {f:Value->Sem Value}{g:Int->Int}
  (rule:∀(i:Int) (t:Tok) (s:Shared) (Q:C5) (E:C5),Q (.int (g i) s.toks) {s with toks:=s.toks+1}->wpAny (model X.prog X.w) X.A (f (.int i t)) Q E s):
  gq X f (rU λi=>.int (g i)):=by
 intro pins s σ H x v Q I rx h;obtain⟨i,rfl,q⟩:=h;obtain⟨t,rfl⟩:=rx;exact rule i t s _ _ ⟨.int (g i),H,I.tok _,⟨_,rfl⟩,q⟩
def QM:gq X (unaryOp .USub) (rU λi=>.int (-i)):=vq λ_ _ _ _ _ q=>neg_int q
end
section
variable{X:Cx} {a b c:Expr} {ta tb tc:TE} {pos:Pos}
def QZ (I:Inv X pins σ H s)(q:Q (.bl k) H)(e:k=k'):EP X pins σ Q (.bool k') s:=by subst e;exact⟨.bl k,H,I,rfl,q⟩
def VF:gC X (compareOp .Lt) (OZ λi j=>.bl (decide (i<j))):=RE λ_ _ _ _ _ _ _ q=>lt_int q
def VD:gC X (compareOp .LtE) (OZ λi j=>.bl (decide (i<=j))):=RE λ_ _ _ _ _ _ _ q=>le_int q
def VM:gC X (compareOp .Gt) (OZ λi j=>.bl (decide (j<i))):=RE λ_ _ _ _ _ _ _ q=>gt_int q
def PZ:gC X (compareOp .Is) (λx y H Q=>y=.non/\Q (.bl (decide (x=.non))) H):=by
 intro pins s σ H x y v u Q I rx ry h;obtain⟨rfl,q⟩:=h;cases ry;refine is_none_gen (QZ I q ?_);cases x<;>first
  |(cases rx;rfl)
  |(obtain⟨t,rfl⟩:=rx;rfl)
def xK (b:Expr)(h:op≠.In:=by decide)(h2:op≠.NotIn:=by decide):behindInMarks op b=false:=by
 have e1:(op==CmpOp.In)=false:=by cases op<;>first|rfl|exact absurd rfl h
 have e2:(op==CmpOp.NotIn)=false:=by cases op<;>first|rfl|exact absurd rfl h2
 cases b<;>simp[behindInMarks,e1,e2]
def yQ:(sizeLine:Nat)<2^63:=by rw[aEY];decide
def vals1 (r:m6 [x] us):∃u,us=[u]/\RelV x u:=by
 cases r with
 |cons r1 r2=>cases r2;exact⟨_,rfl,r1⟩
def vals2 (r:m6 [x,y] us):∃u w',us=[u,w']/\RelV x u/\RelV y w':=by
 cases r with
 |cons r1 r2=>
  cases r2 with
  |cons r3 r4=>cases r4;exact⟨_,_,rfl,r1,r3⟩
def JE:mF X (.builtin "abs") (λxs H Q=>∃i,xs=[.int i]/\Q (.int (if i<0 then-i else i)) H):=by intro pins s σ H xs us Q I r h;obtain⟨i,rfl,q⟩:=h;obtain⟨u,rfl,t,rfl⟩:=vals1 r;exact call_abs_int λu tk=>⟨.int (if i<0 then-i else i),H,I.tok _,⟨_,rfl⟩,q⟩
def DN (hc:X.calm=true):mF X (.builtin "max") (λxs H Q=>∃i j,xs=[.int i,.int j]/\Q (.int (if j>i then j else i)) H):=by
 intro pins s σ H xs us Q I r h;obtain⟨i,j,rfl,q⟩:=h;obtain⟨u,w',rfl,⟨t,rfl⟩,⟨t',rfl⟩⟩:=vals2 r;refine max_two_ints (I.ok.hd hc) λh' tk k=>⟨_,H,I.kept k,?_,q⟩;by_cases hj:j>i
 ·rw[if_pos hj,if_pos hj];exact⟨_,rfl⟩
 ·rw[if_neg hj,if_neg hj];exact⟨_,rfl⟩
def CU (hc:X.calm=true):mF X (.builtin "min") (λxs H Q=>∃i j,xs=[.int i,.int j]/\Q (.int (if j<i then j else i)) H):=by
 intro pins s σ H xs us Q I r h;obtain⟨i,j,rfl,q⟩:=h;obtain⟨u,w',rfl,⟨t,rfl⟩,⟨t',rfl⟩⟩:=vals2 r;refine min_two_ints (I.ok.hd hc) λh' tk k=>⟨_,H,I.kept k,?_,q⟩;by_cases hj:j<i
 ·rw[if_pos hj,if_pos hj];exact⟨_,rfl⟩
 ·rw[if_neg hj,if_neg hj];exact⟨_,rfl⟩
end
end L2
namespace L2
open PySem PySem.Spec PyProof.Rows
structure ObjM (h:Heap)(x dx C:Addr)(mA:V5):Prop where
 obj:h.get? x=some (PySem.W.instObj C dx)
 ns:h.Ns1 dx mA
 ne:dx≠x
section
variable{prog:Program} {w:World} {A:Around} {E:C5} {s:Shared} {K:PySem.W.Frag} {x dx C f:Addr} {mA:V5} {name:Str} {v:Value}
end
section
variable{P:Program} {w:World} {H H':Hp} {h h':Heap} {a C dx:Addr} {fs xt:List (Str×V)}
end
structure Cls (K:PySem.W.Frag)(C:Addr):Prop where
 pg:PySem.W.plainGet K C Str.empty=true
 hd:PySem.W.hasDictIn K C=true
 po:PySem.W.plainOver K C=true
 sa:PySem.W.findIn K (.ref C) "__setattr__"=some (some (.builtin "object.__setattr__"))
section
variable{X:Cx} {pins:K7} {σ:St} {H:Hp} {s:Shared} {a C dx:Addr} {fs:List (Str×V)} {f:Str} {v:V} {A:Around} {E:C5}
end
section
variable{X:Cx} {o e value:Expr} {f:Str} {pos pos' tpos:Pos} {ta tv:TE}
end
section
variable{X:Cx} {pins:K7} {σ:St} {H:Hp} {s:Shared} {A:Around} {E:C5} {Q:C5} {c:Value} {b:Bool}
end
end L2
namespace L2
open PySem PySem.Spec PyProof.Rows
structure Room (k:Nat)(A:Around):Prop where
 hd:A.handled=none
 dp:A.depth+3*k+5<recursionLimit
 un:A.units+16*k+200<cLine
def Room.mono (r:Room k A)(h:j<=k):Room j A:=⟨r.hd,by have:=r.dp;lia,by have:=r.un;lia⟩
def Room.deeper (r:Room (k+1) A)(env:Env):Room k (A.deeper env):=
 ⟨r.hd,by have:=r.dp;show A.depth+1+3*k+5<_;lia,by have:=r.un;show A.units+3+16*k+200<_;lia⟩
def Room.depth (r:Room k A):A.depth<recursionLimit:=by have:=r.dp;lia
def Room.units (r:Room k A):A.units+64<cLine:=by have:=r.un;lia
def ZU:TA:=λ_ H Q=>Q [] H
def WJ (ta:TE)(tr:TA):TA:=λσ H Q=>ta σ H λx H1=>tr σ H1 λxs H2=>Q (x::xs) H2
section
variable{X:Cx} {e:Expr} {es:List Expr} {te:TE} {t:TA} {pos:Pos}
def aY:PA X [] ZU:=λ_ _ _ _ H Q I h=>aEN ⟨[],H,I,.nil,h⟩
def K1 (ha:PE X e te)(hr:PA X es t)(hs:starEach (e::es) X.env=(false,eval e X.env)::starEach es X.env:=by rfl):PA X (e::es) (WJ te t):=by intro pos pins s σ H Q I h;rw[hs];show wpAny _ _ (spliced ((false,eval e X.env)::backTo pos (starEach es X.env))) _ _ s;refine aDB (C4 (ha pins s σ H _ I h) λu s1 ⟨x,H1,I1,r1,q1⟩=>?_);exact C4 (hr pos pins s1 σ H1 _ I1 q1) λus s2 ⟨xs,H2,I2,r2,q2⟩=>⟨x::xs,H2,I2,.cons r1 r2,q2⟩
def ZM (t:TA):TE:=λσ H Q=>t σ H λxs H1=>xs.length<=sizeLine/\∀p,H1 p=none->Q (.ref p) (upd H1 p<|.tup xs)
def ZC (t:TA):TE:=λσ H Q=>t σ H λxs H1=>xs.length<=sizeLine/\∀p,H1 p=none->Q (.ref p) (upd H1 p<|.lst xs)
def QL {x1}(h:PA X es t):PE X (.Tuple es x1 pos) (ZM t):=by intro pins s σ H Q I hq;refine wpAny_Tuple_spliced (C4 (h pos pins s σ H _ I hq) λus s1 ⟨xs,H1,I1,r,z,q⟩=>⟨by rw[<-r.length];exact z,?_⟩);have hf:H1 s1.heap.objs.size=none:=I1.hok.fresh (aAg _);refine⟨.ref s1.heap.objs.size,upd H1 s1.heap.objs.size (.tup xs),I1.laid (t':=s1.toks) (λb u e=>aAc _ e) (aAg _) ?_,rfl,q _ hf⟩;exact⟨z,us,r,⟨_,aAn _ rfl,rfl,_,rfl⟩⟩
def JI (h:PA X es t):PE X (.List es pos) (ZC t):=by intro pins s σ H Q I hq;refine wpAny_List_spliced (C4 (h pos pins s σ H _ I hq) λus s1 ⟨xs,H1,I1,r,z,q⟩=>⟨by rw[<-r.length];exact z,?_⟩);have hf:H1 s1.heap.objs.size=none:=I1.hok.fresh (aAg _);refine⟨.ref s1.heap.objs.size,upd H1 s1.heap.objs.size (.lst xs),I1.laid (t':=s1.toks) (λb u e=>aAc _ e) (aAg _) ?_,rfl,q _ hf⟩;exact⟨z,us,0,r,aAn _ rfl⟩
end
abbrev Sp:=List V->Hp->VK->XK->Prop
abbrev GS:=List Env->Hp->Shared->XK->Value->Shared->Prop
structure Env0 (P:Program)(w:World)(K:PySem.W.Frag)(mg:V5)(base:Heap)(A:Around)(outer:List Env)(s:Shared)(H:Hp):Prop where
 frames:A.frames=some outer
 mod:Mod K mg base
 bs:∀b o,base.get? b=some o->s.heap.get? b=some o/\H b=none
 bsz:base.objs.size<=s.heap.objs.size
 funs:s.heap.FunFrames base outer
 frf:∀b∈T3 outer,H b=none
 hok:W7 P w H s.heap
 bare:AllBare s.gens
def CE (outer:List Env)(P:Program)(w:World)(H:Hp)(s:Shared)(Q:VK)(u:Value)(s':Shared):Prop:=
 ∃v H',s'.os=s.os/\AllBare s'.gens/\Un (T3 outer) [] H H' s.heap s'.heap/\W7 P w H' s'.heap/\RelV v u/\Q v H'
def CR (CX:GS)(outer:List Env)(P:Program)(w:World)(H:Hp)(s:Shared)(Q:VK)(E:XK)(r:Result)(s':Shared):Prop:=
 match r with
 |.ok (.ret u)=>CE outer P w H s Q u s'
 |.ok _=>False
 |.error e=>CX outer H s E e s'
structure FnOk (P:Program)(w:World)(K:PySem.W.Frag)(mg:V5)(base:Heap)(CX:GS)(k:Nat)(f:Addr)(fd:FuncData)(ps:List Str)(sp:Sp):Prop where
 len:∀vs H Q E,sp vs H Q E->vs.length=ps.length
 run:∀(A:Around) (outer:List Env) (s:Shared) (H:Hp) (args:Args) (us:List Value) (vs:List V) (Q:VK) (E:XK),Room k A->Env0 P w K mg base A outer s H->BindsTo s fd args (ps.zip us)->m6 vs us->sp vs H Q E->
  codeAny (model P w) A (.call (.ref f) args) (CR CX outer P w H s Q E) s
def FnOk.imp {P:Program}{w:World}{K:PySem.W.Frag}{mg:V5}{base:Heap}{CX:GS}{k:Nat}{f:Addr}{fd:FuncData}{ps:List Str}{sp sp':Sp}(F:FnOk P w K mg base CX k f fd ps sp)
  (h:∀vs H Q E,sp' vs H Q E->sp vs H Q E):FnOk P w K mg base CX k f fd ps sp':=
 ⟨λvs H Q E q=>F.len vs H Q E (h _ _ _ _ q),λA outer s H args us vs Q E hr he hb hv hs=>F.run A outer s H args us vs Q E hr he hb hv (h _ _ _ _ hs)⟩
section
variable{X:Cx} {pins:K7} {σ:St} {H:Hp} {s s':Shared}
def Inv.ae2 (I:Inv X pins σ H s):Env0 X.prog X.w X.K X.mg X.base X.A X.stack s H:=
 ⟨I.ok.frames,I.ok.mod,I.bs,aAx I.ok.bsz I.sz,I.stack,I.ab8,I.hok,I.bare⟩
def Inv.after (I:Inv X pins σ H s)(h:CE X.stack X.prog X.w H s Q u s'):EP X pins σ Q u s':=by obtain⟨v,H',os,bare,un,hok,r,q⟩:=h;obtain⟨hh,g,d,t,os'⟩:=s';obtain rfl:os'=s.os:=os;exact⟨v,H',I.call (h':=hh) (g':=g) (d':=d) (t':=t) (ch:=[]) un hok bare (λb z=>absurd z (by simp)),r,q⟩
end
def UX (sp:Sp)(zv:List V)(E:XK)(t:TA):TE:=λσ H Q=>t σ H λvs H1=>sp (vs++zv) H1 Q E
def Binds (K:PySem.W.Frag)(fd:FuncData)(ps:List Str)(ds:List Value):Prop:=
 ∀(s:Shared) (us:List Value),K.In s.heap->(us++ds).length=ps.length->BindsTo s fd ⟨us,[]⟩ (ps.zip<|us++ds)
def Binds.all {K:PySem.W.Frag}{fd:FuncData}{ps:List Str}(h:∀us:List Value,us.length=ps.length->bindArgs fd ⟨us,[]⟩=pure (ps.zip us)):Binds K fd ps []:=λs us _ hl=>by rw[aBr]at hl⊢;exact .of_eq (h us hl)
def mJ (CX:GS)(X:Cx)(E:XK):Prop:=∀(pins:K7) (σ:St) (H:Hp) (s:Shared) (e:Value) (s':Shared),Inv X pins σ H s->CX X.stack H s E e s'->X.xe e s'
section
variable{X:Cx} {CX:GS} {k:Nat} {f C:Addr} {fd:FuncData} {ps:List Str} {sp:Sp} {zv:List V} {ds:List Value} {E:XK} {x m:Str} {p pos apos:Pos} {e o:Expr} {es:List Expr} {ta:TE} {t:TA}
def SW (F:FnOk X.prog X.w X.K X.mg X.base CX k f fd ps sp)(hr:Room k X.A)(hb:Binds X.K fd ps ds)(hd:m6 zv ds)(hx:mJ CX X E)(I:Inv X pins σ H s)(r:m6 vs us)(h:sp (vs++zv) H Q E):wpAny (model X.prog X.w) X.A (call (.ref f) us) (EP X pins σ Q) X.xe s:=by
 have r2:m6 (vs++zv) (us++ds):=r.append hd;have hl:(us++ds).length=ps.length:=by rw[<-r2.length];exact F.len _ _ _ _ h
 refine aFy (aDc (F.run X.A X.stack s H ⟨us,[]⟩ (us++ds) (vs++zv) Q E hr I.ae2 (hb s us I.kIn hl) r2 h) λr s' hq=>?_);cases r with
 |error e=>exact hx pins σ H s e s' I hq
 |ok fl=>
  cases fl with
  |ret u=>exact I.after hq
  |next=>exact aAh hq
  |brk=>exact aAh hq
  |cont=>exact aAh hq
def zJ (F:FnOk X.prog X.w X.K X.mg X.base CX k f fd ps sp)(hr:Room k X.A)(hg:Gl X x)(hm:X.mg x=some (.ref f))(hk:PySem.W.keepIn X.K (.ref f)=true)(hb:Binds X.K fd ps ds)(hd:m6 zv ds)(hx:mJ CX X E)
  (ha:PA X (e::es) t) (dh:(x==("__debug__":Str))=false:=by decide) (he:starEach (e::es) X.env=(false,eval e X.env)::starEach es X.env:=by rfl) (br:(backTo pos (starEach es X.env)).any (·.1)=false:=by rfl):
  PE X (.Call (.Name x p) (e::es) [] pos) (UX sp zv E t):=by
 intro pins s σ H Q I h;refine aAM (Z7 I hg hm ?_ dh);refine PySem.W.callWith_K (h₀:=X.base) I.ok.mod.kin hk (C4 (ha pos pins s σ H _ I h) λus s1 ⟨vs,H1,I1,r,q⟩=>⟨I1.kIn,?_⟩) he br;exact SW F hr hb hd hx I1 r q
end
section
variable{X:Cx} {CX:GS} {k:Nat} {f C:Addr} {fd:FuncData} {ps ks:List Str} {sp:Sp} {E:XK} {x m:Str} {p pos apos kpos:Pos} {e o:Expr} {es:List Expr} {kws:List Keyword} {te ta:TE} {t tk:TA} {nm:Option Str}
variable{g:List Value->List Value->List Value} {gV:List V->List V->List V}
end
structure FnScope (N P:List Str)(sc:Scope):Prop where
 kind:sc.kind=.function
 co:sc.isCoroutine=false
 gen:sc.isGenerator=false
 nd:N.Nodup
 pre:N.take P.length=P
 par:∀x∈P,sc.names.lookup x=some .local\/sc.names.lookup x=some .cell
 nofree:∀y∈sc.names,y.2≠.free
theorem oO {kindOf:Str->Option NameKind}{x:Str}:∀{binds:List (Str×Value)} {m:V5},(∀v,(x,v)∉binds)->bindL kindOf binds m x=m x
 |[],_,_=>rfl
 |(n,v)::r,m,h=>by
  unfold bindL;rw[oO λw hw=>h w (aAd _ hw)];split
  ·have:x≠n:=by rintro rfl;exact h v aAX
   simp[this]
  ·rfl
theorem oG {kindOf:Str->Option NameKind}{x:Str}:∀{binds:List (Str×Value)} {m:V5},(∀v,(x,v)∉binds)->bindC kindOf binds m x=m x
 |[],_,_=>rfl
 |(n,v)::r,m,h=>by
  unfold bindC;rw[oG λw hw=>h w (aAd _ hw)];split
  ·rfl
  ·have:x≠n:=by rintro rfl;exact h v aAX
   simp[this]
theorem pM {kindOf:Str->Option NameKind}{x:Str}{v:Value}:∀{P:List Str} {vs:List Value} {i:Nat} {m:V5},P.Nodup->P[i]?=some x->vs[i]?=some v->kindOf x=some .local->
  bindL kindOf (P.zip vs) m x=some v
 |[],_,_,_,_,h,_,_=>by simp at h
 |_::_,[],_,_,_,_,h,_=>by simp at h
 |p::P,w::vs,0,m,nd,h1,h2,hk=>by simp at h1 h2;subst h1;subst h2;show bindL kindOf ((p,w)::P.zip vs) m p=_;unfold bindL;rw[oO λv hv=>(aAK.mp nd).1 (aDC hv).1,if_pos hk];simp
 |p::P,w::vs,i+1,m,nd,h1,h2,hk=>by show bindL kindOf ((p,w)::P.zip vs) m x=_;unfold bindL;exact pM (i:=i) (aAK.mp nd).2 (by simpa using h1) (by simpa using h2) hk
theorem pD {kindOf:Str->Option NameKind}{x:Str}{v:Value}:∀{P:List Str} {vs:List Value} {i:Nat} {m:V5},P.Nodup->P[i]?=some x->vs[i]?=some v->kindOf x≠some .local->
  bindC kindOf (P.zip vs) m x=some v
 |[],_,_,_,_,h,_,_=>by simp at h
 |_::_,[],_,_,_,_,h,_=>by simp at h
 |p::P,w::vs,0,m,nd,h1,h2,hk=>by simp at h1 h2;subst h1;subst h2;show bindC kindOf ((p,w)::P.zip vs) m p=_;unfold bindC;rw[oG λv hv=>(aAK.mp nd).1 (aDC hv).1,if_neg hk];simp
 |p::P,w::vs,i+1,m,nd,h1,h2,hk=>by show bindC kindOf ((p,w)::P.zip vs) m x=_;unfold bindC;exact pD (i:=i) (aAK.mp nd).2 (by simpa using h1) (by simpa using h2) hk
def start (N:List Str)(vs:List V):St:=vs.map some++aAD (N.length-vs.length) none
def qV (CX:GS)(P:Program)(w:World)(K:PySem.W.Frag)(mg:V5)(base:Heap)(N:List Str)(qual:Str)(scope:Scope)(f:Addr)(cd:Value)(A:Around)(outer:List Env)(s:Shared)(H:Hp)(E:XK):Cx where
 prog:=P
 w:=w
 K:=K
 mg:=mg
 base:=base
 A:=A.deeper (envOfC qual scope s.heap.objs.size f cd)
 N:=N
 se:=s
 Ha:=H
 env:=envOfC qual scope s.heap.objs.size f cd
 outer:=outer
 stack:=envOfC qual scope s.heap.objs.size f cd::outer
 ex:=[]
 calm:=true
 fn:=λ_=>true
 pn:=[]
 xe:=λe s'=>wpAny (model P w) (A.deeper<|envOfC qual scope s.heap.objs.size f cd) (leaving (envOfC qual scope s.heap.objs.size f cd) e) (λ_ s''=>CX outer H s E e s'') (λe' s''=>CX outer H s E e' s'') s'
def tL {sc:Scope}{n:Nat}{x:Str}(h:sc.names.lookup x=some .cell):∃c,(cellsFrom n sc.names []).lookup x=some c:=by have q:=PySem.W.cellsFrom_some sc.names n [] (.inl h);exact aEO.mp q
def CL {CX:GS}{P:Program}{w:World}{K:PySem.W.Frag}{mg:V5}{base:Heap}{N ps:List Str}{qual:Str}{scope:Scope}{f:Addr}{cd:Value}{A:Around}{outer:List Env}{s s1:Shared}{H:Hp}{E:XK}{us:List Value}{vs:List V}
  (S:FnScope N ps scope) (hd:A.handled=none) (e0:Env0 P w K mg base A outer s H) (hl:vs.length=ps.length) (r:m6 vs us)
  (x:InCallC s s.heap.objs.size (bindL (envOfC qual scope s.heap.objs.size f cd).kindOf (ps.zip us) λ_=>none) (cellsFrom (s.heap.objs.size+1) scope.names []) (bindC (envOfC qual scope s.heap.objs.size f cd).kindOf (ps.zip us) λ_=>none) s1):
  Inv (qV CX P w K mg base N qual scope f cd A outer s H E) [] (start N vs) H s1:=by
 have br:ps.length<=N.length:=by have:=congrArg aFO S.pre;rw[aBj]at this;lia
 obtain⟨h1,tk,rfl,hk⟩:=x.done;have noA:∀b:Addr,b∉(qV CX P w K mg base N qual scope f cd A outer s H E).ex:=λb z=>absurd (show b∈([]:List Addr)from z) (by simp);refine⟨⟨e0.mod,S.kind,rfl,rfl,aAg _,λy z c h1 h2=>?_,λy hy=>?_,λy c _ h=>?_,λ_=>hd,aFA e0.frames,.inr ⟨rfl,rfl⟩,λb z=>absurd z (noA b),e0.bs,e0.bsz,λb _ _=>noA b,λb z=>absurd z (noA b),e0.funs,e0.frf⟩,
  rfl,e0.bare,Un.kept hk,⟨_,x.toInCall.ns,λi y v h1 h2 h3=>?_⟩,λy c h=>⟨_,x.cell y c h⟩,e0.hok.fresh (aAg _),λy c h=>?_,λp hp=>absurd (show p∈([]:K7)from hp) (by simp),e0.hok.kept hk,?_⟩
 ·exact name_of_addr x.apart (PySem.mem_of_lookup h1) (PySem.mem_of_lookup h2)
 ·have hy:scope.names.lookup y=some .cell\/scope.names.lookup y=some .free:=hy;rcases hy with hy|hy
  ·exact tL hy
  ·exact absurd rfl (S.nofree _<|PySem.mem_of_lookup hy)
 ·exact aCP (x.above y c<|PySem.mem_of_lookup h)
 ·have hi:i<vs.length:=by
   unfold start at h2;by_cases hi:i<vs.length
   ·exact hi
   ·rw[aAu (by simpa using hi)]at h2;rw[aBg]at h2;split at h2<;>cases h2
  have ha:vs[i]?=some v:=by
   unfold start at h2;rw[aAP (by simpa using hi),aAN]at h2;cases e:vs[i]? with
   |none=>rw[e]at h2;cases h2
   |some a=>rw[e]at h2;cases h2;rfl
  obtain⟨u,hu,rv⟩:=r.get ha;have hp:ps[i]?=some y:=by rw[<-S.pre,List.getElem?_take_of_lt (by lia)];exact h1
  have ndP:ps.Nodup:=by rw[<-S.pre];exact S.nd.sublist (List.take_sublist _ _)
  refine⟨u,rv,?_⟩;rcases S.par y (aAr hp)with k|k
  ·exact .inl ⟨k,pM ndP hp hu k⟩
  ·obtain⟨c,e⟩:=tL (n:=s.heap.objs.size+1) k;refine .inr ⟨.inl k,c,e,?_⟩;have q:=x.cell y c e;rw[pD ndP hp hu (by show scope.names.lookup y≠_;rw[k];decide)]at q;exact q
 ·exact e0.hok.fresh (aCP<|x.above y c<|PySem.mem_of_lookup h)
 ·unfold start;show _=N.length;rw[aAz,aAl,aCe]
  lia
def JR {CX:GS}{P:Program}{w:World}{K:PySem.W.Frag}{mg:V5}{base:Heap}{k:Nat}{f:Addr}{name qual:Str}{params:Arguments}{body:List Stmt}{scope:Scope}{dV kV doc pm cdv ct oc:Value}{an od:Option Addr}
  {osl:Array (Option Value)} {N ps:List Str} {sp:Sp} (lk:K.lookup f=some ⟨oc,od,.func (PySem.W.fnOf name qual params body scope dV kV doc pm an cdv ct),osl⟩) (gc:PySem.W.codeIn K cdv qual=true) (S:FnScope N ps scope)
  (len:∀vs H Q E,sp vs H Q E->vs.length=ps.length)
  (vo:∀(A:Around) (outer:List Env) (s:Shared) (H:Hp) (vs:List V) (Q:VK) (E:XK),Room k (A.deeper (envOfC qual scope s.heap.objs.size f cdv))->sp vs H Q E->
   ∃t,qT (qV CX P w K mg base N qual scope f cdv A outer s H E) body t/\t {nx:=λ_ H'=>Q .non H',rt:=Q} (start N vs) H):
  FnOk P w K mg base CX (k+1) f (PySem.W.fnOf name qual params body scope dV kV doc pm an cdv ct) ps sp:=by
 refine⟨len,λA outer s H args us vs Q E hr e0 hb r hsp=>?_⟩;have hl:=len _ _ _ _ hsp;have KX:K.In s.heap:=e0.mod.kin.keeps λb o e=>(e0.bs b o e).1;have lim:s.heap.NoLimit:=e0.mod.nolimit.keeps λb o e=>(e0.bs b o e).1;have oi:∀y∈ps.zip us,scope.names.lookup y.1=some .local\/(scope.names.lookup y.1=some .cell/\((cellsFrom (s.heap.objs.size+1) scope.names []).lookup y.1).isSome=true):=λ⟨n,v⟩ hy=>by
  rcases S.par n (aDC hy).1 with q|q
  ·exact .inl q
  ·exact .inr ⟨q,PySem.W.cellsFrom_some _ _ _ (.inl q)⟩
 refine codeAny_call_function hr.depth (KX _ _ lk) rfl S.co S.gen rfl (PySem.W.codeRec_of KX gc) (hb _ _ _ _ ?_);refine wpAny_newFunctionEnv_cells S.kind oi λenv he s1 x=>?_;subst he;refine⟨lim.keeps x.toInCall.keep,codeAny_func ?_⟩;obtain⟨t,ht,hq⟩:=vo A outer s H vs Q E (hr.deeper _) hsp;have I:Inv (qV CX P w K mg base N qual scope f cdv A outer s H E) [] (start N vs) H s1:=CL S hr.hd e0 hl r x;refine aBw (ht [] s1 (start N vs) H _ I hq) (λfl s' hs=>?_) λe s' hs=>hs;have fin:∀{ai:St} {H':Hp} {v:V} {u:Value},Inv (qV CX P w K mg base N qual scope f cdv A outer s H E) [] ai H' s'->RelV v u->Q v H'->CE outer P w H s Q u s':=
  λ{ai H' v u} J rv q=>⟨v,H',J.os,J.bare,J.base,J.hok,rv,q⟩
 cases fl with
 |ret u=>obtain⟨v,ai,H',J,rv,q⟩:=hs;exact fin J rv q
 |next=>obtain⟨ai,H',J,q⟩:=hs;exact fin (v:=V.non) (u:=Value.none) J rfl q
 |brk=>obtain⟨_,_,_,q⟩:=hs;exact aAh q
 |cont=>obtain⟨_,_,_,q⟩:=hs;exact aAh q
end L2
namespace L2
open PySem PySem.Spec PyProof.Rows
section
variable{X:Cx} {x:Str} {p pos:Pos} {e:Expr} {es:List Expr} {t:TA} {id T:String} {r:List V->Hp->VK->Prop}
end
end L2
namespace HT
open PySem PyProof.Rows
def lexLt:List Int->List Int->Bool
 |[],[]=>false
 |[],_::_=>true
 |_::_,[]=>false
 |x::xs,y::ys=>if x=y then lexLt xs ys else decide (x<y)
def E9 (x y:Int)(xs ys:List Int):lexLt (x::xs) (y::ys)=if x=y then lexLt xs ys else decide (x<y):=rfl
def W4:lexLt [] []=false:=rfl
def K3 (y:Int)(ys:List Int):lexLt [] (y::ys)=true:=rfl
def B0 (x:Int)(xs:List Int):lexLt (x::xs) []=false:=rfl
def sV (A:Around)(s:Shared)(a:Int)(t:Tok)(c:Int)(u:Tok):∃e,SeqAt.EqAt A s (.int a t) (.int c u) e/\(e=true↔a=c):=
 ⟨(a==c),aEz a t c u,by simp⟩
def uQ (A:Around)(s:Shared)(a:Int)(t:Tok)(c:Int)(u:Tok)(prog:Program)(w:World)(E:C5)(Q:C5)(h:Q (.bool (decide (a<c))) s):
  wpAny (model prog w) A (richCompare .Lt (.int a t) (.int c u)) Q E s:=
 (PyProof.Rows.lt_int h:wpAny (model prog w) A (compareOp .Lt (.int a t) (.int c u)) Q E s)
section
open PySem.SeqAt
open PySem.AutoSeq1 (wpAny_loadPart')
open PySem.MeetsSeq PySem.MeetsSeq2 PySem.MeetsSeq3
def mT (l b:Addr)(items bg:Array Value)(n n2:Nat)(dd vt:Option Addr)(sl uo:Array (Option Value))(ns ms:List Int)(hi:IntsAre items.toList ns)(hj:IntsAre bg.toList ms):
  Meets (Builtin.«tuple.__lt__» ⟨[.ref l,.ref b],[]⟩)
   (λ_ R s=>s.heap.get? l=some {cls:=.type "tuple",dict:=dd,data:=.seq items n,slots:=sl}/\s.heap.get? b=some {cls:=.type "tuple",dict:=vt,data:=.seq bg n2,slots:=uo}/\
    R (.ok (.ret (.bool (lexLt ns ms)))) s):=
 .of_wp λprog w A R s h=>by
  obtain⟨hp,g,d,tk,os⟩:=s;obtain⟨hl,hb,h⟩:=h;have f2:=AutoSeq1.sub_tuple_tuple;have z1:items.size=ns.length:=by rw[<-hi.length];simp
  have z2:bg.size=ms.length:=by rw[<-hj.length];simp
  wp_walk using aEi hl,aEi hb,aCn _ (λrest b s'=>b.1=none/\s'=⟨hp,g,d,tk,os⟩/\∃(vs ws:List Value) (ur uu:List Int),rest=vs.zip ws/\
   IntsAre vs ur/\IntsAre ws uu/\ur.length+bg.size=uu.length+items.size/\R (.ok (.ret (.bool (lexLt ur uu)))) ⟨hp,g,d,tk,os⟩) _
  case turn=>
   rintro⟨y,x⟩ rest b s' ⟨ma,rfl,vs,ws,ur,uu,hz,va,yp,hlen,hR⟩;cases va with
   |nil=>rw[List.zip_nil_left]at hz;cases hz
   |cons a t hvi'=>
    cases yp with
    |nil=>rw[List.zip_nil_right]at hz;cases hz
    |cons c u hwi'=>
     rw[aBO]at hz;injection hz with zw ao;injection zw with hy hx;subst hy hx;rw[E9]at hR;simp only[aAt]at hlen;obtain⟨e,he,vv⟩:=sV A.in1 ⟨hp,g,d,tk,os⟩ a t c u;refine aAa (he prog w _ _ ?_);cases e with
     |true=>
      rw[if_pos (vv.mp rfl)]at hR
      wp_walk
      exact⟨rfl,rfl,_,_,_,_,ao,hvi',hwi',by lia,hR⟩
     |false=>
      rw[if_neg (λq=>absurd (vv.mpr q) aAL)]at hR;have hri:=uQ A.in1 ⟨hp,g,d,tk,os⟩ a t c u prog w
      wp_walk using hri
      exact⟨_,rfl,by simpa using hR⟩
  case fin=>
   rintro⟨b1,b2⟩ s' ⟨ma,rfl,vs,ws,ur,uu,hz,va,yp,hlen,hR⟩;simp only at ma;subst ma;have hv:lexLt ur uu=decide (items.size<bg.size):=by
    cases va with
    |nil=>
     cases yp with
     |nil=>simp only[aBF]at hlen;rw[W4];exact(decide_eq_false (by lia)).symm
     |cons c u hw=>simp only[aBF,aAt]at hlen;rw[K3];exact(decide_eq_true (by lia)).symm
    |cons a t hv=>
     cases yp with
     |nil=>simp only[aBF,aAt]at hlen;rw[B0];exact(decide_eq_false (by lia)).symm
     |cons c u hw=>rw[aBO]at hz;cases hz
   rw[hv]at hR
   wp_walk
   exact⟨_,rfl,by simpa[Builtin.Tuple.tupleCompareSizes]using hR⟩
  case h=>exact⟨rfl,rfl,items.toList,bg.toList,ns,ms,rfl,hi,hj,by lia,h⟩
end
section
variable{prog:Program} {w:World} {A:Around} {E:C5} {s:Shared}
def lt_tupInts {Q:C5}(hl:IsTup s.heap l items)(hb:IsTup s.heap b bg)(hi:IntsAre items.toList ns)(hj:IntsAre bg.toList ms)(hu:A.units<cLine)(h:Q (.bool (lexLt ns ms)) s):wpAny (model prog w) A (compareOp .Lt (.ref l) (.ref b)) Q E s:=by
 obtain⟨⟨cls,dd,data,sl⟩,ho,hc,n,hd⟩:=id hl;obtain⟨⟨cls2,vt,data2,uo⟩,lg,kg,n2,hd2⟩:=id hb;simp only at hc hd kg hd2;subst hc hd kg hd2;exact richCompare_meets_room (op:=.Lt) ⟨_,ho,rfl⟩ ⟨_,lg,rfl⟩ PySem.F.slot_tuple_lt PySem.F.entry_tuple_lt (PySem.F.args_tuple_lt_2 _ _) (mT l b items bg n n2 dd vt sl uo ns ms hi hj)
  ⟨ho,lg,show aBX (lexLt ns ms)≠Value.notImplemented/\Q (.bool (lexLt ns ms)) s from⟨(λx=>nomatch x),h⟩⟩ hu
def cat_tup {Q:C5}(ht:IsTup s.heap t vs.toArray)(hb:IsTup s.heap b ws.toArray)(hv:vs≠[])(h1:ws=[]->Q (.ref t) s)(h2:ws≠[]->Q (.ref s.heap.objs.size) {s with heap:=s.heap.push {cls:=.type "tuple",data:=.seq (vs++ws).toArray}})(ir:vs.length+ws.length<=sizeLine):wpAny (model prog w) A (binaryOp .Add (.ref t) (.ref b)) Q E s:=by
 obtain⟨⟨cls,dd,data,sl⟩,ho,hc,n,hd⟩:=id ht;obtain⟨⟨cls2,vt,data2,uo⟩,lg,kg,n2,hd2⟩:=id hb;simp only at hc hd kg hd2;subst hc hd kg hd2;have e:vs.toArray++ws.toArray=(vs++ws).toArray:=by simp
 by_cases hw:ws=[]
 ·exact aFp ⟨_,ho,rfl⟩ ⟨_,lg,rfl⟩ aFd seq_tuple_add PySem.F.slot_tuple_add PySem.F.entry_tuple_add (PySem.F.args_tuple_add_2 _ _)
   (tuple_addW1 t b vs.toArray ws.toArray n n2 dd vt sl uo (by simpa using hv) (by simp[hw])) ⟨ho,lg,h1 hw⟩
 ·refine aFp ⟨_,ho,rfl⟩ ⟨_,lg,rfl⟩ aFd seq_tuple_add PySem.F.slot_tuple_add PySem.F.entry_tuple_add (PySem.F.args_tuple_add_2 _ _)
   (tuple_addW2 t b vs.toArray ws.toArray n n2 dd vt sl uo (by simpa using hv) (by simpa using hw) (by rw[aAm,aAm];exact ir)) ⟨ho,lg,?_⟩
  rw[e];exact h2 hw
def sIx (n d:Nat):Option Int->Nat
 |none=>d
 |some v=>if v<0 then(v+(n:Int)).toNat else min v.toNat n
def sIx_none (n d:Nat):sIx n d none=d:=rfl
def sIx_nat (n d k:Nat):sIx n d (some (k:Int))=min k n:=by show(if(k:Int)<0 then((k:Int)+(n:Int)).toNat else min (k:Int).toNat n)=min k n;rw[if_neg (by lia),aCu]
def RX (n d:Nat)(hd:d<=n)(o:Option Int):sIx n d o<=n:=by
 cases o with
 |none=>exact hd
 |some v=>
  show(if v<0 then(v+(n:Int)).toNat else min v.toNat n)<=n;by_cases hv:v<0
  ·rw[if_pos hv];lia
  ·rw[if_neg hv];exact Nat.min_le_right _ _
def zE (v:Int)(n d:Nat):(if v<0 then max (v+(n:Int)) 0 else min v (n:Int))=((sIx n d (some v):Nat):Int):=by
 show(if v<0 then max (v+(n:Int)) 0 else min v (n:Int))=(((if v<0 then(v+(n:Int)).toNat else min v.toNat n):Nat):Int);by_cases hv:v<0
 ·simp only[if_pos hv];lia
 ·simp only[if_neg hv];lia
def wE (lo hi:Option Int)(n:Nat):aDn lo hi 1 (n:Int)=(((sIx n 0 lo:Nat):Int),((sIx n n hi:Nat):Int)):=by
 have h1:¬((1:Int)<0):=by lia
 unfold aDn;simp only[h1,if_false];refine aFV ?_ ?_
 ·cases lo with
  |none=>rfl
  |some v=>exact zE v n 0
 ·cases hi with
  |none=>rfl
  |some v=>exact zE v n n
def wD (i j:Nat):aCG (i:Int) (j:Int) 1=j-i:=by
 unfold aCG;have h1:(1:Int)>0:=by lia
 simp only[h1,if_true,Int.ediv_one];split<;>lia
def lB {Q:Option Int->Shared->Prop}(p:IsPart v o)(h:Q o s):wpAny (model prog w) A (Builtin.Slice.slicePartIndex v) Q E s:=by
 cases p with
 |none=>exact slicePart_none h
 |int i t=>exact slicePart_int h
def iQ {sl:Addr}{vl vu:Value}{lo hi:Option Int}{n:Nat}{Q:Int×Int×Nat->Shared->Prop}(hs:s.heap.IsSliceOf sl vl vu .none)(pl:IsPart vl lo)(pu:IsPart vu hi)
  (h:Q (((sIx n 0 lo:Nat):Int),1,sIx n n hi-sIx n 0 lo) s):wpAny (model prog w) A (aEt (.ref sl) (pure (n:Int))) Q E s:=by
 obtain⟨os,hos,we,ya⟩:=id hs;unfold aEt Builtin.Slice.sliceFields;refine aAa (aAa<|aCH hos ya (x:=vl) rfl<|aAa<|aCH hos ya (x:=vu) rfl<|aAa<|aCH hos ya (x:=.none) rfl<|aAb ?_);refine aAa (slicePart_none ?_);show wpAny _ _ (if((1:Int)==0)=true then _ else _) _ _ s;rw[if_neg (by decide)];refine aAa (lB pl<|aAa<|lB pu<|aAa<|aAb ?_);show wpAny _ _ (match aDn lo hi 1 (n:Int)with|(lo,hi)=>pure (lo,(1:Int),aCG lo hi 1)) _ _ s;rw[wE lo hi n];show wpAny _ _ (pure (((sIx n 0 lo:Nat):Int),(1:Int),aCG ((sIx n 0 lo:Nat):Int) ((sIx n n hi:Nat):Int) 1)) _ _ s;rw[wD];exact aAb h
def IX (xs:Array Value)(i k:Nat):((aBb k).filterMap λ(m:Nat)=>xs[((i:Int)+(m:Int)*1).toNat]?).toArray=((xs.toList.drop i).take k).toArray:=by
 have e:(λ(m:Nat)=>xs[((i:Int)+(m:Int)*1).toNat]?)=λm=>xs[i+m]?:=by
  funext m
  have:((i:Int)+(m:Int)*1).toNat=i+m:=by lia
  rw[this]
 rw[e];have:=pick_run xs i k;rw[aCW]at this;have e2:((λx=>xs[x]?)∘λx=>i+x)=λm=>xs[i+m]?:=rfl;rw[e2]at this;rw[this]
def getItem_tuple_cut {t sl:Addr}{items:Array Value}{vl vu:Value}{lo hi:Option Int}{Q:C5}(ht:IsTup s.heap t items)(hs:s.heap.IsSliceOf sl vl vu .none)(pl:IsPart vl lo)(pu:IsPart vu hi)
  (hw:¬(sIx items.size 0 lo=0/\sIx items.size items.size hi=items.size))
  (h:Q (.ref s.heap.objs.size) {s with heap:=s.heap.push {cls:=.type "tuple",data:=.seq ((items.toList.drop (sIx items.size 0 lo)).take (sIx items.size items.size hi-sIx items.size 0 lo)).toArray}})
  (ir:items.size<=sizeLine):wpAny (model prog w) A (getItem (.ref t) (.ref sl)) Q E s:=by
 have qt:sizeOk (.seq ((items.toList.drop<|sIx items.size 0 lo).take (sIx items.size items.size hi-sIx items.size 0 lo)).toArray):=by
  show((items.toList.drop<|sIx items.size 0 lo).take (sIx items.size items.size hi-sIx items.size 0 lo)).toArray.size<=sizeLine;rw[aAm,aBj,aDs,aAU]
  lia
 have hj:sIx items.size items.size hi<=items.size:=RX _ _ (aAg _) hi;obtain⟨os,hos,we,ya⟩:=id hs;have hTs:s.TypeIs (.ref sl) "slice":=⟨os,hos,we⟩;unfold getItem;try with_reducible refine aAJ ?_
 first|refine aAa (aAb ?_)|skip
 refine aAa (wpAny_sequenceKey ht.typeIs (by decide) ?_);refine aAa (aCq (name:=aDd "__getitem__") ht.typeIs aCs
  (aBk aCs ht.typeIs entry_tuple_getitem ?_ (args_tuple_getitem _ _)))
 show wpAny _ _ (aDl (.ref t)>>=_) _ _ s;refine aAa (tupleItemsOf_ ht ?_);refine aAa (aDy hTs ?_);rw[if_pos (by decide)];refine aAa (iQ hs pl pu ?_);have hno:¬((((sIx items.size 0 lo:Nat):Int)==0&&(1:Int)==1&&(sIx items.size items.size hi-sIx items.size 0 lo)==items.size)=true):=by intro q;rw[aAF,aAF]at q;have q1:((sIx items.size 0 lo:Nat):Int)=0:=eq_of_beq q.1.1;have q2:sIx items.size items.size hi-sIx items.size 0 lo=items.size:=eq_of_beq q.2;exact hw ⟨by lia,by lia⟩
 show wpAny _ _ (if(((sIx items.size 0 lo:Nat):Int)==0&&(1:Int)==1&&(sIx items.size items.size hi-sIx items.size 0 lo)==items.size)=true then _ else _) _ _ s;rw[if_neg hno,IX];first
  |exact aAa (m:=aCL _) (aBx (aAb ⟨_,rfl,aAb h⟩) qt)
  |exact aAa (m:=aCL _) (aBx (aAa<|aAb<|aAb ⟨_,rfl,aAb h⟩) qt)
  |exact aAa (aAa (m:=aCL _)<|aBx (aAb<|aAb ⟨_,rfl,aAb h⟩) qt)
  |exact aAa (aAa (m:=aCL _)<|aBx (aAb ⟨_,rfl,aAb h⟩) qt)
end
end HT
namespace L2
open PySem PySem.Spec PyProof.Rows
abbrev TO:=St->Hp->(Option Int->Hp->Prop)->Prop
def PO (X:Cx)(e:Option Expr)(t:TO):Prop:=
 ∀(pins:K7) (s:Shared) (σ:St) (H:Hp) (Q:Option Int->Hp->Prop),Inv X pins σ H s->t σ H Q->
  wpAny (model X.prog X.w) X.A (evalPart e X.env) (λu s'=>∃o H',Inv X pins σ H' s'/\IsPart u o/\Q o H') X.xe s
def LL:TO:=λ_ H Q=>Q none H
def WQ (t:TE):TO:=λσ H Q=>t σ H λx H1=>∃i,x=.int i/\Q (some i) H1
section
variable{X:Cx} {e:Expr} {te:TE} {lo hi:Option Expr} {tl th:TO} {pos p2:Pos}
def MT:PO X none LL:=by intro pins s σ H Q I h;rw[evalPart_none];exact aAb ⟨none,H,I,.none,h⟩
def KZ (h:PE X e te):PO X (some e) (WQ te):=by intro pins s σ H Q I hw;rw[evalPart_some];refine C4 (h pins s σ H _ I hw) λu s1 ⟨x,H1,I1,r1,q1⟩=>?_;obtain⟨i,rfl,q⟩:=q1;obtain⟨t,rfl⟩:=r1;exact⟨some i,H1,I1,.int i t,q⟩
def SK (X:Cx)(r:V->Option Int->Option Int->Hp->VK->Prop):Prop:=
 ∀(pins:K7) (s:Shared) (σ:St) (H:Hp) (x:V) (v vl vu:Value) (lo hi:Option Int) (sl:Addr) (Q:VK),Inv X pins σ H s->RelV x v->s.heap.IsSliceOf sl vl vu .none->IsPart vl lo->IsPart vu hi->r x lo hi H Q->
  ∃T id,typeLookup (.type T) "__getitem__"=pure (some<|.builtin id)/\s.TypeIs v T/\wpAny (model X.prog X.w) X.A (getItem v<|.ref sl) (EP X pins σ Q) X.xe s
def SK.or {r r':V->Option Int->Option Int->Hp->VK->Prop}(h:SK X r)(h':SK X r'):SK X (λx lo hi H Q=>r x lo hi H Q\/r' x lo hi H Q):=by
 intro pins s σ H x v vl vu lo hi sl Q I rx hs pl pu q;rcases q with q|q
 ·exact h pins s σ H x v vl vu lo hi sl Q I rx hs pl pu q
 ·exact h' pins s σ H x v vl vu lo hi sl Q I rx hs pl pu q
def vz (r:V->Option Int->Option Int->Hp->VK->Prop)(te:TE)(tl th:TO):TE:=λσ H Q=>te σ H λx H1=>tl σ H1 λl H2=>th σ H2 λu H3=>r x l u H3 Q
def FE {r:V->Option Int->Option Int->Hp->VK->Prop}(hr:SK X r)(he:PE X e te)(hl:PO X lo tl)(hu:PO X hi th):PE X (.Subscript e (.Slice lo hi none p2) pos) (vz r te tl th):=by intro pins s σ H Q I h;refine Subscript_ (C4 (he pins s σ H _ I h) λv s1 ⟨x,H1,I1,r1,q1⟩=>?_);refine wpAny_Slice (C4 (hl pins s1 σ H1 _ I1 q1) λvl s2 ⟨l,H2,I2,pl,q2⟩=>C4 (hu pins s2 σ H2 _ I2 q2) λvu s3 ⟨u,H3,I3,pu,q3⟩=>?_);rw[evalPart_none];refine aAb ?_;have I4:Inv X pins σ H3 {s3 with heap:=s3.heap.push {cls:=.type "slice",data:=.fields #[vl,vu,.none]}}:=I3.kept (t':=s3.toks) λb ob q=>aAc _ q;obtain⟨T,id,hT,ht,hg⟩:=hr pins {s3 with heap:=s3.heap.push {cls:=.type "slice",data:=.fields #[vl,vu,.none]}} σ H3 x v vl vu l u s3.heap.objs.size Q I4 r1 (Heap.IsSliceOf.new ..) pl pu q3;show wpAny (model X.prog X.w) X.A (subscriptTail e (.Slice lo hi none p2) v<|.ref s3.heap.objs.size) (EP X pins σ Q) X.xe {s3 with heap:=s3.heap.push {cls:=.type "slice",data:=.fields #[vl,vu,.none]}};exact tail_any (ops:=[.ref s3.heap.objs.size,v]) ht hT hg (by with_unfolding_all rfl)
def uW (xs:List V)(lo hi:Option Int):List V:=(xs.drop<|HT.sIx xs.length 0 lo).take (HT.sIx xs.length xs.length hi-HT.sIx xs.length 0 lo)
def jD (xs:List V)(lo hi:Option Int):(uW xs lo hi).length<=xs.length:=by
 unfold uW;rw[aBj,aDs]
 lia
def UV (K:PySem.W.Frag):V->Option Int->Option Int->Hp->VK->Prop:=λx lo hi H Q=>∃a xs,x=.ref a/\V9 K H a xs/\
 ¬(HT.sIx xs.length 0 lo=0/\HT.sIx xs.length xs.length hi=xs.length)/\∀p,H p=none->Q (.ref p) (upd H p<|.tup (uW xs lo hi))
def UE:SK X (UV X.K):=by
 intro pins s σ H x v vl vu lo hi sl Q I rx hs pl pu h;obtain⟨a,xs,rfl,hx,hw,q⟩:=h;cases rx;obtain⟨its,r,ht,hz⟩:=I.tuple hx;have hlen:its.toArray.size=xs.length:=by rw[aAm];exact r.length.symm
 refine⟨"tuple",_,aCs.lookup,ht.typeIs,?_⟩;refine HT.getItem_tuple_cut ht hs pl pu (by rw[hlen];exact hw) ?_ (by rw[hlen];exact hz);rw[hlen];refine⟨.ref s.heap.objs.size,_,I.laid (t':=s.toks) (o:=.tup (uW xs lo hi)) (λb ob q=>aAc _ q) (aAg _) ?_,rfl,q _ (I.hok.fresh<|aAg _)⟩;exact⟨aAx (jD xs lo hi) hz,_,(r.drop<|HT.sIx xs.length 0 lo).take (HT.sIx xs.length xs.length hi-HT.sIx xs.length 0 lo),IsTup.new _ _⟩
def XB (K:PySem.W.Frag):R2:=λx y H Q=>∃a b xs ys,x=.ref a/\y=.ref b/\V9 K H a xs/\V9 K H b ys/\xs≠[]/\xs.length+ys.length<=sizeLine/\
 (ys=[]->Q (.ref a) H)/\(ys≠[]->∀p,H p=none->Q (.ref p) (upd H p<|.tup (xs++ys)))
def m6.ac4 (r:m6 xs us):us=[]↔xs=[]:=by
 cases r with
 |nil=>simp
 |cons _ _=>simp
def AH:gC X (binaryOp .Add) (XB X.K):=by intro pins s σ H x y v u Q I rx ry h;obtain⟨a,b,xs,ys,rfl,rfl,ha,hb,hx,hz,q1,q2⟩:=h;cases rx;cases ry;obtain⟨its,r1,p1,_⟩:=I.tuple ha;obtain⟨md,r2,p2,_⟩:=I.tuple hb;refine HT.cat_tup p1 p2 (λz=>hx (r1.ac4.mp z)) (λz=>⟨.ref a,H,I,rfl,q1 (r2.ac4.mp z)⟩) (λz=>?_) (by rw[<-r1.length,<-r2.length];exact hz);refine⟨.ref s.heap.objs.size,_,I.laid (t':=s.toks) (o:=.tup (xs++ys)) (λb ob q=>aAc _ q) (aAg _) ?_,rfl,q2 (λw=>z (r2.ac4.mpr w)) _ (I.hok.fresh<|aAg _)⟩;exact⟨by rw[aAz];exact hz,_,r1.append r2,IsTup.new _ _⟩
end
end L2
namespace L2
open PySem PySem.Spec PyProof.Rows
def ON (n:Nat)(i:Int):Option Nat:=if 0<=i then(if i<n then some i.toNat else none)else if-(n:Int)<=i then some (i+n).toNat else none
def fW {α:Type}(xs:List α)(i:Int):Option α:=(ON xs.length i).bind λj=>xs[j]?
def KY (h:ON n i=some j):seqIndex? i n=some j/\j<n/\-(n:Int)<=i/\i<n:=by
 unfold ON at h;by_cases h0:0<=i
 ·rw[if_pos h0]at h;by_cases h1:i<n
  ·rw[if_pos h1]at h;have e:i.toNat=j:=aAj h;exact⟨by rw[seqIndex_of h0 h1,e],by lia,by lia,h1⟩
  ·rw[if_neg h1]at h;cases h
 ·rw[if_neg h0]at h;by_cases h1:-(n:Int)<=i
  ·rw[if_pos h1]at h;have e:(i+n).toNat=j:=aAj h;exact⟨by rw[seqIndex_neg (by lia) h1,e],by lia,h1,by lia⟩
  ·rw[if_neg h1]at h;cases h
def zT {α:Type}{xs:List α}{i:Int}{v:α}(h:fW xs i=some v):∃j,seqIndex? i xs.length=some j/\xs[j]?=some v/\j<xs.length/\-(xs.length:Int)<=i/\i<xs.length:=by
 unfold fW at h;cases e:ON xs.length i with
 |none=>rw[e]at h;cases h
 |some j=>rw[e]at h;obtain⟨h1,h2,h3,h4⟩:=KY e;exact⟨j,h1,h,h2,h3,h4⟩
def NY (b:Expr):Prop:=∀o i,subscripted b false o i=operate [o,i] (getItem o i)
def jj (X:Cx)(r:R2):Prop:=
 ∀(value slice:Expr) (pins:K7) (s:Shared) (σ:St) (H:Hp) (x y:V) (v u:Value) (Q:VK),Inv X pins σ H s->RelV x v->RelV y u->r x y H Q->
  subscripted slice false v u=operate [v,u] (getItem v u)->wpAny (model X.prog X.w) X.A (subscriptTail value slice v u) (EP X pins σ Q) X.xe s
def ny (X:Cx)(id:String)(r:V->List V->Hp->VK->Prop):Prop:=
 ∀(pins:K7) (s:Shared) (σ:St) (H:Hp) (x:V) (xs:List V) (v:Value) (us:List Value) (Q:VK),Inv X pins σ H s->RelV x v->m6 xs us->r x xs H Q->
  wpAny (model X.prog X.w) X.A (call (.builtin id) (v::us)) (EP X pins σ Q) X.xe s
section
variable{X:Cx} {a b:Expr} {ta tb:TE} {pos:Pos}
def ZP (K:PySem.W.Frag):R2:=λx y H Q=>∃p xs i v,x=.ref p/\y=.int i/\N1 K H p xs/\fW xs i=some v/\Q v H
def fw (K:PySem.W.Frag):R2:=λx y H Q=>∃p xs i v,x=.ref p/\y=.int i/\V9 K H p xs/\fW xs i=some v/\Q v H
def LX:jj X (ZP X.K):=by
 intro value slice pins s σ H x y v u Q I rx ry h hs;obtain⟨p,xs,i,z,rfl,rfl,hq,he,q⟩:=h;cases rx;obtain⟨t,rfl⟩:=ry;obtain⟨its,r,pl,hz⟩:=I.list hq;obtain⟨j,h1,h2,h3,h4,h5⟩:=zT he;obtain⟨w,ew,rw'⟩:=r.get h2;have hl:=r.length;have hn:=yQ;have fin:EP X pins σ Q w s:=⟨z,H,I,rw',q⟩;by_cases h0:0<=i
 ·have hj:i.toNat=j:=by rw[seqIndex_of h0 h5]at h1;exact aAj h1
  exact item_listR pl.isList h0 (by lia) (by rw[hj];simpa using ew) fin hs
 ·have hj:(i+(its.toArray.size:Int)).toNat=j:=by rw[seqIndex_neg (by lia) h4]at h1;rw[aAm,<-hl];exact aAj h1
  exact subscriptTail_builtinR (x:=w) pl.isList.typeIs slot_list_getitem.lookup
   (wpAny_getItem_list_neg (Q:=λr s'=>r=w/\EP X pins σ Q r s') pl.isList (by lia) (by rw[aAm]<;>lia) (by lia) (by rw[hj];simpa using ew) ⟨rfl,fin⟩) hs
def RB:jj X (fw X.K):=by
 intro value slice pins s σ H x y v u Q I rx ry h hs;obtain⟨p,xs,i,z,rfl,rfl,hq,he,q⟩:=h;cases rx;obtain⟨t,rfl⟩:=ry;obtain⟨its,r,pl,hz⟩:=I.tuple hq;obtain⟨j,h1,h2,h3,h4,h5⟩:=zT he;obtain⟨w,ew,rw'⟩:=r.get h2;have hl:=r.length;have hn:=yQ;have fin:EP X pins σ Q w s:=⟨z,H,I,rw',q⟩;exact subscriptTail_builtinR (x:=w) pl.typeIs aCs.lookup
  (getItem_tuple (j:=j) (Q:=λr s'=>r=w/\EP X pins σ Q r s') pl (by lia) (by lia) (by rw[aAm,<-hl];exact h1) (by simpa using ew) ⟨rfl,fin⟩) hs
def rC (lo hi:Option Int)(n:Nat):(sliceBounds lo hi none n).1=((HT.sIx n 0 lo:Nat):Int)/\(sliceBounds lo hi none n).2.1=((HT.sIx n n hi:Nat):Int)/\(sliceBounds lo hi none n).2.2=1:=by
 refine⟨?_,?_,rfl⟩
 ·cases lo with
  |none=>simp[sliceBounds,HT.sIx]
  |some i=>
   simp only[sliceBounds,HT.sIx,Option.getD_none,show(1:Int)>0 by decide,if_true];by_cases h:i<0
   ·simp only[h,if_true]<;>lia
   ·simp only[h,if_false]<;>lia
 ·cases hi with
  |none=>simp[sliceBounds,HT.sIx]
  |some i=>
   simp only[sliceBounds,HT.sIx,Option.getD_none,show(1:Int)>0 by decide,if_true];by_cases h:i<0
   ·simp only[h,if_true]<;>lia
   ·simp only[h,if_false]<;>lia
def nR (its:List Value)(lo hi:Option Int):slicePick its.toArray lo hi none=((its.drop (HT.sIx its.length 0 lo)).take (HT.sIx its.length its.length hi-HT.sIx its.length 0 lo)).toArray:=by obtain⟨h1,h2,h3⟩:=rC lo hi its.toArray.size;unfold slicePick;rw[h1,h2,h3];simp only[sliceRange_one,pick_run,aAm]<;>rfl
def UT (K:PySem.W.Frag):V->Option Int->Option Int->Hp->VK->Prop:=λx lo hi H Q=>∃a xs,x=.ref a/\N1 K H a xs/\∀p,H p=none->Q (.ref p) (upd H p<|.lst (uW xs lo hi))
def LB:SK X (UT X.K):=by intro pins s σ H x v vl vu lo hi sl Q I rx hs pl pu h;obtain⟨a,xs,rfl,hx,q⟩:=h;cases rx;obtain⟨its,r,ht,hz⟩:=I.list hx;have hlen:=r.length;refine⟨"list",_,slot_list_getitem.lookup,ht.isList.typeIs,?_⟩;refine wpAny_getItem_list_slice ht.isList hs pl pu .none (by simp) ?_ (by rw[aAm]<;>lia);rw[nR,<-hlen];refine⟨.ref s.heap.objs.size,_,I.laid (t':=s.toks) (o:=.lst (uW xs lo hi)) (λb ob q=>aAc _ q) (aAg _) ?_,rfl,q _ (I.hok.fresh<|aAg _)⟩;exact⟨aAx (jD xs lo hi) hz,_,0,(r.drop<|HT.sIx xs.length 0 lo).take (HT.sIx xs.length xs.length hi-HT.sIx xs.length 0 lo),aAn _ rfl⟩
def lE:V->Bool
 |.non=>true
 |.bl _=>true
 |.int _=>true
 |.str _=>true
 |_=>false
def XT:V->V->Bool
 |.non,.non=>true
 |.bl a,.bl b=>a==b
 |.bl a,.int b=>(if a then 1 else 0)==b
 |.int a,.bl b=>a==(if b then 1 else 0)
 |.int a,.int b=>a==b
 |.str a,.str b=>a==b
 |_,_=>false
def yq (x:V)(u:Value):Bool:=match u with
 |.none=>XT .non x
 |.bool b=>XT (.bl b) x
 |.int i _=>XT (.int i) x
 |.str z _=>XT (.str z) x
 |_=>false
def fZ:mF X (.builtin "len") (λxs H Q=>∃p ys,xs=[.ref p]/\(N1 X.K H p ys\/V9 X.K H p ys)/\Q (.int ys.length) H):=by
 intro pins s σ H xs us Q I r h;obtain⟨p,ys,rfl,hq,q⟩:=h;obtain⟨u,rfl,rx⟩:=vals1 r;cases rx;have hn:=yQ;rcases hq with hq|hq
 ·obtain⟨its,r',pl,hz⟩:=I.list hq;have hlen:=r'.length;exact Calls.call_len_list pl.isList (by simp only[aAm]<;>lia) ⟨.int ys.length,H,I.tok _,⟨s.toks+1,by rw[aAm,hlen]⟩,q⟩
 ·obtain⟨its,r',pl,hz⟩:=I.tuple hq;have hlen:=r'.length;exact len_tuple pl (by simp only[aAm]<;>lia) ⟨.int ys.length,H,I.tok _,⟨s.toks+1,by rw[aAm,hlen]⟩,q⟩
def fJ:mF X (.type "list") (λxs H Q=>∃p ys,xs=[.ref p]/\(N1 X.K H p ys\/V9 X.K H p ys)/\∀l,H l=none->Q (.ref l) (upd H l (.lst ys))):=by
 intro pins s σ H xs us Q I r h;obtain⟨p,ys,rfl,hq,q⟩:=h;obtain⟨u,rfl,rx⟩:=vals1 r;cases rx;have fin:∀(its:List Value),m6 ys its->ys.length<=sizeLine->∀(h':Heap) (c':Nat),(∀b o',s.heap.get? b=some o'->h'.get? b=some o')->
   h'.get? s.heap.objs.size=some {cls:=.type "list",dict:=none,data:=.seq its.toArray c',slots:=#[]}->EP X pins σ Q (.ref s.heap.objs.size) {s with heap:=h'}:=λits r' hz h' c' kp e=>
  ⟨.ref s.heap.objs.size,_,I.laid (t':=s.toks) kp (aAg _) (show ObjOk X.prog X.w _ h' _ (.lst ys)from⟨hz,its,c',r',e⟩),rfl,q _ (I.hok.fresh<|aAg _)⟩
 rcases hq with hq|hq
 ·obtain⟨its,r',pl,hz⟩:=I.list hq;have hlen:=r'.length;obtain⟨o,ho,hc,n,hd⟩:=pl.isList;exact call_list_seq p (.inl rfl) ho hc hd (λh' c' kp e=>fin its r' hz h' c' kp e) (by simp only[aAm]<;>lia)
 ·obtain⟨its,r',pl,hz⟩:=I.tuple hq;have hlen:=r'.length;obtain⟨o,ho,hc,n,hd⟩:=pl;exact call_list_seq p (.inr rfl) ho hc hd (λh' c' kp e=>fin its r' hz h' c' kp e) (by simp only[aAm]<;>lia)
def cI:mF X (.type "tuple") (λxs H Q=>∃p ys,xs=[.ref p]/\((N1 X.K H p ys/\∀l,H l=none->Q (.ref l) (upd H l (.tup ys)))\/(V9 X.K H p ys/\Q (.ref p) H))):=by
 intro pins s σ H xs us Q I r h;obtain⟨p,ys,rfl,h⟩:=h;obtain⟨u,rfl,rx⟩:=vals1 r;cases rx;rcases h with⟨hq,q⟩|⟨hq,q⟩
 ·obtain⟨its,r',pl,hz⟩:=I.list hq;have hlen:=r'.length;refine call_tuple_list pl.isList (λh' kp=>?_) (by simp only[aAm]<;>lia);have I1:Inv X pins σ H {s with heap:=h'}:=I.kept (t':=s.toks) kp;have I2:Inv X pins σ (upd H h'.objs.size<|.tup ys) {s with heap:=h'.push {cls:=.type "tuple",data:=.seq its.toArray}}:=
   I1.laid (t':=s.toks) (λb o e=>aAc _ e) (aAg _) (show ObjOk X.prog X.w _ _ _ (.tup ys)from⟨hz,its,r',IsTup.new _ _⟩)
  exact⟨.ref h'.objs.size,_,I2,rfl,q _ (I1.hok.fresh<|aAg _)⟩
 ·obtain⟨its,r',pl,hz⟩:=I.tuple hq;exact call_tuple_same pl ⟨.ref p,H,I,rfl,q⟩
def YY (K : PySem.W.Frag) (T : String) (x : V) (H : Hp) : Prop := match x with
  | .str _ => T = "str"
  | .int _ => T = "int"
  | .ref p => (T = "list" ∧ ∃ xs, N1 K H p xs) ∨ (T = "tuple" ∧ ∃ o, K.lookup p = some o ∧ o.cls = .type "tuple" ∧ o.dict = none) ∨
      (T = "dict" ∧ ((∃ kvs, H p = some (.dK kvs)) ∨ ∃ kvs, H p = some (.dT kvs))) ∨ (T = "set" ∧ ∃ S n, H p = some (.set S n))
  | _ => False
def JB (I:Inv X pins σ H s)(r:RelV x v)(ty:YY X.K T x H):
  s.TypeIs v T/\∀a,v=.ref a->∃ob,s.heap.get? a=some ob/\ob.dict=none:=by
 cases x with
 |str z=>obtain⟨t,rfl⟩:=r;cases(show T= "str"from ty);exact⟨typeIs_str s z t,λ_ e=>nomatch e⟩
 |int i=>obtain⟨t,rfl⟩:=r;cases(show T= "int"from ty);exact⟨typeIs_int s i t,λ_ e=>nomatch e⟩
 |ref p=>
  cases r;rcases ty with⟨rfl,xs,hq⟩|⟨rfl,o,hk,hc,hd⟩|⟨rfl,hk⟩|⟨rfl,S,n,hk⟩
  ·obtain⟨its,_,pl,_⟩:=I.list hq;refine⟨pl.isList.typeIs,λa e=>?_⟩;cases e;obtain⟨o,n,e,c,hd,_⟩:=pl;exact⟨o,e,hd⟩
  ·refine⟨⟨o,I.kIn p o hk,hc⟩,λa e=>?_⟩;cases e;exact⟨o,I.kIn _ o hk,hd⟩
  ·have z:∃o,s.heap.get? p=some o/\o.ExactDict:=by
    rcases hk with⟨kvs,hk⟩|⟨kvs,hk⟩
    ·obtain⟨_,_,_,_,o,_,_,e,ex,_⟩:=I.hok p _ hk;exact⟨o,e,ex⟩
    ·obtain⟨_,_,_,_,o,_,_,e,ex,_⟩:=I.hok p _ hk;exact⟨o,e,ex⟩
   obtain⟨o,e,ex⟩:=z;refine⟨⟨o,e,ex.1⟩,λa e2=>?_⟩;cases e2;exact⟨o,e,ex.2.1⟩
  ·obtain⟨o,_,_,_,e,ex,_⟩:=I.hok p _ hk;refine⟨⟨o,e,ex.1⟩,λa e2=>?_⟩;cases e2;exact⟨o,e,ex.2.1⟩
 |_=>exact aAh ty
def cy (K:PySem.W.Frag)(T:String)(r:V->List V->Hp->VK->Prop)(to:TE):TE:=λσ H Q=>to σ H λx H1=>YY K T x H1/\r x [] H1 Q
def xz (K:PySem.W.Frag)(T:String)(r:V->List V->Hp->VK->Prop)(to:TE)(t:TA):TE:=λσ H Q=>to σ H λx H1=>YY K T x H1/\t σ H1 λxs H2=>r x xs H2 Q
variable{o e:Expr} {es:List Expr} {to:TE} {t:TA} {name:Str} {apos bp:Pos} {T id:String} {r:V->List V->Hp->VK->Prop}
def ES (pa:PlainAttrs T)(slot:Slot T name id)(hty:typeOf (.builtin id)=pure (.type "method_descriptor"))(hm:ny X id r)(ho:PE X o to)
  (ie:attributeBase o name X.env (eval o X.env)=eval o X.env:=by rfl) (fm:(apos.endLine==bp.line)=true:=by rfl):PE X (.Call (.Attribute o name apos) [] [] bp) (cy X.K T r to):=by
 intro pins s σ H Q I h;refine wpAny_Call_method0_late ie fm (C4 (ho pins s σ H _ I h) λv s1 ⟨x,H1,I1,r1,ty,q1⟩=>?_);obtain⟨h1,h2⟩:=JB I1 r1 ty;exact⟨T,id,pa,slot,hty,h1,h2,aFk rfl (PySem.evalArgs_none<|hm pins s1 σ H1 x [] v [] Q I1 r1 .nil q1)⟩
def PJ (pa:PlainAttrs T)(slot:Slot T name id)(hty:typeOf (.builtin id)=pure (.type "method_descriptor"))(hm:ny X id r)(ho:PE X o to)(ha:PA X (e::es) t)
  (ie:attributeBase o name X.env (eval o X.env)=eval o X.env:=by rfl)
  (wg:((backTo bp (starEach (e::es) X.env)).all (λx=>!x.1)&&(backToKw bp (keywordEach [] X.env)).all (λx=>x.1.isSome)
   &&decide ((e::es).length+([]:List Keyword).length+(if([]:List Keyword).isEmpty then 0 else 1)<30))=true:=by rfl)
  (fm:(apos.endLine==bp.line)=true:=by rfl) (hs:starEach (e::es) X.env=(false,eval e X.env)::starEach es X.env:=by rfl) (kh:(backTo bp (starEach es X.env)).any (·.1)=false:=by rfl):
  PE X (.Call (.Attribute o name apos) (e::es) [] bp) (xz X.K T r to t):=by
 intro pins s σ H Q I h;refine wpAny_Call_method_late ie wg fm rfl (C4 (ho pins s σ H _ I h) λv s1 ⟨x,H1,I1,r1,ty,q1⟩=>?_);obtain⟨h1,h2⟩:=JB I1 r1 ty;refine⟨T,id,pa,slot,hty,h1,h2,?_⟩;have hA:=ha bp pins s1 σ H1 _ I1 q1;rw[hs]at hA⊢;refine aFk (by show(false||(backTo bp<|starEach es X.env).any (·.1))=false;rw[kh]<;>rfl) (aFB ?_);exact C4 hA λus s2 ⟨vs,H2,I2,r2,q2⟩=>hm pins s2 σ H2 x vs v us Q I2 r1 r2 q2
end
end L2
namespace L2
open PySem PySem.Spec PyProof.Rows
def ZX (X:Cx)(id:String)(r:V->List V->Hp->VK->Prop):Prop:=
 ∀(pins:K7) (s:Shared) (σ:St) (H:Hp) (x:V) (xs:List V) (v:Value) (us:List Value) (Q:VK),Inv X pins σ H s->RelV x v->m6 xs us->r x xs H Q->
  wpAny (model X.prog X.w) X.A (call (.builtin id) (v::us)) (EP X pins σ Q) X.xe s
theorem m6.one:∀{x:V} {us:List Value},m6 [x] us->∃u,us=[u]/\RelV x u
 |_,_,.cons r .nil=>⟨_,rfl,r⟩
theorem m6.zero:∀{us:List Value},m6 [] us->us=[]
 |_,.nil=>rfl
def m6.dropLast (h:m6 xs us):m6 xs.dropLast us.dropLast:=by
 induction h with
 |nil=>exact .nil
 |cons r t ih=>
  cases t with
  |nil=>exact .nil
  |cons q t'=>exact .cons r ih
theorem m6.rep (h:m6 xs us):∀k:Nat,m6 (aAD k xs).flatten (aAD k us).flatten
 |0=>.nil
 |k+1=>by rw[aBh,aBh,aBZ,aBZ];exact m6.append h (m6.rep h k)
def xQ {α:Type}(l:List α):l.eraseIdx (l.length-1)=l.dropLast:=by
 induction l with
 |nil=>rfl
 |cons a r ih=>
  cases r with
  |nil=>rfl
  |cons b r=>
   have e:(a::b::r).length-1=((b::r).length-1)+1:=by
    have h1:(a::b::r).length=r.length+2:=rfl;have h2:(b::r).length=r.length+1:=rfl
    lia
   rw[e,aEZ,ih]
   all_goals rfl
theorem foldl_rep (its:List Value):∀(k:Nat) (acc:List Value),
  aGe (λx1 x2=>x1++x2) acc.toArray (aAD k its.toArray)=(acc++(aAD k its).flatten).toArray
 |0,acc=>by simp
 |k+1,acc=>by
  have e:acc.toArray++its.toArray=(acc++its).toArray:=by simp
  have e2:(acc++its)++(aAD k its).flatten=acc++(aAD (k+1) its).flatten:=by rw[aBh,aBZ,aDi]
  rw[<-e2,<-foldl_rep its k (acc++its),<-e,aBh,aEj]
section
variable{X:Cx} {pins:K7} {σ:St} {H:Hp} {s:Shared} {l b:Addr} {xs ys zs:List V}
def Inv.af0 {its its':List Value}{n:Nat}{f:Array Value->Array Value}{t':Nat}(I:Inv X pins σ H s)(hH:H l=some (.lst xs))
  (e:s.heap.get? l=some {cls:=.type "list",data:=.seq its.toArray n}) (hf:f its.toArray=its'.toArray) (hv:m6 ys its') (hz:ys.length<=sizeLine):
  Inv X pins σ (upd H l (.lst ys)) {s with heap:=s.heap.update l (aBD f),toks:=t'}:=by
 have q:=PySem.IsL.update e f;rw[hf]at q;refine I.write (x:=l) (e:=l) (by rw[hH];exact trivial) (.inl rfl) (λb' u hb hu=>(aAB s.heap (aBD f)<|aCm hb).trans hu) ⟨_,q⟩ ?_;exact⟨hz,its',_,hv,q⟩
def Inv.af5 (I:Inv X pins σ H s)(hv:m6 ys its)(hz:ys.length<=sizeLine):
  Inv X pins σ (upd H s.heap.objs.size (.lst ys)) {s with heap:=s.heap.push {cls:=.type "list",data:=.seq its.toArray},toks:=t'}:=
 I.laid (λ_ _ q=>aAc _ q) (aAg _) ⟨hz,its,0,hv,aAn _ rfl⟩
def Inv.fresh (I:Inv X pins σ H s):H s.heap.objs.size=none:=I.hok.fresh (aAg _)
def Inv.ae3 (I:Inv X pins σ H s)(hH:H l=some (.lst xs)):xs.length<=sizeLine/\∃(its:List Value) (n:Nat),m6 xs its/\xs.length=its.length/\s.heap.get? l=some {cls:=.type "list",data:=.seq its.toArray n}:=by obtain⟨z,its,n,r,e⟩:=I.hok l _ hH;exact⟨z,its,n,r,r.length,e⟩
def uS (h:n<=sizeLine):aCk n=false:=by unfold aCk;exact decide_eq_false (by lia)
end
section
variable{X:Cx}
def OJ:V->List V->Hp->VK->Prop:=λx vs H Q=>∃l xs y,x=.ref l/\vs=[y]/\H l=some (.lst xs)/\xs.length<sizeLine/\Q .non (upd H l<|.lst (xs++[y]))
def oD:ZX X "list.append" OJ:=by
 intro pins s σ H x vs v us Q I rx rv h;obtain⟨l,xs,y,rfl,rfl,hH,hz,q⟩:=h;cases rx;obtain⟨u,rfl,ru⟩:=rv.one;obtain⟨z,its,n,r,hl,e⟩:=I.ae3 hH;refine aFz F.slot_list_append ⟨_,e,rfl⟩ F.entry_list_append (F.args_list_append_2 _ _) (PySem.list_append l its.toArray n u (by rw[aAm];lia)) ⟨e,?_⟩;refine⟨.non,_,I.af0 (its':=its++[u]) hH e (by simp) (r.append<|.cons ru .nil) ?_,rfl,q⟩;rw[aAz,List.length_singleton]
 lia
def ak:V->List V->Hp->VK->Prop:=λx vs H Q=>∃l xs y,x=.ref l/\vs=[]/\H l=some (.lst xs)/\xs[xs.length-1]?=some y/\Q y (upd H l<|.lst xs.dropLast)
def KI:ZX X "list.pop" ak:=by
 intro pins s σ H x vs v us Q I rx rv h;obtain⟨l,xs,y,rfl,rfl,hH,hy,q⟩:=h;cases rx;have hus:=rv.zero;subst hus;obtain⟨z,its,n,r,hl,e⟩:=I.ae3 hH;obtain⟨u,hu,ru⟩:=r.get hy;have hy':its.toArray[its.toArray.size-1]?=some u:=by show its.toArray[its.length-1]?=some u;rw[<-aAA,<-hl];exact hu
 refine aFz F.slot_list_pop ⟨_,e,rfl⟩ F.entry_list_pop (F.args_list_pop_1 _) (MeetsSeq.list_pop_last l its.toArray n u hy' (by rw[aAm];lia)) ⟨e,?_⟩;refine⟨y,_,I.af0 (its':=its.dropLast) hH e ?_ r.dropLast ?_,ru,q⟩
 ·show its.toArray.eraseIdxIfInBounds (its.toArray.size-1)=its.dropLast.toArray;rw[aAm,List.eraseIdxIfInBounds_toArray,xQ]
 ·rw[aFC]
  lia
def WD:R2:=λx y H Q=>∃l k xs,x=.ref l/\y=.int k/\H l=some (.lst xs)/\-(2^63)<=k/\k<2^63/\xs.length*k.toNat<=sizeLine/\
 ∀p,H p=none->Q (.ref p) (upd H p<|.lst (aAD k.toNat xs).flatten)
def MO {α:Type}(xs:List α)(k:Nat):(aAD k xs).flatten.length=k*xs.length:=by
 induction k with
 |zero=>simp
 |succ k ih=>rw[aBh,aBZ,aAz,ih,Nat.succ_mul,Nat.add_comm]
def SY:gC X (binaryOp .Mult) WD:=by
 intro pins s σ H x y v u Q I rx ry h;obtain⟨l,k,xs,rfl,rfl,hH,h1,h2,hz,q⟩:=h;cases rx;obtain⟨t,rfl⟩:=ry;obtain⟨z,its,n,r,hl,e⟩:=I.ae3 hH;have hlen:its.toArray.size*k.toNat<=sizeLine:=by rw[aAm,<-hl];exact hz
 have hcap:¬its.toArray.size*k.toNat>(2^63-1)/8:=by
  have:(sizeLine:Nat)<=(2^63-1)/8:=by decide
  lia
 have hfit:¬(!Builtin.List.listFitsIndex k)=true:=by rw[fitsIndex_both h1 h2];exact aAL
 have wm:¬aCk (its.toArray.size*k.toNat)=true:=by rw[uS hlen];exact aAL
 have ki:aGe (λx1 x2=>x1++x2) #[] (aAD (if its.toArray.isEmpty=true then 0 else k.toNat) its.toArray)=(aAD k.toNat its).flatten.toArray:=by
  have f0:∀m:Nat,aGe (λx1 x2=>x1++x2) #[] (aAD m its.toArray)=(aAD m its).flatten.toArray:=λm=>by have:=foldl_rep its m [];rw[aDe]at this;exact this
  rw[f0];cases its with
  |nil=>simp
  |cons a r'=>rw[if_neg (by simp)]
 refine wpAny_binaryOp_repeat_ref (T:= "list") (U:= "int") (by decide) ⟨_,e,rfl⟩ (λs'=>typeIs_int s' k t) noFill_list_mul F.fills_int_mul F.slot_int_rmul repeat_list F.slot_int_index.lookup
  (aFz F.slot_int_rmul (typeIs_int s k t) F.entry_int_rmul (F.args_int_rmul_2 _ _) (int___rmul___int_list k t l its.toArray n)
   ⟨e,rfl,⟨_,e,rfl⟩,aFz F.slot_list_mul ⟨_,e,rfl⟩ F.entry_list_mul (F.args_list_mul_2 _ _) (AutoListH.list___mul___list_int_3 l its.toArray n k t hfit hcap wm) ⟨e,?_⟩⟩)
 rw[ki];exact⟨.ref _,_,I.af5 (t':=s.toks) (r.rep k.toNat) (by rw[MO,Nat.mul_comm];exact hz),rfl,q _ I.fresh⟩
end
section
variable{prog:Program} {w:World} {A:Around} {E:C5} {s:Shared}
end
section
variable{X:Cx}
end
end L2
namespace Att
open PySem PySem.W PySem.Calls PyProof.Rows
def jT:∀(ns:List Int) (vs:List Value),WellAll P h vs (ns.map WData.int)->IntsAre vs ns:=by
 intro ns;induction ns with
 |nil=>intro vs w;rw[aDR]at w;cases w;exact .nil
 |cons n ns ih=>
  intro vs w;rw[aAs]at w;cases w with
  |cons a b=>cases a;exact .cons _ _ (ih _ b)
def script_of {l:OpenLaw}{n:Nat}(hn:l.most=some n){P:Params}{h:Heap}{args:List WData}{vals:List Value}
  (yr:l.row.toRowW.claim.pre args=true) (uc:WellAll P h vals args):
  ∃a vs ns,vals=[aCJ a]/\args=[WData.list (ns.map WData.int)]/\h.get? a=some {cls:=.type "list",data:=.seq vs.toArray}/\IntsAre vs ns/\ns.length<=n:=by
 have hsh:WShape.hasAll [] args [.list .int]=true:=(pre_splitW yr).1;have hc:l.pre.holds [] {args:=args}=true:=(pre_splitW yr).2;obtain⟨d,r,rfl,h1,h2⟩:=hasAllW_cons hsh;obtain rfl:=hasAllW_nil h2;obtain⟨xs,rfl,h3⟩:=hasW_list h1;obtain⟨ns,rfl⟩:=items_int h3;have hlen:ns.length<=n:=by
  unfold OpenLaw.pre at hc;have h4:(WTm.not<|.lt (.lit (.int (n:Int))) (.len (.arg 0))).holds [] {args:=[.list (ns.map .int)]}=true:=by have h4:=(holds_andW hc).1;rw[hn]at h4;exact h4
  have h5:=condW_of h4 (w_not<|w_lt w_lit<|w_len_list<|w_arg rfl);rw[aAl]at h5;refine aDY λq=>?_;have q':(n:Int)<((ns.length:Nat):Int):=by lia
  first
   |(rw[decide_eq_true q']at h5;exact absurd h5 (by decide))
   |(simp at h5;lia)
 cases uc with
 |cons w1 w2=>
  cases w2;cases w1 with
  |list ho ql=>exact⟨_,_,ns,rfl,rfl,ho,jT ns _ ql,hlen⟩
def post_true (l:OpenLaw)(args:List WData):l.row.toRowW.claim.post args (.bool true) args=true:=
 postW_of (r:=l.row.toRowW) (X:=(true==true))
  (show WShape.has [] (.bool true) .bool=true by first|rfl|decide|simp[WShape.has,WShape.arms,WShape.armsAll])
  (show(WTm.eq .res (.lit (.bool true))).value [] {args:=args,res:=some (.bool true),after:=args}=some (.bool (true==true))from w_eq_bool (w_res rfl) w_lit) rfl
section
variable{prog:Program} {w:World} {A:Around} {E:C5} {s:Shared} {K:Frag}
def bw (h:Heap):Heap:={h with objs:=#[]}
def YT (h:Heap)(L d:Addr):List (Addr×Obj):=(aBb h.objs.size).filterMap λa=>if a=L\/a=d then none else(h.get? a).map λo=>(a,o)
end
end Att
namespace L2
open PySem PySem.Spec PyProof.Rows
theorem pJ:∀{vs:List Value} {ns:List Int},IntsAre vs ns->m6 (ns.map V.int) vs
 |_,_,.nil=>.nil
 |_,_,.cons n t h=>.cons ⟨t,rfl⟩ (pJ h)
end L2
namespace L2
open PySem PySem.Spec PyProof.Rows
end L2
namespace L2
open PySem PySem.Spec PyProof.Rows
def D7 (s:Stmt):Arguments:=match s with
 |.FunctionDef _ a _ _ _ _ _ _ _ _=>a
 |_=>{posonlyargs:=[],args:=[],vararg:=none,kwonlyargs:=[],kw_defaults:=[],kwarg:=none,defaults:=[]}
def o6 (s:Stmt):List Stmt:=match s with
 |.FunctionDef _ _ b _ _ _ _ _ _ _=>b
 |_=>[]
def c5 (s:Stmt):Scope:=match s with
 |.FunctionDef _ _ _ _ _ _ sc _ _ _=>sc
 |_=>{kind:=.function,names:=[],isGenerator:=false,isCoroutine:=false}
abbrev rG:GS:=λ_ _ _ _ _ _=>False
abbrev E0:XK:=λ_ _ _=>False
def VH:mJ rG X E0:=λ_ _ _ _ _ _ _ h=>h.elim
structure Fun (K:PySem.W.Frag)(x qual:Str)(st:Stmt)(f:Addr)(fd:FuncData):Prop where
 ex:∃(oc:Value) (od:Option Addr) (kV doc pm:Value) (an:Option Addr) (cdv ct:Value) (osl:Array (Option Value)),
  fd=PySem.W.fnOf x qual (D7 st) (o6 st) (c5 st) .none kV doc pm an cdv ct/\K.lookup f=some ⟨oc,od,.func fd,osl⟩/\PySem.W.codeIn K cdv qual=true
 kp:PySem.W.keepIn K (.ref f)=true
section
variable{P:Program} {w:World} {K:PySem.W.Frag} {mg:V5} {base:Heap}
def Fun.ok {x qual:Str}{st:Stmt}{f:Addr}{fd:FuncData}{N ps:List Str}{k:Nat}{sp:Sp}(F:Fun K x qual st f fd)(S:FnScope N ps (c5 st))(len:∀vs H Q E,sp vs H Q E->vs.length=ps.length)
  (vo:∀(cdv:Value) (A:Around) (outer:List Env) (s:Shared) (H:Hp) (vs:List V) (Q:VK) (E:XK),Room k (A.deeper (envOfC qual (c5 st) s.heap.objs.size f cdv))->sp vs H Q E->
   ∃t,qT (qV rG P w K mg base N qual (c5 st) f cdv A outer s H E).nox (o6 st) t/\t {nx:=λ_ H'=>Q .non H',rt:=Q} (start N vs) H):FnOk P w K mg base rG (k+1) f fd ps sp:=by
 obtain⟨oc,od,kV,doc,pm,an,cdv,ct,osl,rfl,lk,gc⟩:=F.ex;refine JR lk gc S len λA outer s H vs Q E hr hsp=>?_;obtain⟨t,h,q⟩:=vo cdv A outer s H vs Q E hr hsp;exact⟨t,h.nox,q⟩
def Fun.binds {x qual:Str}{st:Stmt}{f:Addr}{fd:FuncData}{ps:List Str}(F:Fun K x qual st f fd)
  (h:∀(kV doc pm:Value) (an:Option Addr) (cdv ct:Value) (us:List Value),us.length=ps.length->bindArgs (PySem.W.fnOf x qual (D7 st) (o6 st) (c5 st) .none kV doc pm an cdv ct) ⟨us,[]⟩=pure (ps.zip us)):Binds K fd ps []:=by
 obtain⟨oc,od,kV,doc,pm,an,cdv,ct,osl,rfl,lk,gc⟩:=F.ex;exact .all (h kV doc pm an cdv ct)
def IU {x qual:Str}{st:Stmt}{f:Addr}{oc:Value}{od an:Option Addr}{osl:Array (Option Value)}{kV doc pm cdv ct:Value}(l:K.lookup f=some ⟨oc,od,.func (PySem.W.fnOf x qual (D7 st) (o6 st) (c5 st) .none kV doc pm an cdv ct),osl⟩)
 (c:PySem.W.codeIn K cdv qual=true) (k:PySem.W.keepIn K (.ref f)=true):Fun K x qual st f (PySem.W.fnOf x qual (D7 st) (o6 st) (c5 st) .none kV doc pm an cdv ct):=⟨⟨oc,od,kV,doc,pm,an,cdv,ct,osl,rfl,l,c⟩,k⟩
end
def CF (h:n<=1000):n<sizeLine:=aCC h (by decide)
section
variable{X:Cx}
end
def Same (H H':Hp):Prop:=∀b o,H b=some o->H' b=some o
def Same.refl (H:Hp):Same H H:=λ_ _ h=>h
def Same.trans (a:Same H H1)(b:Same H1 H2):Same H H2:=λc o h=>b c o (a c o h)
def Same.seq {K:PySem.W.Frag}{H H':Hp}{a:Addr}{xs:List V}(e:Same H H')(h:N1 K H a xs):N1 K H' a xs:=by
 rcases h with(h|⟨o,h⟩)|h
 ·exact .inl (.inl (e _ _ h))
 ·exact .inl (.inr ⟨o,e _ _ h⟩)
 ·exact .inr h
end L2
namespace DL
open PySem PySem.Spec L2
open PyProof.Rows hiding St
inductive D where
 |non|bl (b:Bool)|int (i:Int)|str (x:Str)|tup (xs:List D)|lst (xs:List D)|dct
mutual
def m9:D->Int
 |.int i=>hashInt i
 |.tup xs=>reduceHash (aAH (rO xs))
 |_=>0
def rO:List D->List Int
 |[]=>[]
 |x::xs=>m9 x::rO xs
end
def Q3:Nat->D->Bool
 |_,.int _=>true
 |n+1,.tup xs=>xs.all (Q3 n)
 |_,_=>false
inductive R (α:Type)where
 |ok (a:α)|ex (e:Str)|bad
def R.bind {α β:Type}:R α->(α->R β)->R β
 |.ok a,f=>f a
 |.ex e,_=>.ex e
 |.bad,_=>.bad
@[simp]def R.aa0 {α β:Type}(a:α)(f:α->R β):(R.ok a).bind f=f a:=rfl
@[simp]def R.af7 {α β:Type}(e:Str)(f:α->R β):(R.ex e:R α).bind f=.ex e:=rfl
@[simp]def R.af6 {α β:Type}(f:α->R β):(R.bad:R α).bind f=.bad:=rfl
section
variable(K:PySem.W.Frag) (H:Hp) (O:Addr->Prop)
mutual
inductive Rep:V->D->Prop
 |non:Rep .non .non
 |bl {b:Bool}:Rep (.bl b) (.bl b)
 |int {i:Int}:Rep (.int i) (.int i)
 |str {x:Str}:Rep (.str x) (.str x)
 |tup {a:Addr} {vs:List V} {ds:List D} (h:V9 K H a vs) (r:Reps vs ds):Rep (.ref a) (.tup ds)
 |lst {a:Addr} {vs:List V} {ds:List D} (h:N1 K H a vs) (n:¬O a) (r:Reps vs ds):Rep (.ref a) (.lst ds)
 |dct {a:Addr} {o:Obj} (h:H a=some (.ext λh=>h.get? a=some o)) (x:o.ExactDict) (n:¬O a):Rep (.ref a) .dct
inductive Reps:List V->List D->Prop
 |nil:Reps [] []
 |cons {v:V} {d:D} {vs:List V} {ds:List D} (h:Rep v d) (t:Reps vs ds):Reps (v::vs) (d::ds)
end
end
section
variable{K:PySem.W.Frag}
def _root_.L2.Same.tup {a:Addr}{xs:List V}(e:Same H H')(h:V9 K H a xs):V9 K H' a xs:=by
 rcases h with(h|⟨o,h⟩)|h
 ·exact .inl (.inl (e _ _ h))
 ·exact .inl (.inr ⟨o,e _ _ h⟩)
 ·exact .inr h
mutual
theorem Rep.mono (hT:∀a xs,V9 K H a xs->V9 K H' a xs)(hL:∀a xs,¬O a->N1 K H a xs->¬O' a/\N1 K H' a xs)(hD:∀a φ,¬O a->H a=some (.ext φ)->¬O' a/\H' a=some (.ext φ)):∀{v:V} {d:D},Rep K H O v d->Rep K H' O' v d
 |_,_,.non=>.non
 |_,_,.bl=>.bl
 |_,_,.int=>.int
 |_,_,.str=>.str
 |_,_,.tup h r=>.tup (hT _ _ h) (Reps.mono hT hL hD r)
 |_,_,.lst h n r=>.lst (hL _ _ n h).2 (hL _ _ n h).1 (Reps.mono hT hL hD r)
 |_,_,.dct h x n=>.dct (hD _ _ n h).2 x (hD _ _ n h).1
theorem Reps.mono (hT:∀a xs,V9 K H a xs->V9 K H' a xs)(hL:∀a xs,¬O a->N1 K H a xs->¬O' a/\N1 K H' a xs)(hD:∀a φ,¬O a->H a=some (.ext φ)->¬O' a/\H' a=some (.ext φ)):∀{vs:List V} {ds:List D},Reps K H O vs ds->Reps K H' O' vs ds
 |_,_,.nil=>.nil
 |_,_,.cons h t=>.cons (Rep.mono hT hL hD h) (Reps.mono hT hL hD t)
end
def Rep.same (e:Same H H')(r:Rep K H O v d):Rep K H' O v d:=r.mono (λ_ _ h=>e.tup h) (λ_ _ n h=>⟨n,e.seq h⟩) λ_ _ n h=>⟨n,e _ _ h⟩
def Reps.same (e:Same H H')(r:Reps K H O v d):Reps K H' O v d:=r.mono (λ_ _ h=>e.tup h) (λ_ _ n h=>⟨n,e.seq h⟩) λ_ _ n h=>⟨n,e _ _ h⟩
def Rep.sub (e:∀a,O' a->O a)(r:Rep K H O v d):Rep K H O' v d:=r.mono (λ_ _ h=>h) (λ_ _ n h=>⟨λz=>n (e _ z),h⟩) λ_ _ n h=>⟨λz=>n (e _ z),h⟩
def Reps.sub (e:∀a,O' a->O a)(r:Reps K H O v d):Reps K H O' v d:=r.mono (λ_ _ h=>h) (λ_ _ n h=>⟨λz=>n (e _ z),h⟩) λ_ _ n h=>⟨λz=>n (e _ z),h⟩
theorem Reps.length:∀{vs:List V} {ds:List D},Reps K H O vs ds->vs.length=ds.length
 |_,_,.nil=>rfl
 |_,_,.cons _ t=>by simp[Reps.length t]
theorem Reps.get:∀{vs:List V} {ds:List D} {i:Nat} {d:D},Reps K H O vs ds->ds[i]?=some d->∃v,vs[i]?=some v/\Rep K H O v d
 |_,_,_,_,.nil,e=>by simp at e
 |_,_,0,_,.cons r _,e=>by simp at e;subst e;exact⟨_,rfl,r⟩
 |_,_,i+1,d,.cons _ t,e=>by obtain⟨u,h1,h2⟩:=Reps.get (i:=i) (d:=d) t (by simpa using e);exact⟨u,by simpa using h1,h2⟩
theorem Reps.append:∀{vs ws:List V} {ds es:List D},Reps K H O vs ds->Reps K H O ws es->Reps K H O (vs++ws) (ds++es)
 |_,_,_,_,.nil,s=>s
 |_,_,_,_,.cons r t,s=>.cons r (Reps.append t s)
theorem Reps.take:∀{vs:List V} {ds:List D} (n:Nat),Reps K H O vs ds->Reps K H O (vs.take n) (ds.take n)
 |_,_,0,_=>.nil
 |_,_,_+1,.nil=>.nil
 |_,_,n+1,.cons r t=>.cons r (Reps.take n t)
theorem Reps.drop:∀{vs:List V} {ds:List D} (n:Nat),Reps K H O vs ds->Reps K H O (vs.drop n) (ds.drop n)
 |_,_,0,r=>r
 |_,_,_+1,.nil=>.nil
 |_,_,n+1,.cons _ t=>Reps.drop n t
def Reps.dropLast (r:Reps K H O vs ds):Reps K H O vs.dropLast ds.dropLast:=by rw[aDS,aDS,r.length];exact r.take _
def Reps.snoc (r:Reps K H O vs ds)(h:Rep K H O v d):Reps K H O (vs++[v]) (ds++[d]):=r.append (.cons h .nil)
theorem Reps.ints:∀(ns:List Int),Reps K H O (ns.map V.int) (ns.map D.int)
 |[]=>.nil
 |_::ns=>.cons .int (Reps.ints ns)
theorem Reps.reverse:∀{vs:List V} {ds:List D},Reps K H O vs ds->Reps K H O vs.reverse ds.reverse
 |_,_,.nil=>.nil
 |_,_,.cons r t=>by rw[aAO,aAO];exact(Reps.reverse t).snoc r
end
def Kp (H:Hp)(O:Addr->Prop)(H':Hp)(O':Addr->Prop):Prop:=∀b o,H b=some o->¬O b->H' b=some o/\¬O' b
section
def Kp.refl (H:Hp)(O:Addr->Prop):Kp H O H O:=λ_ _ h n=>⟨h,n⟩
def Kp.of (s:Same H H'):Kp H O H' O:=λb o h n=>⟨s b o h,n⟩
def Kp.trans (a:Kp H O H' O')(b:Kp H' O' H'' O''):Kp H O H'' O'':=λc o h n=>let⟨h1,n1⟩:=a c o h n;b c o h1 n1
end
class Tabs where
 tbs:List (Addr×List (Pos×Str))
inductive Sl where
 |no|v (d:D)|o (xs:List D)|x (C:Value)|c (m:List D->R D) (φ:Hp->(Addr->Prop)->Addr->Prop)|d (kvs:List (D×D))
abbrev Ev:=List Sl
def Mt:HO->Prop
 |.lst _=>True
 |.dK _=>True
 |.dT _=>True
 |.ext _=>True
 |_=>False
def mL (K:PySem.W.Frag)(H:Hp)(O:Addr->Prop)(es:List DictEntry)(kvs:List (D×D)):Prop:=
 Paired (λ(e:DictEntry) (p:D×D)=>(∃a,e.key=.ref a/\Rep K H O (.ref a) p.1)/\(∃v,RelV v e.val/\Rep K H O v p.2)/\e.hash=m9 p.1/\Q3 7 p.1=true) es kvs
def KG (a:Addr)(o:Obj)(es:List DictEntry):Prop:=(a==sysModules)=false/\o.ExactDict/\∃ea ep,o.data=.dict ea ep/\ea.toList=es
def CD:Sl->Prop
 |.o _=>True
 |.d _=>True
 |_=>False
section
variable(K:PySem.W.Frag) (Ha H:Hp) (O:Addr->Prop)
def fK (x:Option (Option V)):Sl->Prop
 |.no=>True
 |.v d=>∃v,x=some (some v)/\Rep K H O v d
 |.o xs=>∃a vs,x=some (some (V.ref a))/\O a/\Ha a=none/\H a=some (.lst vs)/\Reps K H O vs xs
 |.x C=>∃a o,x=some (some (V.ref a))/\H a=some (.frz o (.own a))/\o.cls=C
 |.c m φ=>∃a,x=some (some (V.ref a))/\∀H2 O2,Kp H O H2 O2->φ H2 O2 a
 |.d kvs=>∃a o es,x=some (some (V.ref a))/\O a/\Ha a=none/\H a=some (.ext λh=>h.get? a=some o)/\KG a o es/\mL K H O es kvs/\(kvs.map (·.1)).Nodup
end
variable [Tabs]
def Tb (H:Hp):Prop:=∀p∈Tabs.tbs,H p.1=some (.tbl p.2)
structure EnvOk (K:PySem.W.Frag)(Ha:Hp)(O0:Addr->Prop)(H:Hp)(O:Addr->Prop)(σ:St)(ρ:Ev):Prop where
 len:σ.length=ρ.length
 same:Same Ha H
 sub:∀a,O0 a->O a
 trk:∀a,O a->∃o,H a=some o/\Mt o
 trk0:∀a,O0 a->∃o,Ha a=some o
 tab:Tb H
 slot:∀(i:Nat) (sl:Sl),ρ[i]?=some sl->fK K Ha H O σ[i]? sl
 inj:∀(i j:Nat) (x y:Sl) (a:Addr),ρ[i]?=some x->ρ[j]?=some y->CD x->CD y->σ[i]?=some (some (V.ref a))->σ[j]?=some (some (V.ref a))->i=j
section
variable{K:PySem.W.Frag} {O0 O O':Addr->Prop}
def Tb.same (h:Tb H)(s:Same H H'):Tb H':=λp hp=>s _ _ (h p hp)
def EnvOk.val (E:EnvOk K Ha O0 H O σ ρ)(i:Nat)(d:D)(h:ρ[i]?=some (Sl.v d)):∃v,σ[i]?=some (some v)/\Rep K H O v d:=E.slot i _ h
def EnvOk.own (E:EnvOk K Ha O0 H O σ ρ)(i:Nat)(xs:List D)(h:ρ[i]?=some (Sl.o xs)):∃a vs,σ[i]?=some (some (V.ref a))/\O a/\Ha a=none/\H a=some (.lst vs)/\Reps K H O vs xs:=E.slot i _ h
def EnvOk.exc (E:EnvOk K Ha O0 H O σ ρ)(i:Nat)(C:Value)(h:ρ[i]?=some (Sl.x C)):∃a o,σ[i]?=some (some (V.ref a))/\H a=some (.frz o (.own a))/\o.cls=C:=E.slot i _ h
def mL.mono (f:∀{v:V} {d:D},Rep K H O v d->Rep K H' O' v d):∀{kvs:List (D×D)},mL K H O es kvs->mL K H' O' es kvs:=λ{_} r=>Paired.af1 r λ_ _ ⟨⟨v,h1,h2⟩,⟨w,h3,h4⟩,h5⟩=>⟨⟨v,h1,f h2⟩,⟨w,h3,f h4⟩,h5⟩
def fK.move (h:fK K Ha H O x sl)(hT:∀a xs,V9 K H a xs->V9 K H' a xs)(hL:∀a xs,¬O a->N1 K H a xs->¬O' a/\N1 K H' a xs)(hF:∀a o u,H a=some (.frz o u)->H' a=some (.frz o u))(hk:Kp H O H' O')(ho:CD sl->∀a o,x=some (some (V.ref a))->O a->H a=some o->O' a/\H' a=some o):fK K Ha H' O' x sl:=by
 have hD:∀a φ,¬O a->H a=some (.ext φ)->¬O' a/\H' a=some (.ext φ):=λa φ n h=>⟨(hk a _ h n).2,(hk a _ h n).1⟩;cases sl with
 |no=>trivial
 |v d=>obtain⟨v,h1,h2⟩:=h;exact⟨v,h1,h2.mono hT hL hD⟩
 |o xs=>obtain⟨a,vs,h1,h2,h3,h4,h5⟩:=h;obtain⟨h6,h7⟩:=ho trivial a _ h1 h2 h4;exact⟨a,vs,h1,h6,h3,h7,h5.mono hT hL hD⟩
 |x C=>obtain⟨a,o,h1,h2,h3⟩:=h;exact⟨a,o,h1,hF _ _ _ h2,h3⟩
 |c m φ=>obtain⟨a,h1,h2⟩:=h;exact⟨a,h1,λH2 O2 k=>h2 H2 O2 (hk.trans k)⟩
 |d kvs=>obtain⟨a,o,es,h1,h2,h3,h4,h5,h6⟩:=h;obtain⟨h7,h8⟩:=ho trivial a _ h1 h2 h4;exact⟨a,o,es,h1,h7,h3,h8,h5,h6.1.mono λr=>r.mono hT hL hD,h6.2⟩
def fK.grow (h:fK K Ha H O x sl)(e:Same H H'):fK K Ha H' O x sl:=
 h.move (λ_ _ q=>e.tup q) (λ_ _ n q=>⟨n,e.seq q⟩) (λ_ _ _ q=>e _ _ q) (Kp.of e) λ_ _ _ _ q1 q2=>⟨q1,e _ _ q2⟩
def EnvOk.grow (E:EnvOk K Ha O0 H O σ ρ)(e:Same H H'):EnvOk K Ha O0 H' O σ ρ where
 len:=E.len
 same:=E.same.trans e
 sub:=E.sub
 trk:=λa h=>let⟨o,q,m⟩:=E.trk a h;⟨o,e a o q,m⟩
 trk0:=E.trk0
 tab:=E.tab.same e
 slot:=λi sl h=>(E.slot i sl h).grow e
 inj:=E.inj
def EnvOk.fresh (E:EnvOk K Ha O0 H O σ ρ)(h:H p=none):¬O p:=λz=>by obtain⟨o,q,_⟩:=E.trk p z;rw[h]at q;cases q
def t6 {α:Type}{l:List α}{i j:Nat}{x:α}(h:i≠j):(l.set i x)[j]?=l[j]?:=aCp h
def A0 {α:Type}{l:List α}{i:Nat}{x y:α}(h:(l.set i x)[i]?=some y):y=x/\i<l.length:=by
 have hl:i<l.length:=by have:=(aAy.mp h).1;simpa using this
 rw[aBq hl]at h;exact⟨(aAj h).symm,hl⟩
def EnvOk.put (E:EnvOk K Ha O0 H O σ ρ){v:Option V}{sl:Sl}(i:Nat)(no:¬CD sl)(r:fK K Ha H O (some v) sl):EnvOk K Ha O0 H O (σ.set i v) (ρ.set i sl)where
 len:=by simpa using E.len
 same:=E.same
 sub:=E.sub
 trk:=E.trk
 trk0:=E.trk0
 tab:=E.tab
 slot:=λj s h=>by
  by_cases hj:i=j
  ·subst hj;obtain⟨e,hl⟩:=A0 h;subst e;rw[aBq (by rw[E.len];exact hl)];exact r
  ·rw[t6 hj]at h⊢;exact E.slot j s h
 inj:=λj k x y a h1 h2 o1 o2 h3 h4=>by
  have ne:∀(l:Nat) (z:Sl),(ρ.set i sl)[l]?=some z->CD z->i≠l:=λl z q o e=>by subst e;obtain⟨e,_⟩:=A0 q;subst e;exact no o
  have n1:=ne j x h1 o1;have n2:=ne k y h2 o2;rw[t6 n1]at h1 h3;rw[t6 n2]at h2 h4;exact E.inj j k x y a h1 h2 o1 o2 h3 h4
def EnvOk.set (E:EnvOk K Ha O0 H O σ ρ)(i:Nat)(r:Rep K H O v d):EnvOk K Ha O0 H O (σ.set i (some v)) (ρ.set i (.v d)):=E.put i (λz=>z) ⟨v,rfl,r⟩
def fK.at_ (h:fK K Ha H O x sl)(o:CD sl):∃a u,x=some (some (V.ref a))/\O a/\Ha a=none/\H a=some u/\Mt u:=by
 cases sl with
 |o xs=>obtain⟨a,vs,h1,h2,h3,h4,_⟩:=h;exact⟨a,_,h1,h2,h3,h4,trivial⟩
 |d kvs=>obtain⟨a,u,es,h1,h2,h3,h4,_⟩:=h;exact⟨a,_,h1,h2,h3,h4,trivial⟩
 |_=>exact o.elim
def EnvOk.af3 (E:EnvOk K Ha O0 H O σ ρ){a:Addr}{sl:Sl}(i:Nat)(hn:∀(j:Nat) (y:Sl),i≠j->ρ[j]?=some y->CD y->σ[j]?≠some (some (V.ref a)))(r:fK K Ha H O (some (some (V.ref a))) sl):
  EnvOk K Ha O0 H O (σ.set i (some (V.ref a))) (ρ.set i sl)where
 len:=by simpa using E.len
 same:=E.same
 sub:=E.sub
 trk:=E.trk
 trk0:=E.trk0
 tab:=E.tab
 slot:=λj s h=>by
  by_cases hj:i=j
  ·subst hj;obtain⟨e,hl⟩:=A0 h;subst e;rw[aBq (by rw[E.len];exact hl)];exact r
  ·rw[t6 hj]at h⊢;exact E.slot j s h
 inj:=λj k x y b h1 h2 o1 o2 h3 h4=>by
  have at_:∀(l:Nat),i=l->(σ.set i<|some<|V.ref a)[l]?=some (some<|V.ref b)->b=a:=λl e q=>by subst e;obtain⟨e,_⟩:=A0 q;injection e with e;injection e
  by_cases hj:i=j
  ·by_cases hk:i=k
   ·exact hj.symm.trans hk
   ·exfalso;have eb:=at_ j hj h3;subst eb;rw[t6 hk]at h2 h4;exact hn k y hk h2 o2 h4
  ·by_cases hk:i=k
   ·exfalso;have eb:=at_ k hk h4;subst eb;rw[t6 hj]at h1 h3;exact hn j x hj h1 o1 h3
   ·rw[t6 hj]at h1 h3;rw[t6 hk]at h2 h4;exact E.inj j k x y b h1 h2 o1 o2 h3 h4
def i5 (h:H p=none)(o:HO):Same H (upd H p o):=λb u q=>by rw[j7 (t8 q h)];exact q
def EnvOk.ab9 (E:EnvOk K Ha O0 H O σ ρ)(h:H a=none)(hk:K.lookup a=none)(m:Mt u):EnvOk K Ha O0 (upd H a u) (λb=>O b\/b=a) σ ρ:=by
 have s:=i5 h u;have ne:∀b xs,N1 K H b xs->b≠a:=λb xs q z=>by
  subst z;rcases q with(q|⟨o,q⟩)|⟨o,_,_,q,_⟩
  ·rw[h]at q;cases q
  ·rw[h]at q;cases q
  ·rw[hk]at q;cases q
 refine⟨E.len,E.same.trans s,λb z=>.inl (E.sub b z),λb z=>?_,E.trk0,E.tab.same s,λi sl e=>?_,E.inj⟩
 ·rcases z with z|z
  ·obtain⟨o,q,m⟩:=E.trk b z;exact⟨o,s b o q,m⟩
  ·subst z;exact⟨_,i4,m⟩
 ·exact(E.slot i sl e).move (λ_ _ q=>s.tup q) (λb xs n q=>⟨λz=>z.elim n (ne b xs q),s.seq q⟩) (λ_ _ _ q=>s _ _ q) (λb o hb n=>⟨s b o hb,λz=>z.elim n λe=>by subst e;rw[h]at hb;cases hb⟩) λ_ b o _ q1 q2=>⟨.inl q1,s _ _ q2⟩
def RF (h:H a=none)(hk:K.lookup a=none)(q:N1 K H b xs):b≠a:=λz=>by
 subst z;rcases q with(q|⟨o,q⟩)|⟨o,_,_,q,_⟩
 ·rw[h]at q;cases q
 ·rw[h]at q;cases q
 ·rw[hk]at q;cases q
def Reps.ab9 (h:H a=none)(hk:K.lookup a=none)(r:Reps K H O v d):Reps K (upd H a u) (λb=>O b\/b=a) v d:=
 r.mono (λ_ _ q=>(i5 h u).tup q) (λb xs n q=>⟨λz=>z.elim n (RF h hk q),(i5 h u).seq q⟩) λb φ n q=>⟨λz=>z.elim n (t8 q h),i5 h u _ _ q⟩
def EnvOk.ad9 (E:EnvOk K Ha O0 H O σ ρ)(i:Nat)(h:H a=none)(hk:K.lookup a=none)(m:Mt u)(r:Ha a=none->fK K Ha (upd H a u) (λb=>O b\/b=a) (some (some (V.ref a))) sl):
  EnvOk K Ha O0 (upd H a u) (λb=>O b\/b=a) (σ.set i (some (.ref a))) (ρ.set i sl):=by
 have h0:Ha a=none:=by
  cases e:Ha a with
  |none=>rfl
  |some o=>have:=E.same a o e;rw[h]at this;cases this
 refine(E.ab9 h hk m).af3 i (λj y _ e o q=>?_) (r h0);obtain⟨b,w,p1,_,_,p4,_⟩:=(E.slot j y e).at_ o;rw[q]at p1;injection p1 with p1;injection p1 with p1;injection p1 with p1;subst p1;rw[h]at p4;cases p4
def rV (h:H a=some u)(m:Mt u)(q:V9 K H b xs):V9 K (upd H a u') b xs:=by
 have ne:∀w,H b=some w->¬Mt w->b≠a:=λw e n z=>by subst z;rw[h]at e;cases e;exact n m
 rcases q with(q|⟨o,q⟩)|q
 ·exact .inl (.inl (by rw[j7 (ne _ q λz=>z)];exact q))
 ·exact .inl (.inr ⟨o,by rw[j7 (ne _ q λz=>z)];exact q⟩)
 ·exact .inr q
def qF (hO:O a)(n:¬O b)(q:N1 K H b xs):N1 K (upd H a u') b xs:=by
 have ne:b≠a:=λz=>by subst z;exact n hO
 rcases q with(q|⟨o,q⟩)|q
 ·exact .inl (.inl (by rw[j7 ne];exact q))
 ·exact .inl (.inr ⟨o,by rw[j7 ne];exact q⟩)
 ·exact .inr q
def Rep.upd (h:H a=some u)(m:Mt u)(hO:O a)(r:Rep K H O v d):Rep K (upd H a u') O v d:=r.mono (λ_ _ q=>rV h m q) (λ_ _ n q=>⟨n,qF hO n q⟩) λb _ n q=>⟨n,by rw[j7 (λz=>n (by rw[z];exact hO))];exact q⟩
def Reps.upd (h:H a=some u)(m:Mt u)(hO:O a)(r:Reps K H O v d):Reps K (upd H a u') O v d:=r.mono (λ_ _ q=>rV h m q) (λ_ _ n q=>⟨n,qF hO n q⟩) λb _ n q=>⟨n,by rw[j7 (λz=>n (by rw[z];exact hO))];exact q⟩
def EnvOk.ad7 {i:Nat}{sl sl':Sl}{a:Addr}{u u':HO}(E:EnvOk K Ha O0 H O σ ρ)(e:ρ[i]?=some sl)(ow:CD sl)(h1:σ[i]?=some (some (V.ref a)))(hu:H a=some u)(m':Mt u')(ow':CD sl')
  (r:O a->Ha a=none->Mt u->fK K Ha (upd H a u') O (some (some (V.ref a))) sl'):EnvOk K Ha O0 (upd H a u') O σ (ρ.set i sl')/\Kp H O (upd H a u') O:=by
 obtain⟨b,w,p1,p2,p3,p4,m⟩:=(E.slot i sl e).at_ ow;rw[h1]at p1;injection p1 with p1;injection p1 with p1;injection p1 with p1;subst p1;rw[hu]at p4;cases p4;have kp:Kp H O (upd H a u') O:=λb o hb n=>⟨by rw[j7 (λz=>by subst z;exact n p2)];exact hb,n⟩;have nf:∀b w,H b=some w->¬Mt w->upd H a u' b=some w:=λb w q n=>by rw[j7 (λz=>by subst z;rw[hu]at q;cases q;exact n m)];exact q
 refine⟨⟨by simpa using E.len,λb o q=>?_,E.sub,λb z=>?_,E.trk0,λp hp=>nf _ _ (E.tab p hp) λz=>z,λj s h=>?_,λj k x y b q1 q2 o1 o2 q3 q4=>?_⟩,kp⟩
 ·rw[j7 (λz=>by subst z;rw[p3]at q;cases q)];exact E.same b o q
 ·by_cases hb:b=a
  ·subst hb;exact⟨_,i4,m'⟩
  ·obtain⟨o,q,m⟩:=E.trk b z;exact⟨o,by rw[j7 hb];exact q,m⟩
 ·by_cases hj:i=j
  ·subst hj;obtain⟨e',_⟩:=A0 h;subst e';rw[h1];exact r p2 p3 m
  ·rw[t6 hj]at h;refine(E.slot j s h).move (λ_ _ q=>rV hu m q) (λ_ _ n q=>⟨n,qF p2 n q⟩) (λb o w q=>nf _ _ q λz=>z) kp λo b w q1 q2 q3=>⟨q2,?_⟩;rw[j7 (λz=>by subst z;exact hj (E.inj i j sl s b e h ow o h1 q1))];exact q3
 ·have fin:∀l z,(ρ.set i sl')[l]?=some z->CD z->∃z',ρ[l]?=some z'/\CD z':=λl z q o=>by
   by_cases hl:i=l
   ·subst hl;exact⟨sl,e,ow⟩
   ·rw[t6 hl]at q;exact⟨z,q,o⟩
  obtain⟨x',u1,o1'⟩:=fin j x q1 o1;obtain⟨y',u2,o2'⟩:=fin k y q2 o2;exact E.inj j k x' y' b u1 u2 o1' o2' q3 q4
def EnvOk.ae1 {i:Nat}{sl sl':Sl}{a:Addr}(E:EnvOk K Ha O0 H O σ ρ)(e:ρ[i]?=some sl)(ow:CD sl)(h1:σ[i]?=some (some (V.ref a)))(no:¬CD sl')(r:fK K Ha H (λb=>O b/\b≠a) (some (some (V.ref a))) sl'):
  EnvOk K Ha O0 H (λb=>O b/\b≠a) σ (ρ.set i sl'):=by
 obtain⟨b,w,p1,p2,p3,p4,m⟩:=(E.slot i sl e).at_ ow;rw[h1]at p1;injection p1 with p1;injection p1 with p1;injection p1 with p1;subst p1;have sub:∀b,(O b/\b≠a)->O b:=λb z=>z.1;refine⟨by simpa using E.len,E.same,λb z=>⟨E.sub b z,λq=>?_⟩,λb z=>E.trk b z.1,E.trk0,E.tab,λj s h=>?_,λj k x y b q1 q2 o1 o2 q3 q4=>?_⟩
 ·subst q;obtain⟨o,q⟩:=E.trk0 b z;rw[p3]at q;cases q
 ·by_cases hj:i=j
  ·subst hj;obtain⟨e',_⟩:=A0 h;subst e';rw[h1];exact r
  ·rw[t6 hj]at h;refine(E.slot j s h).move (λ_ _ q=>q) (λ_ _ n q=>⟨λz=>n z.1,q⟩) (λ_ _ _ q=>q) (λb o hb n=>⟨hb,λz=>n z.1⟩) λo b w q1 q2 q3=>⟨⟨q2,λz=>?_⟩,q3⟩;subst z;exact hj (E.inj i j sl s b e h ow o h1 q1)
 ·have n1:i≠j:=λz=>by subst z;obtain⟨e',_⟩:=A0 q1;subst e';exact no o1
  have n2:i≠k:=λz=>by subst z;obtain⟨e',_⟩:=A0 q2;subst e';exact no o2
  rw[t6 n1]at q1;rw[t6 n2]at q2;exact E.inj j k x y b q1 q2 o1 o2 q3 q4
end
def XW (X:Cx)(e:Str)(H:Hp):Prop:=False
def RC (X:Cx)(H:Hp)(O:Addr->Prop)(r:R D)(Q:VK):Prop:=match r with
 |.ok d=>∀v H',Same H H'->Rep X.K H' O v d->Q v H'
 |.ex e=>∀H',Same H H'->XW X e H'
 |.bad=>False
def A8 (K:PySem.W.Frag)(H:Hp)(O:Addr->Prop)(v:V)(d:D):Prop:=Rep K H O v d\/∃a vs ds,v=.ref a/\d=.lst ds/\N1 K H a vs/\Reps K H O vs ds
def UO (X:Cx)(H:Hp)(O:Addr->Prop)(r:R D)(Q:VK):Prop:=match r with
 |.ok d=>∀v H',Same H H'->A8 X.K H' O v d->Q v H'
 |.ex e=>∀H',Same H H'->XW X e H'
 |.bad=>False
def wB (X:Cx)(H:Hp)(r:R Bool)(Q:Bool->Hp->Prop):Prop:=match r with
 |.ok b=>∀H',Same H H'->Q b H'
 |.ex e=>∀H',Same H H'->XW X e H'
 |.bad=>False
def DJ (X:Cx)(H:Hp)(O:Addr->Prop)(r:R (List D))(Q:List V->Hp->Prop):Prop:=match r with
 |.ok ds=>∀vs H',Same H H'->Reps X.K H' O vs ds->Q vs H'
 |.ex e=>∀H',Same H H'->XW X e H'
 |.bad=>False
def KC (X:Cx)(H:Hp)(O:Addr->Prop)(r:R (List D))(Q:List V->Hp->Prop):Prop:=match r with
 |.ok ds=>∀vs H',Same H H'->Paired (A8 X.K H' O) vs ds->Q vs H'
 |.ex e=>∀H',Same H H'->XW X e H'
 |.bad=>False
def tD (X:Cx)(f:Ev->R D):TE:=λσ H Q=>∃Ha O0 O ρ,EnvOk X.K Ha O0 H O σ ρ/\RC X H O (f ρ) Q
def ZO (X:Cx)(f:Ev->R D):TE:=λσ H Q=>∃Ha O0 O ρ,EnvOk X.K Ha O0 H O σ ρ/\UO X H O (f ρ) Q
def YX (X:Cx)(f:Ev->R Bool):TT:=λσ H Q=>∃Ha O0 O ρ,EnvOk X.K Ha O0 H O σ ρ/\wB X H (f ρ) Q
def xk (X:Cx)(f:Ev->R (List D)):TA:=λσ H Q=>∃Ha O0 O ρ,EnvOk X.K Ha O0 H O σ ρ/\DJ X H O (f ρ) Q
def ZH (X:Cx)(f:Ev->R (List D)):TA:=λσ H Q=>∃Ha O0 O ρ,EnvOk X.K Ha O0 H O σ ρ/\KC X H O (f ρ) Q
def PD (X:Cx)(e:Expr)(f:Ev->R D):Prop:=PE X e (tD X f)
def PB (X:Cx)(e:Expr)(f:Ev->R D):Prop:=PE X e (ZO X f)
def wC (X:Cx)(e:Expr)(f:Ev->R Bool):Prop:=PT X e (YX X f)
def xU (X:Cx)(es:List Expr)(f:Ev->R (List D)):Prop:=PA X es (xk X f)
def QH (X:Cx)(es:List Expr)(f:Ev->R (List D)):Prop:=PA X es (ZH X f)
def NX {r:Hp->(Addr->Prop)->Ev->VK->Prop}(h:PE X e t)(i:∀σ H Q Ha O0 O ρ,EnvOk X.K Ha O0 H O σ ρ->r H O ρ Q->t σ H Q):PE X e λσ H Q=>∃Ha O0 O ρ,EnvOk X.K Ha O0 H O σ ρ/\r H O ρ Q:=λpins s σ H Q I q=>h pins s σ H Q I (let⟨Ha,O0,O,ρ,E,q⟩:=q;i σ H Q Ha O0 O ρ E q)
def oz {r:Hp->(Addr->Prop)->Ev->(Bool->Hp->Prop)->Prop}(h:PT X e t)(i:∀σ H Q Ha O0 O ρ,EnvOk X.K Ha O0 H O σ ρ->r H O ρ Q->t σ H Q):PT X e λσ H Q=>∃Ha O0 O ρ,EnvOk X.K Ha O0 H O σ ρ/\r H O ρ Q:=λpins s σ H Q I q=>h pins s σ H Q I (let⟨Ha,O0,O,ρ,E,q⟩:=q;i σ H Q Ha O0 O ρ E q)
def YD {r:Hp->(Addr->Prop)->Ev->(List V->Hp->Prop)->Prop}(h:PA X es t)(i:∀σ H Q Ha O0 O ρ,EnvOk X.K Ha O0 H O σ ρ->r H O ρ Q->t σ H Q):PA X es λσ H Q=>∃Ha O0 O ρ,EnvOk X.K Ha O0 H O σ ρ/\r H O ρ Q:=λpos pins s σ H Q I q=>h pos pins s σ H Q I (let⟨Ha,O0,O,ρ,E,q⟩:=q;i σ H Q Ha O0 O ρ E q)
def sF {β:Type}{r:Hp->(Addr->Prop)->Ev->β->Prop}{G:List (Addr×Obj)->Shared->St->Hp->β->Prop}(h:∀pins s σ H Q,Inv X pins σ H s->∀Ha O0 O ρ,EnvOk X.K Ha O0 H O σ ρ->r H O ρ Q->G pins s σ H Q)(pins s σ H Q)(I:Inv X pins σ H s)(q:∃Ha O0 O ρ,EnvOk X.K Ha O0 H O σ ρ/\r H O ρ Q):G pins s σ H Q:=let⟨Ha,O0,O,ρ,E,q⟩:=q;h pins s σ H Q I Ha O0 O ρ E q
def PD.pb (h:PD X e f):PB X e f:=NX h λσ H Q Ha O0 O ρ E q=>⟨Ha,O0,O,ρ,E,by
 unfold RC UO at*
 cases e:f ρ with
 |ok d=>rw[e]at q;exactλv H' s r=>q v H' s (.inl r)
 |ex x=>rw[e]at q;exact q
 |bad=>rw[e]at q;exact q⟩
def RC.seq {O:Addr->Prop}(h:RC X H O (r.bind g) Q):
  RC X H O r λv H1=>∃d,r=.ok d/\Same H H1/\Rep X.K H1 O v d/\RC X H1 O (g d) Q:=by
 cases r with
 |ok d=>
  intro v H1 s1 r1;refine⟨d,rfl,s1,r1,?_⟩;have h':RC X H O (g d) Q:=h;cases e:g d with
  |ok d'=>rw[e]at h';exactλw H2 s2 r2=>h' w H2 (s1.trans s2) r2
  |ex x=>rw[e]at h';exactλH2 s2=>h' H2 (s1.trans s2)
  |bad=>rw[e]at h';exact h'
 |ex x=>exact h
 |bad=>exact h
def UO.seq {O:Addr->Prop}(h:RC X H O (r.bind g) Q):
  UO X H O r λv H1=>∃d,r=.ok d/\Same H H1/\A8 X.K H1 O v d/\RC X H1 O (g d) Q:=by
 cases r with
 |ok d=>
  intro v H1 s1 r1;refine⟨d,rfl,s1,r1,?_⟩;have h':RC X H O (g d) Q:=h;cases e:g d with
  |ok d'=>rw[e]at h';exactλw H2 s2 r2=>h' w H2 (s1.trans s2) r2
  |ex x=>rw[e]at h';exactλH2 s2=>h' H2 (s1.trans s2)
  |bad=>rw[e]at h';exact h'
 |ex x=>exact h
 |bad=>exact h
def RC.grow {O:Addr->Prop}(h:RC X H O r Q)(s1:Same H H1):RC X H1 O r Q:=by
 cases r with
 |ok d=>exactλw H2 s2 r2=>h w H2 (s1.trans s2) r2
 |ex x=>exactλH2 s2=>h H2 (s1.trans s2)
 |bad=>exact h
section
variable{X:Cx}
def A8.same (e:Same H H')(r:A8 X.K H O v d):A8 X.K H' O v d:=by
 rcases r with r|⟨a,vs,ds,h1,h2,h3,h4⟩
 ·exact .inl (r.same e)
 ·exact .inr ⟨a,vs,ds,h1,h2,e.seq h3,h4.same e⟩
def A8.aa7 {K:PySem.W.Frag}{ds:List D}(r:A8 K H O v (.lst ds)):∃a vs,v=.ref a/\N1 K H a vs/\Reps K H O vs ds:=by
 rcases r with r|⟨a,vs,es,h1,h2,h3,h4⟩
 ·cases r with|lst h n r=>exact⟨_,_,rfl,h,r⟩
 ·injection h2 with h2;subst h2;exact⟨a,vs,h1,h3,h4⟩
def A8.af8 {K:PySem.W.Frag}(r:A8 K H O v .dct):∃a o,v=.ref a/\H a=some (.ext λh=>h.get? a=some o)/\o.ExactDict:=by
 rcases r with r|⟨a,vs,es,h1,h2,h3,h4⟩
 ·cases r with|dct h x n=>exact⟨_,_,rfl,h,x⟩
 ·cases h2
def A8.tupI {K:PySem.W.Frag}{ds:List D}(r:A8 K H O v (.tup ds)):∃a vs,v=.ref a/\V9 K H a vs/\Reps K H O vs ds:=by
 rcases r with r|⟨a,vs,es,h1,h2,h3,h4⟩
 ·cases r with|tup h r=>exact⟨_,_,rfl,h,r⟩
 ·cases h2
def A8.aa6 {K:PySem.W.Frag}{i:Int}(r:A8 K H O v (.int i)):v=.int i:=by
 rcases r with r|⟨a,vs,es,h1,h2,h3,h4⟩
 ·cases r;rfl
 ·cases h2
def A8.blI {K:PySem.W.Frag}{i:Bool}(r:A8 K H O v (.bl i)):v=.bl i:=by
 rcases r with r|⟨a,vs,es,h1,h2,h3,h4⟩
 ·cases r;rfl
 ·cases h2
def A8.ac3 {K:PySem.W.Frag}(r:A8 K H O v .non):v=.non:=by
 rcases r with r|⟨a,vs,es,h1,h2,h3,h4⟩
 ·cases r;rfl
 ·cases h2
def A8.ac7 {K:PySem.W.Frag}{i:Str}(r:A8 K H O v (.str i)):v=.str i:=by
 rcases r with r|⟨a,vs,es,h1,h2,h3,h4⟩
 ·cases r;rfl
 ·cases h2
end
def aT (i:Nat)(ρ:Ev):R D:=match ρ[i]? with
 |some (.v d)=>.ok d
 |_=>.bad
def uV (i:Nat)(ρ:Ev):R D:=match ρ[i]? with
 |some (.v d)=>.ok d
 |some (.o xs)=>.ok (.lst xs)
 |_=>.bad
section
def c7 (i:Nat)(hN:X.N[i]?=some x:=by rfl)(hv:sD X.env.scope x:=by first|exact aCt rfl|exact aBy (aCt rfl)|exact aBy (aBy rfl))(hd:(x==("__debug__":Str))=false:=by decide)(gc:(x==("__classdict__":Str))=false:=by decide):PD X (.Name x pos) (aT i):=NX (O7 hN hv hd gc) λσ H Q Ha O0 O ρ E q=>by
 unfold aT at q;cases e:ρ[i]? with
 |none=>rw[e]at q;exact q.elim
 |some sl=>
  rw[e]at q;cases sl with
  |no=>exact q.elim
  |x C=>exact q.elim
  |c m φ=>exact q.elim
  |d kvs=>exact q.elim
  |o xs=>exact q.elim
  |v d=>obtain⟨v,h1,h2⟩:=E.val i d e;exact⟨v,h1,q v H (Same.refl H) h2⟩
def b9 (i:Nat)(hN:X.N[i]?=some x:=by rfl)(hv:sD X.env.scope x:=by first|exact aCt rfl|exact aBy (aCt rfl)|exact aBy (aBy rfl))(hd:(x==("__debug__":Str))=false:=by decide)(gc:(x==("__classdict__":Str))=false:=by decide):PB X (.Name x pos) (uV i):=NX (O7 hN hv hd gc) λσ H Q Ha O0 O ρ E q=>by
 unfold uV at q;cases e:ρ[i]? with
 |none=>rw[e]at q;exact q.elim
 |some sl=>
  rw[e]at q;cases sl with
  |no=>exact q.elim
  |x C=>exact q.elim
  |c m φ=>exact q.elim
  |d kvs=>exact q.elim
  |o xs=>obtain⟨a,vs,h1,h2,h3,h4,h5⟩:=E.own i xs e;exact⟨_,h1,q _ H (Same.refl H) (.inr ⟨a,vs,xs,rfl,rfl,N1.of h4,h5⟩)⟩
  |v d=>obtain⟨v,h1,h2⟩:=E.val i d e;exact⟨v,h1,q v H (Same.refl H) (.inl h2)⟩
def NG (d:D)(_:Ev):R D:=.ok d
def lK (h:PE X e (tC v))(r:∀H O,Rep X.K H O v d):PD X e (NG d):=NX h λσ H Q Ha O0 O ρ E q=>q v H (Same.refl H) (r H O)
def d7 {j pos}:PD X (.Constant (.int i) j pos) (NG (.int i)):=lK QU λ_ _=>.int
def U8 {j pos}:PD X (.Constant (.bool i) j pos) (NG (.bl i)):=lK WW λ_ _=>.bl
def FR {j pos}:PD X (.Constant (.str i) j pos) (NG (.str i)):=lK QQ λ_ _=>.str
def xB {j pos}:PD X (.Constant .none j pos) (NG .non):=lK TX λ_ _=>.non
def iJ (X:Cx)(f:Value->Value->Sem Value)(g:D->D->R D):Prop:=
 ∀(H:Hp) (O:Addr->Prop) (x y:V) (dx dy:D) (Q:VK),(∀p,H p=none->¬O p)->A8 X.K H O x dx->A8 X.K H O y dy->RC X H O (g dx dy) Q->∃r,gC X f r/\r x y H Q
def ZJ (X:Cx)(O:Addr->Prop)(g:D->D->R D)(Q:VK):V->V->Hp->Prop:=λx y H=>∃dx dy,(∀p,H p=none->¬O p)/\A8 X.K H O x dx/\A8 X.K H O y dy/\RC X H O (g dx dy) Q
def kF {O0 O:Addr->Prop}(E:EnvOk X.K Ha O0 H O σ ρ)(q:RC X H O ((f1 ρ).bind λx=>(f2 ρ).bind λy=>g x y) Q):
  ZO X f1 σ H λx H1=>ZO X f2 σ H1 λy H2=>ZJ X O g Q x y H2:=by
 refine⟨Ha,O0,O,ρ,E,?_⟩;have h1:=UO.seq q;revert h1;cases e1:f1 ρ with
 |ok d1=>
  intro h1 x H1 s1 r1;obtain⟨d,e,_,r,h2⟩:=h1 x H1 s1 r1;cases e;have E1:=E.grow s1;refine⟨Ha,O0,O,ρ,E1,?_⟩;have h3:=UO.seq h2;revert h3;cases e2:f2 ρ with
  |ok d2=>intro h3 y H2 s2 r2;obtain⟨d',e,_,r',h4⟩:=h3 y H2 s2 r2;cases e;exact⟨d1,d2,λp hp=>(E1.grow s2).fresh hp,r.same s2,r',h4⟩
  |ex x=>intro h3;exact h3
  |bad=>intro h3;exact h3
 |ex x=>intro h1;exact h1
 |bad=>intro h1;exact h1
def d4 (ho:iJ X (binaryOp op) g)(ha:PB X a f1)(hb:PB X b f2):PD X (.BinOp a op b pos) (λρ=>(f1 ρ).bind λx=>(f2 ρ).bind λy=>g x y):=by refine sF λpins s σ H Q I Ha O0 O ρ E q=>?_;refine wpAny_BinOp (DD ha hb I (kF E q) λv u s2 x y H2 I2 rx ry h=>?_);obtain⟨dx,dy,fr,r1,r2,q⟩:=h;obtain⟨r,hr,hq⟩:=ho H2 O x y dx dy Q fr r1 r2 q;exact hr pins s2 σ H2 x y v u Q I2 rx ry hq
def wW (ho:iJ X (compareOp op) g)(ha:PB X a f1)(hb:PB X b f2)(hm:behindInMarks op b=false:=by first|exact xK _|with_unfolding_all rfl):
  PD X (.Compare a [op] [b] pos) (λρ=>(f1 ρ).bind λx=>(f2 ρ).bind λy=>g x y):=by
 refine sF λpins s σ H Q I Ha O0 O ρ E q=>?_;refine wpAny_Compare1 (DD ha hb I (kF E q) λv u s2 x y H2 I2 rx ry h=>?_) hm;obtain⟨dx,dy,fr,r1,r2,q⟩:=h;obtain⟨r,hr,hq⟩:=ho H2 O x y dx dy Q fr r1 r2 q;exact hr pins s2 σ H2 x y v u Q I2 rx ry hq
def wA:D->R Bool
 |.bl b=>.ok b
 |_=>.bad
def yV {O:Addr->Prop}{Q:Bool->Hp->Prop}(h:wB X H (r.bind wA) Q):RC X H O r λv H1=>∃c,v=.bl c/\Q c H1:=by
 cases r with
 |ok d=>
  cases d with
  |bl b=>intro v H1 s1 r1;cases r1;exact⟨b,rfl,h H1 s1⟩
  |_=>exact(show False from h).elim
 |ex x=>exact h
 |bad=>exact h
def m7 (ho:iJ X (compareOp op) g)(ha:PB X a f1)(hb:PB X b f2)(hm:behindInMarks op b=false:=by first|exact xK _|with_unfolding_all rfl):
  wC X (.Compare a [op] [b] pos) (λρ=>((f1 ρ).bind λx=>(f2 ρ).bind λy=>g x y).bind wA):=by
 refine sF λpins s σ H Q I Ha O0 O ρ E q=>?_;have q':=yV (O:=O) q;refine aDT (DD ha hb I (kF E q') λv u s2 x y H2 I2 rx ry h=>?_) hm;obtain⟨dx,dy,fr,r1,r2,q⟩:=h;obtain⟨r,hr,hq⟩:=ho H2 O x y dx dy _ fr r1 r2 q;refine C4 (hr pins s2 σ H2 x y v u _ I2 rx ry hq) λc s3 ⟨z,H3,I3,r3,k,e,q3⟩=>?_;subst e;cases r3;exact aBM ⟨H3,I3,q3⟩
def AB (h:PD X e f)(he:∀whole,isTrue e X.env whole=(do let v<-whole;standAt e.pos;holding [v] (truthy v)):=by intro _;rfl):wC X e (λρ=>(f ρ).bind wA):=by refine oz (QW h he) λσ H Q Ha O0 O ρ E q=>⟨Ha,O0,O,ρ,E,yV q⟩
def wB.seq {Q:Bool->Hp->Prop}(h:wB X H (r.bind g) Q):wB X H r λb H1=>r=.ok b/\Same H H1/\wB X H1 (g b) Q:=by
 cases r with
 |ok d=>
  intro H1 s1;refine⟨rfl,s1,?_⟩;have h':wB X H (g d) Q:=h;cases e:g d with
  |ok d'=>rw[e]at h';exactλH2 s2=>h' H2 (s1.trans s2)
  |ex x=>rw[e]at h';exactλH2 s2=>h' H2 (s1.trans s2)
  |bad=>rw[e]at h';exact h'
 |ex x=>exact h
 |bad=>exact h
def wB.mono {Q Q':Bool->Hp->Prop}(h:wB X H r Q)(i:∀b H1,Q b H1->Q' b H1):wB X H r Q':=by
 cases r with
 |ok d=>exactλH1 s1=>i _ _ (h H1 s1)
 |ex x=>exact h
 |bad=>exact h
def RC.mono {O:Addr->Prop}(h:RC X H O r Q)(i:∀b H1,Q b H1->Q' b H1):RC X H O r Q':=by
 cases r with
 |ok d=>exactλv H1 s1 r1=>i _ _ (h v H1 s1 r1)
 |ex x=>exact h
 |bad=>exact h
def zN (X:Cx)(e:Expr)(f:Ev->R Bool):Prop:=PW X e (YX X f)
def SF (f g:Ev->R Bool):Ev->R Bool:=λρ=>(f ρ).bind λb=>if b=true then g ρ else .ok false
def jw (f g:Ev->R Bool):Ev->R Bool:=λρ=>(f ρ).bind λb=>if b=true then .ok true else g ρ
def WI (f:Ev->R Bool):Ev->R Bool:=λρ=>(f ρ).bind λb=>.ok (!b)
variable{rest:List Expr}
def JS (ha:wC X a f):zN X (.BoolOp .And [a] pos) f:=NL ha
def gA (ha:wC X a f):zN X (.BoolOp .Or [a] pos) f:=SJ ha
def EM (h:PW X e t)(i:∀σ H Q,t' σ H Q->t σ H Q):PW X e t':=λwh pins s σ H Q I q=>h wh pins s σ H Q I (i σ H Q q)
def NI (ha:wC X a f)(hb:zN X (.BoolOp .And (b::rest) pos) g):zN X (.BoolOp .And (a::b::rest) pos) (SF f g):=
 EM (QE ha hb) λσ H Q ⟨Ha,O0,O,ρ,E,q⟩=>⟨Ha,O0,O,ρ,E,wB.mono (wB.seq q) λb H1 ⟨_,s1,h1⟩=>by
  cases b with
  |true=>rw[if_pos rfl];exact⟨Ha,O0,O,ρ,E.grow s1,h1⟩
  |false=>rw[if_neg aAL];exact h1 H1 (Same.refl _)⟩
def kZ (ha:wC X a f)(hb:zN X (.BoolOp .Or (b::rest) pos) g):zN X (.BoolOp .Or (a::b::rest) pos) (jw f g):=
 EM (UY ha hb) λσ H Q ⟨Ha,O0,O,ρ,E,q⟩=>⟨Ha,O0,O,ρ,E,wB.mono (wB.seq q) λb H1 ⟨_,s1,h1⟩=>by
  cases b with
  |false=>rw[if_neg aAL];exact⟨Ha,O0,O,ρ,E.grow s1,h1⟩
  |true=>rw[if_pos rfl];exact h1 H1 (Same.refl _)⟩
def zN.pt (h:zN X e f):wC X e f:=PW.pt h
def MK (ha:wC X a f):wC X (.UnaryOp .Not a pos) (WI f):=
 oz (UD ha) λσ H Q Ha O0 O ρ E q=>⟨Ha,O0,O,ρ,E,wB.mono (wB.seq q) λb H1 ⟨_,s1,h1⟩=>h1 H1 (Same.refl _)⟩
def ZB (f:Ev->R D)(g:Ev->R D):Ev->R D:=λρ=>((f ρ).bind wA).bind λb=>if b=true then g ρ else .ok (.bl false)
def tw (f:Ev->R D)(g:Ev->R D):Ev->R D:=λρ=>((f ρ).bind wA).bind λb=>if b=true then .ok (.bl true)else g ρ
def fj (f:Ev->R D):Ev->R D:=λρ=>((f ρ).bind wA).bind λb=>.ok (.bl (!b))
def gk (c:Ev->R Bool)(f g:Ev->R D):Ev->R D:=λρ=>(c ρ).bind λb=>if b=true then f ρ else g ρ
def VB:D->R D
 |.int i=>.ok (.int (-i))
 |_=>.bad
def lC {f:Ev->R D}(ha:PD X a f):PD X (.UnaryOp .USub a pos) (λρ=>(f ρ).bind VB):=
 NX (WF QM ha) λσ H Q Ha O0 O ρ E q=>⟨Ha,O0,O,ρ,E,by
  refine RC.mono (RC.seq q) λv H1 ⟨d,_,s1,r1,h1⟩=>?_;cases d with
  |int i=>cases r1;exact⟨i,rfl,h1 _ H1 (Same.refl _) .int⟩
  |_=>exact(show False from h1).elim⟩
def DJ.seq {H:Hp}{O:Addr->Prop}{r:R (List D)}{g:List D->R D}{Q:VK}(h:RC X H O (r.bind g) Q):
  DJ X H O r λv H1=>∃d,r=.ok d/\Same H H1/\Reps X.K H1 O v d/\RC X H1 O (g d) Q:=by
 cases r with
 |ok d=>exactλv H1 s1 r1=>⟨d,rfl,s1,r1,(show RC X H O (g d) Q from h).grow s1⟩
 |ex x=>exact h
 |bad=>exact h
def DJ.mono {O:Addr->Prop}{Q Q':List V->Hp->Prop}(h:DJ X H O r Q)(i:∀b H1,Q b H1->Q' b H1):DJ X H O r Q':=by
 cases r with
 |ok d=>exactλv H1 s1 r1=>i _ _ (h v H1 s1 r1)
 |ex x=>exact h
 |bad=>exact h
def KC.seq {H:Hp}{O:Addr->Prop}{r:R (List D)}{g:List D->R D}{Q:VK}(h:RC X H O (r.bind g) Q):
  KC X H O r λv H1=>∃d,r=.ok d/\Same H H1/\Paired (A8 X.K H1 O) v d/\RC X H1 O (g d) Q:=by
 cases r with
 |ok d=>exactλv H1 s1 r1=>⟨d,rfl,s1,r1,(show RC X H O (g d) Q from h).grow s1⟩
 |ex x=>exact h
 |bad=>exact h
def p5 (f:Ev->R D)(g:Ev->R (List D)):Ev->R (List D):=λρ=>(f ρ).bind λd=>(g ρ).bind λds=>.ok (d::ds)
def U5:Ev->R (List D):=λ_=>.ok []
def j4:xU X [] U5:=YD aY λσ H Q Ha O0 O ρ E q=>q [] H (Same.refl _) .nil
def c9 {f:Ev->R D}{g:Ev->R (List D)}(ha:PD X e f)(hr:xU X es g)(hs:starEach (e::es) X.env=(false,eval e X.env)::starEach es X.env:=by rfl):xU X (e::es) (p5 f g):=
 YD (K1 ha hr hs) λσ H Q Ha O0 O ρ E q=>⟨Ha,O0,O,ρ,E,by
  unfold p5 at q;cases e1:f ρ with
  |ok d=>
   rw[e1]at q;intro v H1 s1 r1;refine⟨Ha,O0,O,ρ,E.grow s1,?_⟩;cases e2:g ρ with
   |ok ds=>rw[e2]at q;exactλvs H2 s2 r2=>q (v::vs) H2 (s1.trans s2) (.cons (r1.same s2) r2)
   |ex x=>rw[e2]at q;exactλH2 s2=>q H2 (s1.trans s2)
   |bad=>rw[e2]at q;exact q
  |ex x=>rw[e1]at q;exact q
  |bad=>rw[e1]at q;exact q⟩
def F6:QH X [] U5:=YD aY λσ H Q Ha O0 O ρ E q=>q [] H (Same.refl _) .nil
def v6 {f:Ev->R D}{g:Ev->R (List D)}(ha:PB X e f)(hr:QH X es g)(hs:starEach (e::es) X.env=(false,eval e X.env)::starEach es X.env:=by rfl):QH X (e::es) (p5 f g):=
 YD (K1 ha hr hs) λσ H Q Ha O0 O ρ E q=>⟨Ha,O0,O,ρ,E,by
  unfold p5 at q;cases e1:f ρ with
  |ok d=>
   rw[e1]at q;intro v H1 s1 r1;refine⟨Ha,O0,O,ρ,E.grow s1,?_⟩;cases e2:g ρ with
   |ok ds=>rw[e2]at q;exactλvs H2 s2 r2=>q (v::vs) H2 (s1.trans s2) (.cons (r1.same s2) r2)
   |ex x=>rw[e2]at q;exactλH2 s2=>q H2 (s1.trans s2)
   |bad=>rw[e2]at q;exact q
  |ex x=>rw[e1]at q;exact q
  |bad=>rw[e1]at q;exact q⟩
def nK (ds:List D):R D:=if ds.length<=sizeLine then .ok (.tup ds)else .bad
def aM (ds:List D):R D:=if ds.length<=sizeLine then .ok (.lst ds)else .bad
def wJ {f:Ev->R (List D)}{x1}(h:xU X es f):PD X (.Tuple es x1 pos) (λρ=>(f ρ).bind nK):=
 NX (QL h) λσ H Q Ha O0 O ρ E q=>⟨Ha,O0,O,ρ,E,DJ.mono (DJ.seq q) λvs H1 ⟨ds,_,s1,r1,h1⟩=>by
  unfold nK at h1;split at h1
  ·rename_i hz;exact⟨by rw[r1.length];exact hz,λp hp=>h1 (.ref p) _ (i5 hp _) (.tup (V9.of i4) (r1.same<|i5 hp _))⟩
  ·exact h1.elim⟩
def W5 {f:Ev->R (List D)}(h:xU X es f):PD X (.List es pos) (λρ=>(f ρ).bind aM):=
 NX (JI h) λσ H Q Ha O0 O ρ E q=>⟨Ha,O0,O,ρ,E,DJ.mono (DJ.seq q) λvs H1 ⟨ds,_,s1,r1,h1⟩=>by
  unfold aM at h1;split at h1
  ·rename_i hz;exact⟨by rw[r1.length];exact hz,λp hp=>h1 (.ref p) _ (i5 hp _) (.lst (N1.of i4) ((E.grow s1).fresh hp) (r1.same<|i5 hp _))⟩
  ·exact h1.elim⟩
def bN (X:Cx)(f:Value)(g:List D->R D):Prop:=
 ∀(H:Hp) (O:Addr->Prop) (vs:List V) (ds:List D) (Q:VK),(∀p,H p=none->¬O p)->Paired (A8 X.K H O) vs ds->RC X H O (g ds) Q->∃r,mF X f r/\r vs H Q
def fC {x:Str}{id:String}{p:Pos}{f:Ev->R (List D)}{g:List D->R D}(hc:bN X (.builtin id) g)(ha:QH X (e::es) f)(hg:Gl X x:=by rfl)(hm:X.mg x=none:=by assumption)(hv:bootBuiltins x=some (.builtin id):=by decide+kernel)(hn:x≠ "__name__":=by decide)
  (dh:(x==("__debug__":Str))=false:=by decide) (he:starEach (e::es) X.env=(false,eval e X.env)::starEach es X.env:=by rfl) (br:(backTo pos (starEach es X.env)).any (·.1)=false:=by rfl):
  PD X (.Call (.Name x p) (e::es) [] pos) (λρ=>(f ρ).bind g):=by
 refine sF λpins s σ H Q I Ha O0 O ρ E q=>?_;refine aAM (P3 I hg hm hv ?_ hn dh);refine aCf (C4 (ha pos pins s σ H _ I ⟨Ha,O0,O,ρ,E,KC.seq q⟩) λus s1 ⟨vs,H1,I1,r1,d,_,sm,r,h⟩=>?_) he br;obtain⟨r',hr,hq⟩:=hc H1 O vs d Q (λp hp=>(E.grow sm).fresh hp) r h;exact hr pins s1 σ H1 vs us Q I1 r1 hq
def gQ {x:Str}{T:String}{p:Pos}{f:Ev->R (List D)}{g:List D->R D}(hc:bN X (.type T) g)(ha:QH X (e::es) f)(hg:Gl X x:=by rfl)(hm:X.mg x=none:=by assumption)(hv:bootBuiltins x=some (.type T):=by decide+kernel)(hn:x≠ "__name__":=by decide)
  (dh:(x==("__debug__":Str))=false:=by decide) (he:starEach (e::es) X.env=(false,eval e X.env)::starEach es X.env:=by rfl) (br:(backTo pos (starEach es X.env)).any (·.1)=false:=by rfl):
  PD X (.Call (.Name x p) (e::es) [] pos) (λρ=>(f ρ).bind g):=by
 refine sF λpins s σ H Q I Ha O0 O ρ E q=>?_;refine aAM (P3 I hg hm hv ?_ hn dh);refine aBc (C4 (ha pos pins s σ H _ I ⟨Ha,O0,O,ρ,E,KC.seq q⟩) λus s1 ⟨vs,H1,I1,r1,d,_,sm,r,h⟩=>?_) he br;obtain⟨r',hr,hq⟩:=hc H1 O vs d Q (λp hp=>(E.grow sm).fresh hp) r h;exact hr pins s1 σ H1 vs us Q I1 r1 hq
end
mutual
def u0:D->D->Bool
 |.non,.non=>true
 |.bl a,.bl b=>a==b
 |.bl a,.int b=>(if a then 1 else 0)==b
 |.int a,.bl b=>a==(if b then 1 else 0)
 |.int a,.int b=>a==b
 |.str a,.str b=>a==b
 |.tup xs,.tup ys=>R3 xs ys
 |.lst xs,.lst ys=>R3 xs ys
 |.dct,.dct=>true
 |_,_=>false
def R3:List D->List D->Bool
 |[],[]=>true
 |x::xs,y::ys=>u0 x y&&R3 xs ys
 |_,_=>false
end
mutual
def E6:D->Nat
 |.tup xs=>G3 xs+1
 |.lst xs=>G3 xs+1
 |.dct=>cLine
 |_=>0
def G3:List D->Nat
 |[]=>0
 |x::xs=>max (E6 x) (G3 xs)
end
mutual
theorem T0:∀d:D,u0 d d=true
 |.non=>by simp[u0]
 |.bl b=>by simp[u0]
 |.int i=>by simp[u0]
 |.str x=>by simp[u0]
 |.tup xs=>by rw[u0];exact iE xs
 |.lst xs=>by rw[u0];exact iE xs
 |.dct=>by simp[u0]
theorem iE:∀ds:List D,R3 ds ds=true
 |[]=>by simp[R3]
 |x::xs=>by rw[R3,T0 x,iE xs];rfl
end
def jK (xs ys:List D)(j:Nat):Bool:=match xs[j]?,ys[j]? with
 |some a,some b=>u0 a b
 |_,_=>false
theorem dH:∀(xs ys:List D),R3 xs ys=((aBb (min xs.length ys.length)).all (jK xs ys)&&(xs.length==ys.length))
 |[],[]=>by simp[R3]
 |[],_::_=>by simp[R3]
 |_::_,[]=>by simp[R3]
 |x::xs,y::ys=>by
  rw[R3,dH xs ys,aAt,aAt,Nat.succ_min_succ,aFl,aFW,List.all_map];have e1:jK (x::xs) (y::ys) 0=u0 x y:=rfl;have e2:(jK (x::xs) (y::ys)∘Nat.succ)=jK xs ys:=by
   funext j
   simp[jK]
  have e3:(xs.length+1==ys.length+1)=(xs.length==ys.length):=by rw[aDD];simp
  rw[e1,e2,e3,Bool.and_assoc]
theorem qL:∀{xs:List D} {d:D} {j:Nat},xs[j]?=some d->E6 d<=G3 xs
 |[],_,_,h=>by simp at h
 |x::xs,d,0,h=>by simp at h;subst h;rw[G3];exact Nat.le_max_left _ _
 |x::xs,d,j+1,h=>by rw[G3];exact aAx (qL (j:=j) (by simpa using h)) (Nat.le_max_right _ _)
section
mutual
theorem Rep.inj (I:Inv X pins σ H s):∀{v:V} {d d':D},Rep X.K H O v d->Rep X.K H O' v d'->d=d'
 |_,_,_,.non,.non=>rfl
 |_,_,_,.bl,.bl=>rfl
 |_,_,_,.int,.int=>rfl
 |_,_,_,.str,.str=>rfl
 |_,_,_,.tup h r,.tup h' r'=>by have e:=I.ab5 h h';subst e;rw[Reps.inj I r r']
 |_,_,_,.tup h r,.lst h' _ r'=>by obtain⟨its,_,p,_⟩:=I.tuple h;obtain⟨its',_,p',_⟩:=I.list h';exact absurd rfl (aFm (s:=s) p'.isList p)
 |_,_,_,.lst h' _ r',.tup h r=>by obtain⟨its,_,p,_⟩:=I.tuple h;obtain⟨its',_,p',_⟩:=I.list h';exact absurd rfl (aFm (s:=s) p'.isList p)
 |_,_,_,.lst h _ r,.lst h' _ r'=>by have e:=I.ac0 h h';subst e;rw[Reps.inj I r r']
 |_,_,_,.dct ..,.dct ..=>rfl
 |_,_,_,.dct h x _,.tup h' _=>by obtain⟨its,_,⟨o',g,c,_⟩,_⟩:=I.tuple h';have e:s.heap.get? _=some _:=(I.hok _ _ h).1;rw[g]at e;cases e;exact absurd (c.symm.trans x.1) (by decide)
 |_,_,_,.tup h' _,.dct h x _=>by obtain⟨its,_,⟨o',g,c,_⟩,_⟩:=I.tuple h';have e:s.heap.get? _=some _:=(I.hok _ _ h).1;rw[g]at e;cases e;exact absurd (c.symm.trans x.1) (by decide)
 |_,_,_,.dct h x _,.lst h' _ _=>by obtain⟨its,_,p,_⟩:=I.list h';obtain⟨o',g,c,_⟩:=p.isList;have e:s.heap.get? _=some _:=(I.hok _ _ h).1;rw[g]at e;cases e;exact absurd (c.symm.trans x.1) (by decide)
 |_,_,_,.lst h' _ _,.dct h x _=>by obtain⟨its,_,p,_⟩:=I.list h';obtain⟨o',g,c,_⟩:=p.isList;have e:s.heap.get? _=some _:=(I.hok _ _ h).1;rw[g]at e;cases e;exact absurd (c.symm.trans x.1) (by decide)
theorem Reps.inj (I:Inv X pins σ H s):∀{v:List V} {d d':List D},Reps X.K H O v d->Reps X.K H O' v d'->d=d'
 |_,_,_,.nil,.nil=>rfl
 |_,_,_,.cons h t,.cons h' t'=>by rw[Rep.inj I h h',Reps.inj I t t']
end
def kG (A:Around)(s:Shared)(us ws:List Value)(xs ys:List D):Prop:=∀(j:Nat) (u w:Value),us[j]?=some u->ws[j]?=some w->SeqAt.EqAt A.in1 s u w (jK xs ys j)
def vI (hl:s.heap.IsList l us.toArray)(hb:s.heap.IsList b ws.toArray)(e1:us.length=xs.length)(e2:ws.length=ys.length)(hu:A.units<cLine)(hp:kG A s us ws xs ys):SeqAt.RcAt A s (.ref l) (.ref b) (R3 xs ys)/\SeqAt.RcNeAt A s (.ref l) (.ref b) (!R3 xs ys):=by
 rw[dH];by_cases ir:xs.length=ys.length
 ·have hz:us.toArray.size=ws.toArray.size:=by simp[e1,e2,ir]
  have hm:min xs.length ys.length=us.toArray.size:=by simp[e1,ir]
  have hq:(xs.length==ys.length)=true:=by simp[ir]
  have he:∀j (h1:j<us.toArray.size) (h2:j<ws.toArray.size),SeqAt.EqAt A.in1 s us.toArray[j] ws.toArray[j] (jK xs ys j):=λj h1 h2=>hp j _ _ (by simp[aAk (show j<us.length by simpa using h1)]) (by simp[aAk (show j<ws.length by simpa using h2)]);rw[hq,Bool.and_true,hm];exact⟨SeqAt.RcAt.lists hl hb hz hu he,SeqAt.RcNeAt.lists hl hb hz hu he⟩
 ·have hz:(us.toArray.size !=ws.toArray.size)=true:=by simp[e1,e2,ir]
  have hq:(xs.length==ys.length)=false:=by simp[ir]
  rw[hq,aFL];exact⟨SeqAt.RcAt.lists_lengths hl hb hz hu,SeqAt.RcNeAt.lists_lengths hl hb hz hu⟩
def iG (hl:IsTup s.heap l us.toArray)(hb:IsTup s.heap b ws.toArray)(e1:us.length=xs.length)(e2:ws.length=ys.length)(hu:A.units<cLine)(hp:kG A s us ws xs ys):SeqAt.RcAt A s (.ref l) (.ref b) (R3 xs ys)/\SeqAt.RcNeAt A s (.ref l) (.ref b) (!R3 xs ys):=by
 rw[dH];have hm:min xs.length ys.length=min us.toArray.size ws.toArray.size:=by simp[e1,e2]
 have hq:(xs.length==ys.length)=(us.toArray.size==ws.toArray.size):=by simp[e1,e2]
 have he:∀j (h1:j<us.toArray.size) (h2:j<ws.toArray.size),SeqAt.EqAt A.in1 s us.toArray[j] ws.toArray[j] (jK xs ys j):=λj h1 h2=>hp j _ _ (by simp[aAk (show j<us.length by simpa using h1)]) (by simp[aAk (show j<ws.length by simpa using h2)]);rw[hq,hm];exact⟨SeqAt.RcAt.tuples hl hb hu he,SeqAt.RcNeAt.tuples hl hb hu he⟩
def t7 (A:Around):A.in1.units=A.units+1:=rfl
mutual
theorem SE (I:Inv X pins σ H s):∀{x y:V} {dx dy:D} {v u:Value} {A:Around},Rep X.K H O x dx->Rep X.K H O' y dy->RelV x v->RelV y u->A.units+E6 dx<cLine->A.units+E6 dy<cLine->SeqAt.EqAt A s v u (u0 dx dy)
 |_,_,_,_,v,u,A,.non,ry,rv,ru,hu,hv=>by
  have bu:A.units<cLine:=by lia
  cases rv;cases ry with
  |dct=>exact absurd hv (by rw[E6];lia)
  |non=>cases ru;exact aDE _
  |bl=>cases ru;simp only[u0];exact SeqAt.EqAt.none_bool _
  |int=>obtain⟨t,rfl⟩:=ru;simp only[u0];exact SeqAt.EqAt.none_int _ _
  |str=>obtain⟨t,rfl⟩:=ru;simp only[u0];exact SeqAt.EqAt.none_str _ _
  |tup h r=>cases ru;obtain⟨_,_,p,_⟩:=I.tuple h;simp only[u0];exact SeqAt.EqAt.none_tuple p bu
  |lst h _ r=>cases ru;obtain⟨_,_,p,_⟩:=I.list h;simp only[u0];exact SeqAt.EqAt.none_list p.isList bu
 |_,_,_,_,v,u,A,.bl,ry,rv,ru,hu,hv=>by
  have bu:A.units<cLine:=by lia
  cases rv;cases ry with
  |dct=>exact absurd hv (by rw[E6];lia)
  |non=>cases ru;simp only[u0];exact SeqAt.EqAt.bool_none _
  |bl=>cases ru;simp only[u0];exact SeqAt.EqAt.bool_bool _ _
  |int=>obtain⟨t,rfl⟩:=ru;simp only[u0];exact SeqAt.EqAt.bool_int _ _ _
  |str=>obtain⟨t,rfl⟩:=ru;simp only[u0];exact SeqAt.EqAt.bool_str _ _ _
  |tup h r=>cases ru;obtain⟨_,_,p,_⟩:=I.tuple h;simp only[u0];exact SeqAt.EqAt.bool_tuple _ p bu
  |lst h _ r=>cases ru;obtain⟨_,_,p,_⟩:=I.list h;simp only[u0];exact SeqAt.EqAt.bool_list _ p.isList bu
 |_,_,_,_,v,u,A,.int,ry,rv,ru,hu,hv=>by
  have bu:A.units<cLine:=by lia
  obtain⟨t1,rfl⟩:=rv;cases ry with
  |dct=>exact absurd hv (by rw[E6];lia)
  |non=>cases ru;simp only[u0];exact SeqAt.EqAt.int_none _ _
  |bl=>cases ru;simp only[u0];exact SeqAt.EqAt.int_bool _ _ _
  |int=>obtain⟨t,rfl⟩:=ru;simp only[u0];exact aEz _ _ _ _
  |str=>obtain⟨t,rfl⟩:=ru;simp only[u0];exact aFT _ _ _ _
  |tup h r=>cases ru;obtain⟨_,_,p,_⟩:=I.tuple h;simp only[u0];exact aFD _ _ p bu
  |lst h _ r=>cases ru;obtain⟨_,_,p,_⟩:=I.list h;simp only[u0];exact SeqAt.EqAt.int_list _ _ p.isList bu
 |_,_,_,_,v,u,A,.str,ry,rv,ru,hu,hv=>by
  have bu:A.units<cLine:=by lia
  obtain⟨t1,rfl⟩:=rv;cases ry with
  |dct=>exact absurd hv (by rw[E6];lia)
  |non=>cases ru;simp only[u0];exact SeqAt.EqAt.str_none _ _
  |bl=>cases ru;simp only[u0];exact SeqAt.EqAt.str_bool _ _ _
  |int=>obtain⟨t,rfl⟩:=ru;simp only[u0];exact aFU _ _ _ _
  |str=>obtain⟨t,rfl⟩:=ru;simp only[u0];exact SeqAt.EqAt.str_str _ _ _ _
  |tup h r=>cases ru;obtain⟨_,_,p,_⟩:=I.tuple h;simp only[u0];exact SeqAt.EqAt.str_tuple _ _ p bu
  |lst h _ r=>cases ru;obtain⟨_,_,p,_⟩:=I.list h;simp only[u0];exact SeqAt.EqAt.str_list _ _ p.isList bu
 |_,_,_,_,v,u,A,.tup (a:=a) (vs:=vs) (ds:=ds) h r,ry,rv,ru,hu,hv=>by
  have bu:A.units<cLine:=by lia
  cases rv;obtain⟨its,rr,p,_⟩:=I.tuple h;cases ry with
  |dct=>exact absurd hv (by rw[E6];lia)
  |non=>cases ru;simp only[u0];exact SeqAt.EqAt.tuple_none p bu
  |bl=>cases ru;simp only[u0];exact SeqAt.EqAt.tuple_bool _ p bu
  |int=>obtain⟨t,rfl⟩:=ru;simp only[u0];exact aFE _ _ p bu
  |str=>obtain⟨t,rfl⟩:=ru;simp only[u0];exact SeqAt.EqAt.tuple_str _ _ p bu
  |@tup a' ja cb h' r'=>
   cases ru;obtain⟨its',qe,p',_⟩:=I.tuple h';by_cases e:a=a'
   ·subst e;have e2:=I.ab5 h h';subst e2;have e3:=Reps.inj I r r';subst e3;rw[T0];exact aDE _
   ·simp only[u0];refine aEA e (iG p p' (by rw[<-rr.length,r.length]) (by rw[<-qe.length,r'.length]) bu<|fF I r r' rr qe ?_ ?_).1
    ·rw[E6]at hu;rw[t7];lia
    ·rw[E6]at hv;rw[t7];lia
  |lst h' _ r'=>cases ru;obtain⟨_,_,p',_⟩:=I.list h';simp only[u0];exact SeqAt.EqAt.tuple_list p p'.isList bu
 |_,_,_,_,v,u,A,.lst (a:=a) (vs:=vs) (ds:=ds) h nO r,ry,rv,ru,hu,hv=>by
  have bu:A.units<cLine:=by lia
  cases rv;obtain⟨its,rr,p,_⟩:=I.list h;cases ry with
  |dct=>exact absurd hv (by rw[E6];lia)
  |non=>cases ru;simp only[u0];exact SeqAt.EqAt.list_none p.isList bu
  |bl=>cases ru;simp only[u0];exact SeqAt.EqAt.list_bool _ p.isList bu
  |int=>obtain⟨t,rfl⟩:=ru;simp only[u0];exact SeqAt.EqAt.list_int _ _ p.isList bu
  |str=>obtain⟨t,rfl⟩:=ru;simp only[u0];exact SeqAt.EqAt.list_str _ _ p.isList bu
  |tup h' r'=>cases ru;obtain⟨_,_,p',_⟩:=I.tuple h';simp only[u0];exact SeqAt.EqAt.list_tuple p.isList p' bu
  |@lst a' ja cb h' nO' r'=>
   cases ru;obtain⟨its',qe,p',_⟩:=I.list h';by_cases e:a=a'
   ·subst e;have e2:=I.ac0 h h';subst e2;have e3:=Reps.inj I r r';subst e3;rw[T0];exact aDE _
   ·simp only[u0];refine aEA e (vI p.isList p'.isList (by rw[<-rr.length,r.length]) (by rw[<-qe.length,r'.length]) bu<|fF I r r' rr qe ?_ ?_).1
    ·rw[E6]at hu;rw[t7];lia
    ·rw[E6]at hv;rw[t7];lia
 |_,_,_,_,v,u,A,.dct ..,ry,rv,ru,hu,hv=>absurd hu (by rw[E6];lia)
theorem fF (I:Inv X pins σ H s):∀{vs ws:List V} {xs ys:List D} {us ts:List Value} {A:Around},Reps X.K H O vs xs->Reps X.K H O' ws ys->m6 vs us->m6 ws ts->A.in1.units+G3 xs<cLine->A.in1.units+G3 ys<cLine->kG A s us ts xs ys
 |_,_,_,_,us,ts,A,.nil,ry,rv,ru,hu,hv=>λj u w h1 h2=>by cases rv;simp at h1
 |_,_,_,_,us,ts,A,.cons h t,.nil,rv,ru,hu,hv=>λj u w h1 h2=>by cases ru;simp at h2
 |_,_,_,_,us,ts,A,.cons (d:=d) (ds:=ds) h t,.cons (d:=d') (ds:=cb) h' t',rv,ru,hu,hv=>λj u w h1 h2=>by
  cases rv with
  |cons r1 r2=>
   cases ru with
   |cons r1' r2'=>
    rw[G3]at hu hv;cases j with
    |zero=>simp only[aCQ,aGf]at h1 h2;subst h1 h2;exact SE I h h' r1 r1' (by lia) (by lia)
    |succ j=>simp only[aFa]at h1 h2;have q:=fF I (A:=A) t t' r2 r2' (by lia) (by lia) j u w h1 h2;exact q
end
def VS (I:Inv X pins σ H s)(r1:A8 X.K H O x dx)(r2:A8 X.K H O' y dy)(rv:RelV x v)(ru:RelV y u)(hu:A.units+E6 dx<cLine)(hv:A.units+E6 dy<cLine):
  SeqAt.RcAt A s v u (u0 dx dy)/\SeqAt.RcNeAt A s v u (!u0 dx dy):=by
 have bu:A.units<cLine:=by lia
 cases dx with
 |dct=>exact absurd hu (by rw[E6];lia)
 |non=>
  cases r1.ac3;cases rv;cases dy with
  |dct=>exact absurd hv (by rw[E6];lia)
  |non=>cases r2.ac3;cases ru;simp only[u0];exact⟨SeqAt.RcAt.none_none,SeqAt.RcNeAt.none_none⟩
  |bl=>cases r2.blI;cases ru;simp only[u0];exact⟨SeqAt.RcAt.none_bool _,SeqAt.RcNeAt.none_bool _⟩
  |int=>cases r2.aa6;obtain⟨t,rfl⟩:=ru;simp only[u0];exact⟨SeqAt.RcAt.none_int _ _,SeqAt.RcNeAt.none_int _ _⟩
  |str=>cases r2.ac7;obtain⟨t,rfl⟩:=ru;simp only[u0];exact⟨SeqAt.RcAt.none_str _ _,SeqAt.RcNeAt.none_str _ _⟩
  |tup ys=>obtain⟨a,vs,rfl,h,r⟩:=r2.tupI;cases ru;obtain⟨_,_,p,_⟩:=I.tuple h;simp only[u0];exact⟨SeqAt.RcAt.none_tuple p bu,SeqAt.RcNeAt.none_tuple p bu⟩
  |lst ys=>obtain⟨a,vs,rfl,h,r⟩:=r2.aa7;cases ru;obtain⟨_,_,p,_⟩:=I.list h;simp only[u0];exact⟨SeqAt.RcAt.none_list p.isList bu,SeqAt.RcNeAt.none_list p.isList bu⟩
 |bl=>
  cases r1.blI;cases rv;cases dy with
  |dct=>exact absurd hv (by rw[E6];lia)
  |non=>cases r2.ac3;cases ru;simp only[u0];exact⟨SeqAt.RcAt.bool_none _,SeqAt.RcNeAt.bool_none _⟩
  |bl=>cases r2.blI;cases ru;simp only[u0];exact⟨SeqAt.RcAt.bool_bool _ _,SeqAt.RcNeAt.bool_bool _ _⟩
  |int=>cases r2.aa6;obtain⟨t,rfl⟩:=ru;simp only[u0];exact⟨SeqAt.RcAt.bool_int _ _ _,SeqAt.RcNeAt.bool_int _ _ _⟩
  |str=>cases r2.ac7;obtain⟨t,rfl⟩:=ru;simp only[u0];exact⟨SeqAt.RcAt.bool_str _ _ _,SeqAt.RcNeAt.bool_str _ _ _⟩
  |tup ys=>obtain⟨a,vs,rfl,h,r⟩:=r2.tupI;cases ru;obtain⟨_,_,p,_⟩:=I.tuple h;simp only[u0];exact⟨SeqAt.RcAt.bool_tuple _ p bu,SeqAt.RcNeAt.bool_tuple _ p bu⟩
  |lst ys=>obtain⟨a,vs,rfl,h,r⟩:=r2.aa7;cases ru;obtain⟨_,_,p,_⟩:=I.list h;simp only[u0];exact⟨SeqAt.RcAt.bool_list _ p.isList bu,SeqAt.RcNeAt.bool_list _ p.isList bu⟩
 |int=>
  cases r1.aa6;obtain⟨t1,rfl⟩:=rv;cases dy with
  |dct=>exact absurd hv (by rw[E6];lia)
  |non=>cases r2.ac3;cases ru;simp only[u0];exact⟨SeqAt.RcAt.int_none _ _,SeqAt.RcNeAt.int_none _ _⟩
  |bl=>cases r2.blI;cases ru;simp only[u0];exact⟨SeqAt.RcAt.int_bool _ _ _,SeqAt.RcNeAt.int_bool _ _ _⟩
  |int=>cases r2.aa6;obtain⟨t,rfl⟩:=ru;simp only[u0];exact⟨SeqAt.RcAt.int_int _ _ _ _,SeqAt.RcNeAt.int_int _ _ _ _⟩
  |str=>cases r2.ac7;obtain⟨t,rfl⟩:=ru;simp only[u0];exact⟨SeqAt.RcAt.int_str _ _ _ _,SeqAt.RcNeAt.int_str _ _ _ _⟩
  |tup ys=>obtain⟨a,vs,rfl,h,r⟩:=r2.tupI;cases ru;obtain⟨_,_,p,_⟩:=I.tuple h;simp only[u0];exact⟨SeqAt.RcAt.int_tuple _ _ p bu,SeqAt.RcNeAt.int_tuple _ _ p bu⟩
  |lst ys=>obtain⟨a,vs,rfl,h,r⟩:=r2.aa7;cases ru;obtain⟨_,_,p,_⟩:=I.list h;simp only[u0];exact⟨SeqAt.RcAt.int_list _ _ p.isList bu,SeqAt.RcNeAt.int_list _ _ p.isList bu⟩
 |str=>
  cases r1.ac7;obtain⟨t1,rfl⟩:=rv;cases dy with
  |dct=>exact absurd hv (by rw[E6];lia)
  |non=>cases r2.ac3;cases ru;simp only[u0];exact⟨SeqAt.RcAt.str_none _ _,SeqAt.RcNeAt.str_none _ _⟩
  |bl=>cases r2.blI;cases ru;simp only[u0];exact⟨SeqAt.RcAt.str_bool _ _ _,SeqAt.RcNeAt.str_bool _ _ _⟩
  |int=>cases r2.aa6;obtain⟨t,rfl⟩:=ru;simp only[u0];exact⟨SeqAt.RcAt.str_int _ _ _ _,SeqAt.RcNeAt.str_int _ _ _ _⟩
  |str=>cases r2.ac7;obtain⟨t,rfl⟩:=ru;simp only[u0];exact⟨SeqAt.RcAt.str_str _ _ _ _,SeqAt.RcNeAt.str_str _ _ _ _⟩
  |tup ys=>obtain⟨a,vs,rfl,h,r⟩:=r2.tupI;cases ru;obtain⟨_,_,p,_⟩:=I.tuple h;simp only[u0];exact⟨SeqAt.RcAt.str_tuple _ _ p bu,SeqAt.RcNeAt.str_tuple _ _ p bu⟩
  |lst ys=>obtain⟨a,vs,rfl,h,r⟩:=r2.aa7;cases ru;obtain⟨_,_,p,_⟩:=I.list h;simp only[u0];exact⟨SeqAt.RcAt.str_list _ _ p.isList bu,SeqAt.RcNeAt.str_list _ _ p.isList bu⟩
 |tup xs=>
  obtain⟨a,vs,rfl,h,r⟩:=r1.tupI;cases rv;obtain⟨its,rr,p,_⟩:=I.tuple h;cases dy with
  |dct=>exact absurd hv (by rw[E6];lia)
  |non=>cases r2.ac3;cases ru;simp only[u0];exact⟨SeqAt.RcAt.tuple_none p bu,SeqAt.RcNeAt.tuple_none p bu⟩
  |bl=>cases r2.blI;cases ru;simp only[u0];exact⟨SeqAt.RcAt.tuple_bool _ p bu,SeqAt.RcNeAt.tuple_bool _ p bu⟩
  |int=>cases r2.aa6;obtain⟨t,rfl⟩:=ru;simp only[u0];exact⟨SeqAt.RcAt.tuple_int _ _ p bu,SeqAt.RcNeAt.tuple_int _ _ p bu⟩
  |str=>cases r2.ac7;obtain⟨t,rfl⟩:=ru;simp only[u0];exact⟨SeqAt.RcAt.tuple_str _ _ p bu,SeqAt.RcNeAt.tuple_str _ _ p bu⟩
  |tup ys=>
   obtain⟨a',ja,rfl,h',r'⟩:=r2.tupI;cases ru;obtain⟨its',qe,p',_⟩:=I.tuple h';simp only[u0];refine iG p p' (by rw[<-rr.length,r.length]) (by rw[<-qe.length,r'.length]) bu (fF I r r' rr qe ?_ ?_)
   ·rw[E6]at hu;rw[t7];lia
   ·rw[E6]at hv;rw[t7];lia
  |lst ys=>obtain⟨a',ja,rfl,h',r'⟩:=r2.aa7;cases ru;obtain⟨_,_,p',_⟩:=I.list h';simp only[u0];exact⟨SeqAt.RcAt.tuple_list p p'.isList bu,SeqAt.RcNeAt.tuple_list p p'.isList bu⟩
 |lst xs=>
  obtain⟨a,vs,rfl,h,r⟩:=r1.aa7;cases rv;obtain⟨its,rr,p,_⟩:=I.list h;cases dy with
  |dct=>exact absurd hv (by rw[E6];lia)
  |non=>cases r2.ac3;cases ru;simp only[u0];exact⟨SeqAt.RcAt.list_none p.isList bu,SeqAt.RcNeAt.list_none p.isList bu⟩
  |bl=>cases r2.blI;cases ru;simp only[u0];exact⟨SeqAt.RcAt.list_bool _ p.isList bu,SeqAt.RcNeAt.list_bool _ p.isList bu⟩
  |int=>cases r2.aa6;obtain⟨t,rfl⟩:=ru;simp only[u0];exact⟨SeqAt.RcAt.list_int _ _ p.isList bu,SeqAt.RcNeAt.list_int _ _ p.isList bu⟩
  |str=>cases r2.ac7;obtain⟨t,rfl⟩:=ru;simp only[u0];exact⟨SeqAt.RcAt.list_str _ _ p.isList bu,SeqAt.RcNeAt.list_str _ _ p.isList bu⟩
  |tup ys=>obtain⟨a',ja,rfl,h',r'⟩:=r2.tupI;cases ru;obtain⟨_,_,p',_⟩:=I.tuple h';simp only[u0];exact⟨SeqAt.RcAt.list_tuple p.isList p' bu,SeqAt.RcNeAt.list_tuple p.isList p' bu⟩
  |lst ys=>
   obtain⟨a',ja,rfl,h',r'⟩:=r2.aa7;cases ru;obtain⟨its',qe,p',_⟩:=I.list h';simp only[u0];refine vI p.isList p'.isList (by rw[<-rr.length,r.length]) (by rw[<-qe.length,r'.length]) bu (fF I r r' rr qe ?_ ?_)
   ·rw[E6]at hu;rw[t7];lia
   ·rw[E6]at hv;rw[t7];lia
end
def FN (x y:D):R D:=if E6 x<=40/\E6 y<=40 then .ok (.bl (u0 x y))else .bad
def EJ (x y:D):R D:=if E6 x<=40/\E6 y<=40 then .ok (.bl (!u0 x y))else .bad
section
def bG (hu:X.A.units+64<cLine):iJ X (compareOp .Eq) FN:=by
 intro H O x y dx dy Q fr r1 r2 q;unfold FN at q;split at q
 ·rename_i hd;refine⟨λx' y' H' Q'=>x'=x/\y'=y/\H'=H/\Q' (.bl (u0 dx dy)) H,?_,rfl,rfl,rfl,q _ H (Same.refl _) .bl⟩;intro pins s σ H' x' y' v u Q' I rx ry ⟨e1,e2,e3,q'⟩;subst e1 e2 e3;exact(VS I (A:=X.A) r1 r2 rx ry (by lia) (by lia)).1 _ _ _ _ ⟨.bl _,_,I,rfl,q'⟩
 ·exact q.elim
def kK (hu:X.A.units+64<cLine):iJ X (compareOp .NotEq) EJ:=by
 intro H O x y dx dy Q fr r1 r2 q;unfold EJ at q;split at q
 ·rename_i hd;refine⟨λx' y' H' Q'=>x'=x/\y'=y/\H'=H/\Q' (.bl (!u0 dx dy)) H,?_,rfl,rfl,rfl,q _ H (Same.refl _) .bl⟩;intro pins s σ H' x' y' v u Q' I rx ry ⟨e1,e2,e3,q'⟩;subst e1 e2 e3;exact(VS I (A:=X.A) r1 r2 rx ry (by lia) (by lia)).2 _ _ _ _ ⟨.bl _,_,I,rfl,q'⟩
 ·exact q.elim
end
def jY:D->D->R D
 |.int a,.int b=>.ok (.int (a+b))
 |.lst a,.lst b=>if a.length+b.length<=sizeLine then .ok (.lst (a++b))else .bad
 |.tup [],.tup b=>.ok (.tup b)
 |.tup (x::a),.tup []=>if(x::a).length<=sizeLine then .ok (.tup (x::a))else .bad
 |.tup (x::a),.tup (y::b)=>if(x::a).length+(y::b).length<=sizeLine then .ok (.tup ((x::a)++(y::b)))else .bad
 |_,_=>.bad
def vX:D->D->R D
 |.int a,.int b=>.ok (.int (a-b))
 |_,_=>.bad
def p6 (a b:Int):Prop:=aAQ a<=60000000/\aAQ b<=60000000
instance(a b:Int):Decidable (p6 a b):=inferInstanceAs (Decidable<|_/\_)
def nD:D->D->R D
 |.int a,.int b=>if p6 a b then .ok (.int (a*b))else .bad
 |_,_=>.bad
def uN (b:Int):Prop:=b≠0/\aAQ b<=9000
instance(b:Int):Decidable (uN b):=inferInstanceAs (Decidable<|_/\_)
def Q5:D->D->R D
 |.int a,.int b=>if uN b then .ok (.int (a.fdiv b))else .bad
 |_,_=>.bad
def aX:D->D->R D
 |.int a,.int b=>if b≠0 then .ok (.int (a.fmod b))else .bad
 |_,_=>.bad
def IL:D->D->R D
 |.int a,.int b=>if 0<=b/\b<=1000000/\a.natAbs<2^64 then .ok (.int (a^b.toNat))else .bad
 |_,_=>.bad
def YM:D->D->R D
 |.int a,.int b=>.ok (.bl (decide (a<b)))
 |_,_=>.bad
def XQ:D->D->R D
 |.int a,.int b=>.ok (.bl (decide (a<=b)))
 |_,_=>.bad
def UM:D->D->R D
 |.int a,.int b=>.ok (.bl (decide (b<a)))
 |_,_=>.bad
def uq:D->D->R D
 |.int a,.int b=>.ok (.bl (decide (b<=a)))
 |_,_=>.bad
def CI (h0:b≠0)(h:aAQ b<=n):b.natAbs.log2<n:=by
 unfold aAQ at h;split at h
 ·rename_i z;exact absurd (by simpa using z) h0
 ·omega
def FA (h:p6 a b):IntMulOk a b:=mulOk_of_bits (m:=60000000) (n:=60000000) h.1 h.2 (by decide)
section
def iJ.aa8 {f:Value->Value->Sem Value}{g:D->D->R D}{C:Int->Int->Prop}{w:Int->Int->V}{dw:Int->Int->D}(hr:gC X f (rI C w))(hg:∀dx dy d,g dx dy=.ok d->∃i j,dx=.int i/\dy=.int j/\C i j/\d=dw i j)
  (hb:∀dx dy e,g dx dy≠.ex e) (hw:∀K H O i j,Rep K H O (w i j) (dw i j)):iJ X f g:=by
 intro H O x y dx dy Q fr r1 r2 q;cases e:g dx dy with
 |ok d=>rw[e]at q;obtain⟨i,j,rfl,rfl,hc,rfl⟩:=hg dx dy d e;cases r1.aa6;cases r2.aa6;exact⟨_,hr,i,j,rfl,rfl,hc,q _ H (Same.refl _) (hw _ _ _ _ _)⟩
 |ex x=>exact absurd e (hb _ _ _)
 |bad=>rw[e]at q;exact q.elim
def gC.c0 (h:gC X f (OZ w)):gC X f (rI (λ_ _=>True) w):=λpins s σ H x y v u Q I rx ry ⟨i,j,e1,e2,_,q⟩=>h pins s σ H x y v u Q I rx ry ⟨i,j,e1,e2,q⟩
def T1:iJ X (binaryOp .Sub) vX:=iJ.aa8 (dw:=λi j=>.int (i-j)) (gC.c0 SD) (λdx dy d h=>by cases dx<;>cases dy<;>simp only[vX,R.ok.injEq,reduceCtorEq]at h;exact⟨_,_,rfl,rfl,trivial,h.symm⟩) (λdx dy e h=>by cases dx<;>cases dy<;>simp only[vX,reduceCtorEq]at h) λ_ _ _ _ _=>.int
def sR:iJ X (compareOp .Lt) YM:=iJ.aa8 (dw:=λi j=>.bl (decide (i<j))) (gC.c0 VF) (λdx dy d h=>by cases dx<;>cases dy<;>simp only[YM,R.ok.injEq,reduceCtorEq]at h;exact⟨_,_,rfl,rfl,trivial,h.symm⟩) (λdx dy e h=>by cases dx<;>cases dy<;>simp only[YM,reduceCtorEq]at h) λ_ _ _ _ _=>.bl
def VW:iJ X (compareOp .LtE) XQ:=iJ.aa8 (dw:=λi j=>.bl (decide (i<=j))) (gC.c0 VD) (λdx dy d h=>by cases dx<;>cases dy<;>simp only[XQ,R.ok.injEq,reduceCtorEq]at h;exact⟨_,_,rfl,rfl,trivial,h.symm⟩) (λdx dy e h=>by cases dx<;>cases dy<;>simp only[XQ,reduceCtorEq]at h) λ_ _ _ _ _=>.bl
def AN:iJ X (compareOp .Gt) UM:=iJ.aa8 (dw:=λi j=>.bl (decide (j<i))) (gC.c0 VM) (λdx dy d h=>by cases dx<;>cases dy<;>simp only[UM,R.ok.injEq,reduceCtorEq]at h;exact⟨_,_,rfl,rfl,trivial,h.symm⟩) (λdx dy e h=>by cases dx<;>cases dy<;>simp only[UM,reduceCtorEq]at h) λ_ _ _ _ _=>.bl
def FO:gC X (binaryOp .FloorDiv) (rI (λ_ j=>uN j) λi j=>.int (i.fdiv j)):=XV λ_ _ _ _ _ _ _ hc q=>floordiv_int hc.1 q (.inl (PyProof.noPylong_of_log2<|CI hc.1 hc.2))
def D9:iJ X (binaryOp .FloorDiv) Q5:=iJ.aa8 (dw:=λi j=>.int (i.fdiv j)) FO (λdx dy d h=>by
 cases dx<;>cases dy<;>simp only[Q5,reduceCtorEq]at h;split at h
 ·rename_i hc;cases h;exact⟨_,_,rfl,rfl,hc,rfl⟩
 ·cases h) (λdx dy e h=>by
  cases dx<;>cases dy<;>simp only[Q5,reduceCtorEq]at h;split at h<;>cases h) λ_ _ _ _ _=>.int
def P8:iJ X (binaryOp .Mod) aX:=iJ.aa8 (dw:=λi j=>.int (i.fmod j)) NC (λdx dy d h=>by
 cases dx<;>cases dy<;>simp only[aX,reduceCtorEq]at h;split at h
 ·rename_i hc;cases h;exact⟨_,_,rfl,rfl,hc,rfl⟩
 ·cases h) (λdx dy e h=>by
  cases dx<;>cases dy<;>simp only[aX,reduceCtorEq]at h;split at h<;>cases h) λ_ _ _ _ _=>.int
def FI:iJ X (binaryOp .Pow) IL:=iJ.aa8 (dw:=λi j=>.int (i^j.toNat)) RZ (λdx dy d h=>by
 cases dx<;>cases dy<;>simp only[IL,reduceCtorEq]at h;split at h
 ·rename_i hc;cases h;exact⟨_,_,rfl,rfl,hc,rfl⟩
 ·cases h) (λdx dy e h=>by
  cases dx<;>cases dy<;>simp only[IL,reduceCtorEq]at h;split at h<;>cases h) λ_ _ _ _ _=>.int
def LU:gC X (binaryOp .Mult) (rI p6 λi j=>.int (i*j)):=XV λ_ _ _ _ _ _ _ hc q=>mul_int q (FA hc)
def y8:iJ X (binaryOp .Mult) nD:=iJ.aa8 (dw:=λi j=>.int (i*j)) LU (λdx dy d h=>by
 cases dx<;>cases dy<;>simp only[nD,reduceCtorEq]at h;split at h
 ·rename_i hc;cases h;exact⟨_,_,rfl,rfl,hc,rfl⟩
 ·cases h) (λdx dy e h=>by
  cases dx<;>cases dy<;>simp only[nD,reduceCtorEq]at h;split at h<;>cases h) λ_ _ _ _ _=>.int
def NT:gC X (binaryOp .Add) (λx y H Q=>∃l b xs zs,x=.ref l/\y=.ref b/\N1 X.K H l xs/\N1 X.K H b zs/\xs.length+zs.length<=sizeLine/\∀p,H p=none->Q (.ref p) (upd H p (.lst (xs++zs)))):=by
 intro pins s σ H x y v u Q I rx ry h;obtain⟨l,b,xs,zs,rfl,rfl,hH,hB,hz,q⟩:=h;cases rx;cases ry;obtain⟨its,r,p,_⟩:=I.list hH;obtain⟨md,r2,p2,_⟩:=I.list hB;obtain⟨⟨cls,dd,data,sl⟩,ho,hc,n,hd⟩:=p.isList;obtain⟨⟨cls2,vt,data2,uo⟩,lg,kg,n2,hd2⟩:=p2.isList;simp only at hc hd kg hd2;subst hc hd kg hd2;have ir:its.toArray.size+md.toArray.size<=sizeLine:=by rw[aAm,aAm,<-r.length,<-r2.length];exact hz
 have ea:its.toArray++md.toArray=(its++md).toArray:=by simp
 refine aFp ⟨_,ho,rfl⟩ ⟨_,lg,rfl⟩ noFill_list_add seq_list_add PySem.F.slot_list_add PySem.F.entry_list_add (PySem.F.args_list_add_2 _ _) (list_addW l b its.toArray md.toArray n n2 dd vt sl uo ir) ⟨ho,lg,?_⟩;rw[ea];exact⟨.ref _,_,I.af5 (t':=s.toks) (r.append r2) (by rw[aAz];omega),rfl,q _ I.fresh⟩
def IV:gC X (binaryOp .Add) (λx y H Q=>∃a b ys,x=.ref a/\y=.ref b/\V9 X.K H a []/\V9 X.K H b ys/\Q (.ref b) H):=by intro pins s σ H x y v u Q I rx ry h;obtain⟨t,b,ys,rfl,rfl,ha,hb,q⟩:=h;cases rx;cases ry;obtain⟨its,r1,p1,_⟩:=I.tuple ha;obtain⟨ws,r2,p2,_⟩:=I.tuple hb;cases r1;obtain⟨⟨cls,dd,data,sl⟩,ho,hc,n,hd⟩:=p1;obtain⟨⟨cls2,vt,data2,uo⟩,lg,kg,n2,hd2⟩:=p2;simp only at hc hd kg hd2;subst hc hd kg hd2;exact aFp ⟨_,ho,rfl⟩ ⟨_,lg,rfl⟩ aFd seq_tuple_add PySem.F.slot_tuple_add PySem.F.entry_tuple_add (PySem.F.args_tuple_add_2 _ _) (tuple_addW0 t b _ _ n n2 dd vt sl uo (by simp)) ⟨ho,lg,.ref b,H,I,rfl,q⟩
def t4:iJ X (binaryOp .Add) jY:=by
 intro H O x y dx dy Q fr r1 r2 q;cases dx with
 |int i=>
  cases dy with
  |int j=>cases r1.aa6;cases r2.aa6;exact⟨_,QK,i,j,rfl,rfl,q _ H (Same.refl _) .int⟩
  |_=>exact aAh q
 |lst a=>
  cases dy with
  |lst b=>
   simp only[jY]at q;split at q
   ·rename_i hz;obtain⟨l,vs,rfl,h1,h2⟩:=r1.aa7;obtain⟨l',ja,rfl,yb,yc⟩:=r2.aa7;exact⟨_,NT,l,l',vs,ja,rfl,rfl,h1,yb,by rw[h2.length,yc.length];exact hz,λp hp=>q _ _ (i5 hp _) (.lst (N1.of i4) (fr p hp) ((h2.append yc).same (i5 hp _)))⟩
   ·exact q.elim
  |_=>exact aAh q
 |tup a=>
  cases dy with
  |tup b=>
   cases a with
   |nil=>obtain⟨l,vs,rfl,h1,h2⟩:=r1.tupI;obtain⟨l',ja,rfl,yb,yc⟩:=r2.tupI;cases h2;exact⟨_,IV,l,l',ja,rfl,rfl,h1,yb,q _ H (Same.refl _) (.tup yb yc)⟩
   |cons x a=>
    cases b with
    |nil=>
     obtain⟨l,vs,rfl,h1,h2⟩:=r1.tupI;obtain⟨l',ja,rfl,yb,yc⟩:=r2.tupI;cases yc;have n1:vs≠[]:=λz=>by subst z;have:=h2.length;simp at this
     simp only[jY]at q;split at q
     ·rename_i hz;exact⟨_,AH,l,l',vs,[],rfl,rfl,h1,yb,n1,by rw[h2.length];exact hz,λ_=>q _ H (Same.refl _) (.tup h1 h2),λz=>absurd rfl z⟩
     ·exact q.elim
    |cons y b=>
     simp only[jY]at q;split at q
     ·rename_i hz;obtain⟨l,vs,rfl,h1,h2⟩:=r1.tupI;obtain⟨l',ja,rfl,yb,yc⟩:=r2.tupI;have n1:vs≠[]:=λz=>by subst z;have:=h2.length;simp at this
      have n2:ja≠[]:=λz=>by subst z;have:=yc.length;simp at this
      exact⟨_,AH,l,l',vs,ja,rfl,rfl,h1,yb,n1,by rw[h2.length,yc.length];exact hz,λz=>absurd z n2,λ_ p hp=>q _ _ (i5 hp _) (.tup (V9.of i4) ((h2.append yc).same (i5 hp _)))⟩
     ·exact q.elim
  |_=>cases a<;>exact aAh q
 |_=>exact aAh q
def O9 (x y:D):R D:=match x,y with
 |.lst xs,.int i=>match fW xs i with|some d=>.ok d|none=>.bad
 |.tup xs,.int i=>match fW xs i with|some d=>.ok d|none=>.bad
 |_,_=>.bad
def tH {K:PySem.W.Frag}{H:Hp}{O:Addr->Prop}{vs:List V}{ds:List D}{i:Int}{d:D}(r:Reps K H O vs ds)(h:fW ds i=some d):∃v,fW vs i=some v/\Rep K H O v d:=by
 unfold fW at h⊢;rw[r.length];cases e:ON ds.length i with
 |none=>rw[e]at h;cases h
 |some j=>rw[e]at h;exact r.get h
def j3 (ha:PB X a f)(hb:PD X b g)(hs:NY b:=by exactλ_ _=>rfl):PD X (.Subscript a b pos) (λρ=>(f ρ).bind λx=>(g ρ).bind λy=>O9 x y):=by
 refine sF λpins s σ H Q I Ha O0 O ρ E q=>?_;refine Subscript_ (DD ha hb.pb I (kF E q) λv u s2 x y H2 I2 rx ry h=>?_);obtain⟨dx,dy,fr,r1,r2,q⟩:=h;cases dy with
 |int i=>
  cases r2.aa6;cases dx with
  |lst xs=>
   simp only[O9]at q;cases e:fW xs i with
   |none=>rw[e]at q;exact q.elim
   |some d=>rw[e]at q;obtain⟨p,vs,rfl,h1,h2⟩:=r1.aa7;obtain⟨w,h3,h4⟩:=tH h2 e;exact LX a b pins s2 σ H2 _ _ v u Q I2 rx ry ⟨p,vs,i,w,rfl,rfl,h1,h3,q w H2 (Same.refl _) h4⟩ (hs _ _)
  |tup xs=>
   simp only[O9]at q;cases e:fW xs i with
   |none=>rw[e]at q;exact q.elim
   |some d=>rw[e]at q;obtain⟨p,vs,rfl,h1,h2⟩:=r1.tupI;obtain⟨w,h3,h4⟩:=tH h2 e;exact RB a b pins s2 σ H2 _ _ v u Q I2 rx ry ⟨p,vs,i,w,rfl,rfl,h1,h3,q w H2 (Same.refl _) h4⟩ (hs _ _)
  |_=>exact aAh q
 |_=>cases dx<;>exact aAh q
def cutD (xs:List D)(lo hi:Option Int):List D:=(xs.drop<|HT.sIx xs.length 0 lo).take (HT.sIx xs.length xs.length hi-HT.sIx xs.length 0 lo)
def pL {K:PySem.W.Frag}{H:Hp}{O:Addr->Prop}{vs:List V}{ds:List D}{lo hi:Option Int}(r:Reps K H O vs ds):Reps K H O (uW vs lo hi) (cutD ds lo hi):=by unfold uW cutD;rw[r.length];exact(r.drop _).take _
def YR (X:Cx)(e:Option Expr)(f:Ev->R (Option Int)):Prop:=PO X e λσ H Q=>∃Ha O0 O ρ,EnvOk X.K Ha O0 H O σ ρ/\match f ρ with
 |.ok o=>∀H',Same H H'->Q o H'
 |.ex e=>∀H',Same H H'->XW X e H'
 |.bad=>False
def kz:D->R (Option Int)
 |.int i=>.ok (some i)
 |_=>.bad
def Y3:YR X none (λ_=>.ok none):=λpins s σ H Q I ⟨Ha,O0,O,ρ,E,q⟩=>MT pins s σ H Q I (q H<|Same.refl _)
def Y4 (h:PD X e f):YR X (some e) (λρ=>(f ρ).bind kz):=λpins s σ H Q I ⟨Ha,O0,O,ρ,E,q⟩=>KZ h pins s σ H Q I ⟨Ha,O0,O,ρ,E,by
 dsimp only at q;cases e:f ρ with
 |ok d=>
  rw[e]at q;cases d with
  |int i=>exactλv H1 s1 r1=>by cases r1;exact⟨i,rfl,q H1 s1⟩
  |_=>exact aAh q
 |ex x=>rw[e]at q;exact q
 |bad=>rw[e]at q;exact q⟩
def mS (x:D)(lo hi:Option Int):R D:=match x with
 |.lst xs=>.ok (.lst (cutD xs lo hi))
 |.tup xs=>if HT.sIx xs.length 0 lo=0/\HT.sIx xs.length xs.length hi=xs.length then .bad else .ok (.tup (cutD xs lo hi))
 |_=>.bad
def oU {lo hi:Option Expr}{p2:Pos}{fl fh:Ev->R (Option Int)}(he:PB X a f)(hl:YR X lo fl)(hu:YR X hi fh):
  PD X (.Subscript a (.Slice lo hi none p2) pos) (λρ=>(f ρ).bind λx=>(fl ρ).bind λl=>(fh ρ).bind λh=>mS x l h):=by
 refine sF λpins s σ H Q I Ha O0 O ρ E q=>?_;have fin:∀x d l h H',A8 X.K H' O x d->(∀p,H' p=none->¬O p)->RC X H' O (mS d l h) Q->UT X.K x l h H' Q\/UV X.K x l h H' Q:=λx d l h H' r fr q=>by
  cases d with
  |lst xs=>obtain⟨p,vs,rfl,h1,h2⟩:=r.aa7;exact .inl ⟨p,vs,rfl,h1,λp hp=>q _ _ (i5 hp _) (.lst (N1.of i4) (fr p hp) ((pL h2).same (i5 hp _)))⟩
  |tup xs=>
   obtain⟨p,vs,rfl,h1,h2⟩:=r.tupI;simp only[mS]at q;split at q
   ·exact q.elim
   ·rename_i hn;exact .inr ⟨p,vs,rfl,h1,by rw[h2.length];exact hn,λp hp=>q _ _ (i5 hp _) (.tup (V9.of i4) ((pL h2).same (i5 hp _)))⟩
  |_=>exact aAh q
 refine FE (LB.or UE) he hl hu pins s σ H Q I ⟨Ha,O0,O,ρ,E,?_⟩;dsimp only at q;cases e1:f ρ with
 |ok d=>
  rw[e1]at q;intro x H1 s1 r1;refine⟨Ha,O0,O,ρ,E.grow s1,?_⟩;rw[R.aa0]at q;cases e2:fl ρ with
  |ok l=>
   rw[e2]at q;intro H2 s2;refine⟨Ha,O0,O,ρ,(E.grow s1).grow s2,?_⟩;cases e3:fh ρ with
   |ok h=>rw[e3]at q;intro H3 s3;have q':RC X H O (mS d l h) Q:=q;exact fin x d l h H3 ((r1.same s2).same s3) (λp hp=>(((E.grow s1).grow s2).grow s3).fresh hp) (q'.grow<|s1.trans<|s2.trans s3)
   |ex x=>rw[e3]at q;exactλH3 s3=>q H3 (s1.trans<|s2.trans s3)
   |bad=>rw[e3]at q;exact q
  |ex x=>rw[e2]at q;exactλH3 s3=>q H3 (s1.trans s3)
  |bad=>rw[e2]at q;exact q
 |ex x=>rw[e1]at q;exact q
 |bad=>rw[e1]at q;exact q
def EZ {K:PySem.W.Frag}{H:Hp}{O:Addr->Prop}{vs:List V}{d:D}(r:Paired (A8 K H O) vs [d]):∃v,vs=[v]/\A8 K H O v d:=by
 cases r with
 |cons r1 r2=>cases r2;exact⟨_,rfl,r1⟩
def YQ {K:PySem.W.Frag}{H:Hp}{O:Addr->Prop}{vs:List V}{d d':D}(r:Paired (A8 K H O) vs [d,d']):∃v v',vs=[v,v']/\A8 K H O v d/\A8 K H O v' d':=by
 cases r with
 |cons r1 r2=>obtain⟨v',e,r'⟩:=EZ r2;subst e;exact⟨_,_,rfl,r1,r'⟩
def GW:List D->R D
 |[.lst xs]=>.ok (.int xs.length)
 |[.tup xs]=>.ok (.int xs.length)
 |_=>.bad
def bJ:bN X (.builtin "len") GW:=by
 intro H O vs ds Q fr r q;match ds,q with
 |[.lst xs],q=>obtain⟨v,rfl,z⟩:=EZ r;obtain⟨p,ys,rfl,h1,h2⟩:=z.aa7;exact⟨_,fZ,p,ys,rfl,.inl h1,q _ H (Same.refl _) (by rw[h2.length];exact .int)⟩
 |[.tup xs],q=>obtain⟨v,rfl,z⟩:=EZ r;obtain⟨p,ys,rfl,h1,h2⟩:=z.tupI;exact⟨_,fZ,p,ys,rfl,.inr h1,q _ H (Same.refl _) (by rw[h2.length];exact .int)⟩
def WR:List D->R D
 |[.int i]=>.ok (.int (if i<0 then-i else i))
 |_=>.bad
def RY:bN X (.builtin "abs") WR:=by
 intro H O vs ds Q fr r q;match ds,q with
 |[.int i],q=>obtain⟨v,rfl,z⟩:=EZ r;cases z.aa6;exact⟨_,JE,i,rfl,q _ H (Same.refl _) .int⟩
def OS:List D->R D
 |[.int i,.int j]=>.ok (.int (if j>i then j else i))
 |_=>.bad
def OR:List D->R D
 |[.int i,.int j]=>.ok (.int (if j<i then j else i))
 |_=>.bad
def NM (hc:X.calm=true):bN X (.builtin "max") OS:=by
 intro H O vs ds Q fr r q;match ds,q with
 |[.int i,.int j],q=>obtain⟨v,v',rfl,z,z'⟩:=YQ r;cases z.aa6;cases z'.aa6;exact⟨_,DN hc,i,j,rfl,q _ H (Same.refl _) .int⟩
def NW (hc:X.calm=true):bN X (.builtin "min") OR:=by
 intro H O vs ds Q fr r q;match ds,q with
 |[.int i,.int j],q=>obtain⟨v,v',rfl,z,z'⟩:=YQ r;cases z.aa6;cases z'.aa6;exact⟨_,CU hc,i,j,rfl,q _ H (Same.refl _) .int⟩
def WM:List D->R D
 |[.int i]=>.ok (.int i)
 |[.bl b]=>.ok (.int (if b then 1 else 0))
 |_=>.bad
def rQ:List D->R D
 |[.lst xs]=>.ok (.tup xs)
 |[.tup xs]=>.ok (.tup xs)
 |_=>.bad
def GZ:bN X (.type "tuple") rQ:=by
 intro H O vs ds Q fr r q;match ds,q with
 |[.lst xs],q=>obtain⟨v,rfl,z⟩:=EZ r;obtain⟨p,ys,rfl,h1,h2⟩:=z.aa7;exact⟨_,cI,p,ys,rfl,.inl ⟨h1,λl hl=>q _ _ (i5 hl _) (.tup (V9.of i4) (h2.same<|i5 hl _))⟩⟩
 |[.tup xs],q=>obtain⟨v,rfl,z⟩:=EZ r;obtain⟨p,ys,rfl,h1,h2⟩:=z.tupI;exact⟨_,cI,p,ys,rfl,.inr ⟨h1,q _ _ (Same.refl _) (.tup h1 h2)⟩⟩
def sS:List D->R D
 |[.lst xs]=>.ok (.lst xs)
 |[.tup xs]=>.ok (.lst xs)
 |_=>.bad
def AT:bN X (.type "list") sS:=by
 intro H O vs ds Q fr r q;match ds,q with
 |[.lst xs],q=>obtain⟨v,rfl,z⟩:=EZ r;obtain⟨p,ys,rfl,h1,h2⟩:=z.aa7;exact⟨_,fJ,p,ys,rfl,.inl h1,λl hl=>q _ _ (i5 hl _) (.lst (N1.of i4) (fr l hl) (h2.same<|i5 hl _))⟩
 |[.tup xs],q=>obtain⟨v,rfl,z⟩:=EZ r;obtain⟨p,ys,rfl,h1,h2⟩:=z.tupI;exact⟨_,fJ,p,ys,rfl,.inr h1,λl hl=>q _ _ (i5 hl _) (.lst (N1.of i4) (fr l hl) (h2.same<|i5 hl _))⟩
def lq:D->String
 |.non=> "NoneType"|.bl _=> "bool"|.int _=> "int"|.str _=> "str"|.tup _=> "tuple"|.lst _=> "list"|.dct=> "dict"
def DI (T:String)(d:D):Bool:=lq d==T||(T== "int"&&lq d== "bool")
end
section
variable{K:PySem.W.Frag}
def Kp.lst (k:Kp H O H' O'){a:Addr}{xs:List V}(n:¬O a)(h:N1 K H a xs)(hK:∀o,K.lookup a=some o->¬O' a):¬O' a/\N1 K H' a xs:=by
 rcases h with(h|⟨o,h⟩)|h
 ·exact⟨(k _ _ h n).2,.inl (.inl (k _ _ h n).1)⟩
 ·exact⟨(k _ _ h n).2,.inl (.inr ⟨o,(k _ _ h n).1⟩)⟩
 ·obtain⟨o,its,m,h1,h2⟩:=h;exact⟨hK o h1,.inr ⟨o,its,m,h1,h2⟩⟩
def Kp.tup (k:Kp H O H' O')(hO:∀a,O a->∃o,H a=some o/\Mt o){a:Addr}{xs:List V}(h:V9 K H a xs):V9 K H' a xs:=by
 rcases h with(h|⟨o,h⟩)|h
 ·exact .inl (.inl (k _ _ h λz=>by obtain⟨o,q,m⟩:=hO a z;rw[h]at q;cases q;exact m).1)
 ·exact .inl (.inr ⟨o,(k _ _ h λz=>by obtain⟨o,q,m⟩:=hO a z;rw[h]at q;cases q;exact m).1⟩)
 ·exact .inr h
end
def R4 (K:PySem.W.Frag)(O:Addr->Prop):Prop:=∀a o,K.lookup a=some o->¬O a
def Kp.rep {K:PySem.W.Frag}{H H':Hp}{O O':Addr->Prop}(k:Kp H O H' O')(hO:∀a,O a->∃o,H a=some o/\Mt o)(hK:R4 K O'){v:V}{d:D}(r:Rep K H O v d):Rep K H' O' v d:=
 r.mono (λ_ _ h=>k.tup hO h) (λa _ n h=>k.lst n h λo q=>hK a o q) λa _ n h=>⟨(k a _ h n).2,(k a _ h n).1⟩
def Kp.ac6 {K:PySem.W.Frag}{H H':Hp}{O O':Addr->Prop}(k:Kp H O H' O')(hO:∀a,O a->∃o,H a=some o/\Mt o)(hK:R4 K O'){v:List V}{d:List D}(r:Reps K H O v d):Reps K H' O' v d:=
 r.mono (λ_ _ h=>k.tup hO h) (λa _ n h=>k.lst n h λo q=>hK a o q) λa _ n h=>⟨(k a _ h n).2,(k a _ h n).1⟩
inductive Out where
 |nx (ρ:Ev)|rt (d:D)|bk (ρ:Ev)|ct (ρ:Ev)
def RS (X:Cx)(Ha:Hp)(O0:Addr->Prop)(H:Hp)(O:Addr->Prop)(r:R Out)(D:Ends):Prop:=match r with
 |.ok (.nx ρ)=>∀ai H' O',EnvOk X.K Ha O0 H' O' ai ρ->R4 X.K O'->Kp H O H' O'->D.nx ai H'
 |.ok (.bk ρ)=>∀ai H' O',EnvOk X.K Ha O0 H' O' ai ρ->R4 X.K O'->Kp H O H' O'->D.bk ai H'
 |.ok (.ct ρ)=>∀ai H' O',EnvOk X.K Ha O0 H' O' ai ρ->R4 X.K O'->Kp H O H' O'->D.ct ai H'
 |.ok (.rt d)=>∀v H',Same Ha H'->Rep X.K H' O0 v d->D.rt v H'
 |.ex e=>∀H',Same Ha H'->XW X e H'
 |.bad=>False
def tS (X:Cx)(Ha:Hp)(O0:Addr->Prop)(F:Ev->R Out):TS:=λD σ H=>∃O ρ,EnvOk X.K Ha O0 H O σ ρ/\R4 X.K O/\RS X Ha O0 H O (F ρ) D
def nJ (X:Cx)(st:Stmt)(F:Ev->R Out):Prop:=∀Ha O0,PS X st (tS X Ha O0 F)
def U6 (X:Cx)(st:List Stmt)(F:Ev->R Out):Prop:=∀Ha O0,qT X st (tS X Ha O0 F)
def QX {X:Cx}{st:Stmt}{t t':TS}(h:PS X st t)(i:∀D σ H,t' D σ H->t D σ H):PS X st t':=λpins s σ H D I q=>h pins s σ H D I (i D σ H q)
def KU {X:Cx}{st:List Stmt}{t t':TS}(h:qT X st t)(i:∀D σ H,t' D σ H->t D σ H):qT X st t':=λpins s σ H D I q=>h pins s σ H D I (i D σ H q)
def CM {X:Cx}{st:Stmt}{t:TS}{F:Ev->R Out}{Ha:Hp}{O0:Addr->Prop}(h:PS X st t)(i:∀D σ H O ρ,EnvOk X.K Ha O0 H O σ ρ->R4 X.K O->RS X Ha O0 H O (F ρ) D->t D σ H):PS X st (tS X Ha O0 F):=QX h λD σ H ⟨O,ρ,E,f,q⟩=>i D σ H O ρ E f q
def WT {X:Cx}{st:List Stmt}{t:TS}{F:Ev->R Out}{Ha:Hp}{O0:Addr->Prop}(h:qT X st t)(i:∀D σ H O ρ,EnvOk X.K Ha O0 H O σ ρ->R4 X.K O->RS X Ha O0 H O (F ρ) D->t D σ H):qT X st (tS X Ha O0 F):=KU h λD σ H ⟨O,ρ,E,f,q⟩=>i D σ H O ρ E f q
def RS.grow {X:Cx}{Ha:Hp}{O0:Addr->Prop}{H H1:Hp}{O O1:Addr->Prop}{r:R Out}{D:Ends}(h:RS X Ha O0 H O r D)(k:Kp H O H1 O1):RS X Ha O0 H1 O1 r D:=by
 cases r with
 |ok o=>
  cases o with
  |nx ρ=>exactλai H' O' E f q=>h ai H' O' E f (k.trans q)
  |bk ρ=>exactλai H' O' E f q=>h ai H' O' E f (k.trans q)
  |ct ρ=>exactλai H' O' E f q=>h ai H' O' E f (k.trans q)
  |rt d=>exact h
 |ex e=>exact h
 |bad=>exact h
def B5 (r:R Out)(F:Ev->R Out):R Out:=match r with
 |.ok (.nx ρ)=>F ρ
 |r=>r
section
variable{st:Stmt} {rest:List Stmt}
def RS.seq {Ha:Hp}{O0:Addr->Prop}{H:Hp}{O:Addr->Prop}{r:R Out}{D:Ends}(h:RS X Ha O0 H O (B5 r G) D):RS X Ha O0 H O r {D with nx:=tS X Ha O0 G D}:=by
 cases r with
 |ok o=>
  cases o with
  |nx ρ=>exactλai H' O' E f k=>⟨O',ρ,E,f,(show RS X Ha O0 H O (G ρ) D from h).grow k⟩
  |bk ρ=>exact h
  |ct ρ=>exact h
  |rt d=>exact h
 |ex e=>exact h
 |bad=>exact h
def t5:U6 X [] (λρ=>.ok (.nx ρ)):=λHa O0=>WT LS λD σ H O ρ E f q=>q σ H O E f (Kp.refl _ _)
def c6 (h1:nJ X st F)(h2:U6 X rest G):U6 X (st::rest) (λρ=>B5 (F ρ) G):=λHa O0=>WT (HR (h1 Ha O0)<|h2 Ha O0) λD σ H O ρ E f q=>⟨O,ρ,E,f,RS.seq q⟩
def d5 (h1:nJ X st F):U6 X [st] F:=λHa O0=>zV (h1 Ha O0)
def i9 {e:Expr}{f:Ev->R D}(he:PD X e f):nJ X (.Return (some e) pos) (λρ=>(f ρ).bind λd=>.ok (.rt d)):=λHa O0=>CM (GL he) λD σ H O ρ E fk q=>⟨Ha,O0,O,ρ,E,by
 cases e1:f ρ with
 |ok d=>rw[e1]at q;exactλv H' s r=>q v H' (E.same.trans s) (r.sub E.sub)
 |ex x=>rw[e1]at q;exactλH' s=>q H' (E.same.trans s)
 |bad=>rw[e1]at q;exact q⟩
def j0 (i:Nat){x:Str}{e:Expr}{f:Ev->R D}{pos':Pos}(he:PD X e f)(hN:X.N.Nodup)(hi:X.N[i]?=some x:=by rfl)(hx:Loc X.env.scope x:=by first|exact aCt rfl|exact aBy rfl)
  (hs:swapsWith e (some (.Name x pos')) pos.line X.env=pure false:=by rfl) (hf:X.fn x=true\/X.env.scope.names.lookup x=some .local:=by first|exact .inl rfl|exact .inr rfl|assumption):
  nJ X (.Assign [.Name x pos'] e pos) (λρ=>(f ρ).bind λd=>.ok (.nx (ρ.set i (.v d)))):=λHa O0=>CM (EO hN hi hx he hs hf) λD σ H O ρ E fk q=>⟨Ha,O0,O,ρ,E,by
 cases e1:f ρ with
 |ok d=>rw[e1]at q;exactλv H' s r=>q _ H' O ((E.grow s).set i r) fk (Kp.of s)
 |ex x=>rw[e1]at q;exactλH' s=>q H' (E.same.trans s)
 |bad=>rw[e1]at q;exact q⟩
def D5 {c:Expr}{a b:List Stmt}{fc:Ev->R Bool}(hc:wC X c fc)(ha:U6 X a F)(hb:U6 X b G):nJ X (.If c a b pos) (λρ=>(fc ρ).bind λt=>if t=true then F ρ else G ρ):=λHa O0=>CM (XA hc (ha Ha O0)<|hb Ha O0) λD σ H O ρ E fk q=>⟨Ha,O0,O,ρ,E,by
 cases e1:fc ρ with
 |ok t=>
  rw[e1]at q;intro H' s;cases t with
  |true=>rw[if_pos rfl];exact⟨O,ρ,E.grow s,fk,RS.grow q (Kp.of s)⟩
  |false=>rw[if_neg aAL];exact⟨O,ρ,E.grow s,fk,RS.grow q (Kp.of s)⟩
 |ex x=>rw[e1]at q;exactλH' s=>q H' (E.same.trans s)
 |bad=>rw[e1]at q;exact q⟩
def SG (K:PySem.W.Frag)(J:It)(H:Hp)(O:Addr->Prop)(ds:List D):Prop:=∀H2 O2,Kp H O H2 O2->R4 K O2->(∀a,O a->∃o,H a=some o/\Mt o)->(∀a,O2 a->∃o,H2 a=some o/\Mt o)->∀i:Nat,
 (∀d,ds[i]?=some d->J.go i H2/\∀x H',J.yld i H2 x H'->Same H2 H'/\Rep K H' O2 x d)/\(ds[i]?=none->J.stop i H2)
def tI (X:Cx)(f:Ev->R (List D)):TI:=λσ H R=>∃Ha O0 O ρ,EnvOk X.K Ha O0 H O σ ρ/\R4 X.K O/\match f ρ with
 |.ok ds=>∀J H',Same H H'->SG X.K J H' O ds->R J H'
 |.ex e=>∀H',Same H H'->XW X e H'
 |.bad=>False
def UL (X:Cx)(tg C9:Expr)(f:Ev->R (List D)):Prop:=PI X tg C9 (tI X f)
def JL (h:PI X tg C9 t)(i:∀σ H R,t' σ H R->t σ H R):PI X tg C9 t':=λpins s σ H R I q=>h pins s σ H R I (i σ H R q)
def kD:D->R (List D)
 |.lst xs=>.ok xs
 |_=>.bad
def AR:D->R (List D)
 |.tup xs=>.ok xs
 |_=>.bad
def J8 (h:PD X C9 f):UL X tg C9 (λρ=>(f ρ).bind kD):=JL (OG h) λσ H R ⟨Ha,O0,O,ρ,E,fk,q⟩=>⟨Ha,O0,O,ρ,E,by
 dsimp only at q;cases e:f ρ with
 |ok d=>
  rw[e]at q;cases d with
  |lst xs=>
   intro v H' s r;cases r with
   |lst h n r=>
    rename_i a vs;refine⟨a,rfl,⟨vs,h⟩,q (cz X.K a) H' s ?_⟩;intro H2 O2 k hK hO hO2 i;obtain⟨n2,h2⟩:=k.lst n h λo q=>hK a o q;have r2:=k.ac6 hO hK r;refine⟨λd e=>?_,λe=>⟨vs,h2,by rw[r.length];exact aCb.mp e⟩⟩;obtain⟨v,h3,h4⟩:=r2.get e;exact⟨⟨vs,v,h2,h3⟩,λx H3 ⟨e1,e2⟩=>by subst e1;have:=e2 vs h2;rw[h3]at this;cases this;exact⟨Same.refl _,h4⟩⟩
  |_=>exact aAh q
 |ex x=>rw[e]at q;exact q
 |bad=>rw[e]at q;exact q⟩
def OB (h:PD X C9 f):UL X tg C9 (λρ=>(f ρ).bind AR):=JL (QI h) λσ H R ⟨Ha,O0,O,ρ,E,fk,q⟩=>⟨Ha,O0,O,ρ,E,by
 dsimp only at q;cases e:f ρ with
 |ok d=>
  rw[e]at q;cases d with
  |tup xs=>
   intro v H' s r;cases r with
   |tup h r=>
    rename_i a vs;refine⟨a,rfl,⟨vs,h⟩,q (ZA X.K a) H' s ?_⟩;intro H2 O2 k hK hO hO2 i;have h2:=k.tup hO h;have r2:=k.ac6 hO hK r;refine⟨λd e=>?_,λe=>⟨vs,h2,by rw[r.length];exact aCb.mp e⟩⟩;obtain⟨v,h3,h4⟩:=r2.get e;exact⟨⟨vs,v,h2,h3⟩,λx H3 ⟨e1,e2⟩=>by subst e1;have:=e2 vs h2;rw[h3]at this;cases this;exact⟨Same.refl _,h4⟩⟩
  |_=>exact aAh q
 |ex x=>rw[e]at q;exact q
 |bad=>rw[e]at q;exact q⟩
def QD (lo c:Int)(n:Nat):It:=⟨λi _=>i<n,λi H x H'=>H'=H/\x=.int (lo+i*c),λi _=>n<=i⟩
def uB {P:Program}{w:World}{K:PySem.W.Frag}{tg:Expr}(it:Addr)(lo c:Int)(n:Nat):Turn P w K tg (QD lo c n) [it] it (λi h=>IsRangeIter h it (lo+(i:Nat)*c) ((n:Int)-(i:Nat)) c)where
 mem:=by simp
 obj:=λi h st b hb=>by
  have e:b=it:=by simpa using hb
  subst e;exact⟨_,st,λv z=>by have z':Data.fields _=Data.cell v:=z;cases z'⟩
 keep:=λi h h' st k=>k it (by simp) _ st
 item:=by intro X hP hw hK hc i pins s σ H E I hf st hg;subst hP hw hK;obtain⟨f0,f1,f2,f3,f4,f5⟩:=hf it (by simp);have W:=Walks.range (prog:=X.prog) (w:=X.w) (I.ok.hd hc) it lo c n;refine W.item i s _ _ hg st λv h' tk hv st' kk=>?_;obtain⟨t,rfl⟩:=hv;have I1:Inv X pins σ H {s with heap:=h',toks:=tk}:=I.turned (λb o hb e=>kk b o (by simpa using hb) e) f0 f1 f3 f4 f5;exact⟨_,rfl,II (s:={s with heap:=h',toks:=tk}) (n:= "range_iterator") st' rfl rfl (by decide) ⟨.int (lo+i*c),H,I1,⟨t,rfl⟩,⟨rfl,rfl⟩,st',λb hb=>(hf b hb).1⟩⟩
 done:=by intro X hP hw hK hc i pins s σ H E I hf st hg;subst hP hw hK;obtain⟨f0,f1,f2,f3,f4,f5⟩:=hf it (by simp);exact wpAny_pyNext_range_end (I.ok.hd hc) st (by have:n<=i:=hg;lia) λh' eb=>⟨rfl,I.turned (t':=s.toks) (λb o hb e=>eb b o hb e) f0 f1 f3 f4 f5⟩
 self:=λ_ _ _ _ _ st h=>wpAny_pyIter_rangeiter st h
def xE (lo c:Int)(n:Nat):List D:=(aBb n).map λ(k:Nat)=>D.int (lo+(k:Int)*c)
def gM (K:PySem.W.Frag)(H:Hp)(O:Addr->Prop)(lo c:Int)(n:Nat):SG K (QD lo c n) H O (xE lo c n):=by
 intro H2 O2 k hK hO hO2 i;unfold xE;rw[aAN];by_cases hi:i<n
 ·rw[List.getElem?_range hi];refine⟨λd e=>?_,λe=>(by cases e)⟩;cases e;exact⟨hi,λx H' ⟨e1,e2⟩=>by subst e1 e2;exact⟨Same.refl _,.int⟩⟩
 ·rw[aCb.mpr (by simpa using hi)];exact⟨λd e=>(by cases e),λ_=>aDY hi⟩
def jS (a b c:Int):Nat:=if a<b then((b-a-1)/c+1).toNat else 0
def EC (hc:0<c):aCr a b c=(jS a b c:Int):=by
 unfold aCr jS;rw[if_pos (by lia)];split
 ·have:0<=(b-a-1)/c:=Int.ediv_nonneg (by lia) (by lia)
  lia
 ·rfl
def CP (hc:0<c)(kg:c<2^30)(ha:-(2^60)<=a)(ha':a<2^60)(hb:-(2^60)<=b)(ma:b<2^60):aFP a b c=true:=by
 unfold aFP;have e:aCr a b c=if a<b then(b-a-1)/c+1 else 0:=by unfold aCr;rw[if_pos (by lia)]
 rw[e];have h1:a<b->(b-a-1)/c<=b-a-1:=λh=>Int.ediv_le_self _ (by lia);have h2:a<b->0<=(b-a-1)/c:=λh=>Int.ediv_nonneg (by lia) (by lia);have h3:a<b->(b-a-1)/c*c<=b-a-1:=λh=>Int.ediv_mul_le _ (by lia);simp only[Builtin.Range.rangeFitsLong,aAF,Bool.or_eq_true,decide_eq_true_eq,beq_iff_eq,show c>0 by lia,if_true];split
 ·rename_i h;have h1:=h1 h;have h2:=h2 h;have h3:=h3 h;generalize(b-a-1)/c=q at*
  lia
 ·lia
def pC (a b c:Int):Prop:=0<c/\c<2^30/\-(2^60)<=a/\a<2^60/\-(2^60)<=b/\b<2^60
instance(a b c:Int):Decidable (pC a b c):=inferInstanceAs (Decidable<|_/\_)
def W9:List D->R (List D)
 |[.int b]=>if pC 0 b 1 then .ok (xE 0 1 (jS 0 b 1))else .bad
 |[.int a,.int b]=>if pC a b 1 then .ok (xE a 1 (jS a b 1))else .bad
 |[.int a,.int b,.int c]=>if pC a b c then .ok (xE a c (jS a b c))else .bad
 |_=>.bad
def iB {R:It->Hp->Prop}{E:C5}(I:Inv X pins σ H s)(h:pC a b c)(q:R (QD a c (jS a b c)) H):wpAny (model X.prog X.w) X.A (pyIter (.ref s.heap.objs.size)) (bq X pins σ tg R) E {s with heap:=s.heap.push {cls:=.type "range",data:=.fields #[.int a t,.int b u,.int c v]},toks:=tk}:=by
 obtain⟨h1,h2,h3,h4,h5,h6⟩:=h;refine wpAny_pyIter_range (IsRange.new ..) (CP h1 h2 h3 h4 h5 h6) ?_;have I1:Inv X pins σ H {s with heap:=s.heap.push {cls:=.type "range",data:=.fields #[.int a t,.int b u,.int c v]},toks:=tk}:=I.kept λb o e=>aAc _ e;refine⟨(s.heap.push {cls:=.type "range",data:=.fields #[.int a t,.int b u,.int c v]}).objs.size,[(s.heap.push {cls:=.type "range",data:=.fields #[.int a t,.int b u,.int c v]}).objs.size],_,_,H,rfl,
  I1.kept (t':=tk) λb o e=>aAc _ e,uB _ a c (jS a b c),?_,λbb hb=>?_,q⟩
 ·have e1:a+((0:Nat):Int)*c=a:=by simp
  have e2:((jS a b c:Nat):Int)-((0:Nat):Int)=aCr a b c:=by rw[EC h1];simp
  show IsRangeIter _ _ (a+((0:Nat):Int)*c) (((jS a b c:Nat):Int)-((0:Nat):Int)) c;rw[e1,e2];exact aAn _ rfl
 ·have e:bb=(s.heap.push {cls:=.type "range",data:=.fields #[.int a t,.int b u,.int c v]}).objs.size:=by simpa using hb
  subst e;exact I1.af4 (aAg _) (I1.hok.fresh<|aAg _)
def HM {R:It->Hp->Prop}{O:Addr->Prop}(I:Inv X pins σ H s)(r:Paired (A8 X.K H O) vs ds)(ru:m6 vs us)(h:W9 ds=.ok cb)(q:∀J,SG X.K J H O cb->R J H):wpAny (model X.prog X.w) X.A (call (.type "range") us) (λv s1=>wpAny (model X.prog X.w) X.A (pyIter v) (bq X pins σ tg R) X.xe s1) X.xe s:=by
 match ds,h with
 |[.int b],h=>
  obtain⟨v,rfl,z⟩:=EZ r;cases z.aa6;obtain⟨u,rfl,t,rfl⟩:=vals1 ru;simp only[W9]at h;split at h
  ·rename_i hk;cases h;exact call_range_1 (iB I hk<|q _<|gM _ _ _ _ _ _)
  ·cases h
 |[.int a,.int b],h=>
  obtain⟨v,v',rfl,z,z'⟩:=YQ r;cases z.aa6;cases z'.aa6;obtain⟨u,u',rfl,⟨t,rfl⟩,⟨t',rfl⟩⟩:=vals2 ru;simp only[W9]at h;split at h
  ·rename_i hk;cases h;exact call_range_2 (iB I hk<|q _<|gM _ _ _ _ _ _)
  ·cases h
 |[.int a,.int b,.int c],h=>
  cases r with
  |cons z1 r=>
   obtain⟨v,v',rfl,z,z'⟩:=YQ r;cases z1.aa6;cases z.aa6;cases z'.aa6;cases ru with
   |cons w1 ru=>
    obtain⟨u,u',rfl,⟨t,rfl⟩,⟨t',rfl⟩⟩:=vals2 ru;obtain⟨t1,rfl⟩:=w1;simp only[W9]at h;split at h
    ·rename_i hk;cases h;have mh:=hk;obtain⟨h1,h2,_⟩:=mh;exact call_range_3 (by lia) (iB (tk:=s.toks) I hk<|q _<|gM _ _ _ _ _ _) (.inl (PyProof.noPylong_small (by lia)))
    ·cases h
def Y1 {tg e:Expr}{es:List Expr}{p:Pos}{f:Ev->R (List D)}(ha:QH X (e::es) f)(hg:Gl X "range":=by rfl)(hm:X.mg "range"=none:=by assumption)
  (he:starEach (e::es) X.env=(false,eval e X.env)::starEach es X.env:=by rfl) (br:(backTo pos (starEach es X.env)).any (·.1)=false:=by rfl):
  UL X tg (.Call (.Name "range" p) (e::es) [] pos) (λρ=>(f ρ).bind W9):=by
 intro pins s σ H Q I ⟨Ha,O0,O,ρ,E,fk,q⟩;dsimp only at q;refine Call_ (P3 I hg hm boot_range<|aBc (C4 (ha pos pins s σ H (λvs H1=>∃ds cb,Same H H1/\Paired (A8 X.K H1 O) vs ds/\W9 ds=.ok cb/\∀J,SG X.K J H1 O cb->Q J H1) I ⟨Ha,O0,O,ρ,E,?_⟩) λus s1 ⟨vs,H1,I1,r1,ds,cb,sm,r,h1,h2⟩=>?_) he br)
 ·cases e1:f ρ with
  |ok ds=>
   rw[e1]at q;intro vs H1 s1 r1;rw[R.aa0]at q;cases e2:W9 ds with
   |ok cb=>rw[e2]at q;exact⟨ds,cb,s1,r1,e2,λJ hJ=>q J H1 s1 hJ⟩
   |ex x=>
    rw[e2]at q;match ds,e2 with
    |[.int b],e2=>simp only[W9]at e2;split at e2<;>cases e2
    |[.int a,.int b],e2=>simp only[W9]at e2;split at e2<;>cases e2
    |[.int a,.int b,.int c],e2=>simp only[W9]at e2;split at e2<;>cases e2
   |bad=>rw[e2]at q;exact q.elim
  |ex x=>rw[e1]at q;exact q
  |bad=>rw[e1]at q;exact q
 ·exact HM I1 r r1 h1 h2
def tG (X:Cx)(G:D->Ev->R Ev):TG:=λv σ H Q=>∃Ha O0 O ρ d av,EnvOk X.K Ha O0 H O σ ρ/\Rep X.K H O v d/\G d ρ=.ok av/\∀ai H',Same H H'->EnvOk X.K Ha O0 H' O ai av->Q ai H'
def KP (X:Cx)(tg:Expr)(G:D->Ev->R Ev):Prop:=PG X tg (tG X G)
def UB (h:PG X tg t)(i:∀v σ H Q,t' v σ H Q->t v σ H Q):PG X tg t':=λpins s σ H v u Q I r q=>h pins s σ H v u Q I r (i v σ H Q q)
def y6 (i:Nat)(hN:X.N.Nodup)(hi:X.N[i]?=some x:=by rfl)(hx:Loc X.env.scope x:=by first|exact aCt rfl|exact aBy rfl)(hf:X.fn x=true\/X.env.scope.names.lookup x=some .local:=by first|exact .inl rfl|exact .inr rfl|assumption):
  KP X (.Name x pos) (λd ρ=>.ok (ρ.set i (.v d))):=UB (LN hN hi hx hf) λv σ H Q ⟨Ha,O0,O,ρ,d,av,E,r,e,q⟩=>by
 cases e;exact q _ H (Same.refl _) (E.set i r)
def vk (X:Cx)(G:List D->Ev->R Ev):SX:=λvs σ H Q=>∃Ha O0 O ρ ds av,EnvOk X.K Ha O0 H O σ ρ/\Reps X.K H O vs ds/\G ds ρ=.ok av/\∀ai H',Same H H'->EnvOk X.K Ha O0 H' O ai av->Q ai H'
def NP (X:Cx)(tgs:List Expr)(G:List D->Ev->R Ev):Prop:=UN X tgs (vk X G)
def AM {tg:List Expr}{t t':SX}(h:UN X tg t)(i:∀v σ H Q,t' v σ H Q->t v σ H Q):UN X tg t':=λpins s σ H v u Q I r q=>h pins s σ H v u Q I r (i v σ H Q q)
def HG:List D->Ev->R Ev
 |[],ρ=>.ok ρ
 |_,_=>.bad
def lV (G:D->Ev->R Ev)(Gs:List D->Ev->R Ev):List D->Ev->R Ev
 |d::ds,ρ=>(G d ρ).bind λav=>Gs ds av
 |_,_=>.bad
def sK:NP X [] HG:=AM LD λvs σ H Q ⟨Ha,O0,O,ρ,ds,av,E,r,e,q⟩=>by
 cases r with
 |nil=>cases e;exact⟨rfl,q σ H (Same.refl _) E⟩
 |cons _ _=>cases e
def X4 {e:Expr}{es:List Expr}{G:D->Ev->R Ev}{Gs:List D->Ev->R Ev}(h1:KP X e G)(h2:NP X es Gs)
  (hs:(assignEach (e::es) X.env).map (·.2)=assign e X.env::(assignEach es X.env).map (·.2):=by rfl):NP X (e::es) (lV G Gs):=AM (JZ h1 h2 hs) λvs σ H Q ⟨Ha,O0,O,ρ,ds,av,E,r,e,q⟩=>by
 cases r with
 |nil=>cases e
 |@cons v d vs ds r rr=>
  simp only[lV]at e;cases e1:G d ρ with
  |ok ρ1=>rw[e1]at e;exact⟨v,vs,rfl,Ha,O0,O,ρ,d,ρ1,E,r,e1,λσ1 H1 s1 E1=>⟨Ha,O0,O,ρ1,ds,av,E1,rr.same s1,e,λvm H2 s2 E2=>q vm H2 (s1.trans s2) E2⟩⟩
  |ex x=>rw[e1]at e;cases e
  |bad=>rw[e1]at e;cases e
def uI (n:Nat)(Gs:List D->Ev->R Ev):D->Ev->R Ev
 |.tup ds,ρ=>if ds.length=n then Gs ds ρ else .bad
 |.lst ds,ρ=>if ds.length=n then Gs ds ρ else .bad
 |_,_=>.bad
end
section
theorem pB (bf:t≠it):∀(n i:Nat) (s:Shared) (Q:List Value->Shared->Prop),s.heap.IsListIter it t i->s.heap.IsList t items->i+n<=items.size->
  (∀h',h'.IsListIter it t (i+n)->Heap.SameBut it s.heap h'->Q ((items.toList.drop i).take n) {s with heap:=h'})->wpAny (model prog w) A (draw (.ref it) n) Q E s
 |0,i,s,Q,hit,_,_,hQ=>by show wpAny _ _ (pure []) Q E s;exact aAb (by simpa using hQ s.heap hit (aGg ..))
 |n+1,i,s,Q,hit,ht,hle,hQ=>by
  have ar:i<items.size:=by omega
  show wpAny _ _ (pyNext (.ref it)>>=_) Q E s;refine aAa (wpAny_pyNext_list_item hit ht (x:=items[i]) (by simp[ar]) λh₁ hit0 je=>?_);refine aAa (aAJ (pB bf n (i+1) _ _ hit0 (ht.extBut je.extBut bf) (by omega) λjf hit1 mi=>aAb ?_));have hd:items.toList.drop i=items[i]::items.toList.drop (i+1):=by simp[aDo,ar]
  have:=hQ jf (by rw[show i+(n+1)=i+1+n by omega];exact hit1) (je.trans mi);rw[hd,List.take_succ_cons]at this;exact this
def iP {Q:List Value->Shared->Prop}(hh:A.handled=none)(ht:s.heap.IsList t items)(hQ:∀h',Heap.ExtBut s.heap.objs.size s.heap h'->Q items.toList {s with heap:=h'}):wpAny (model prog w) A (unpackItems (.ref t) items.size none) Q E s:=by
 have ar:t≠s.heap.objs.size:=by obtain⟨o,ho,_⟩:=ht;exact aAi (aAf ho)
 unfold unpackItems;refine aAa ?_
 ·unfold notIterableAtAll;refine aAa (aBl ht.typeIs slot_list_iter.lookup ?_);refine aAb ?_;simp only[aAq,if_false];refine aAa (aAJ<|aDh ht ?_);have ht0:(s.heap.push {cls:=.type "list_iterator",data:=.fields #[.ref t,.int 0 0]}).IsList t items:=by obtain⟨o,ho,r⟩:=ht;exact⟨o,aAc _ ho,r⟩
  refine aAa (aAJ (pB ar items.size 0 _ _ ⟨_,aAn _ rfl,rfl,rfl⟩ ht0 (by omega) λh₁ hit0 je=>?_));have ql:List.take items.size (List.drop 0 items.toList)=items.toList:=by rw[aFM];exact aDK (by simp)
  rw[ql];rw[if_neg (by simp)];have ht3:h₁.IsList t items:=ht0.extBut je.extBut ar;refine aAa (aAJ (wpAny_pyNext_list_end hh hit0 ht3 (by simp) λjf he3=>?_));simp only[Option.isSome_none,aAq,if_false];refine aAb (hQ jf λb o hb e=>he3 b o hb (je.extBut b o hb<|aAc _ e))
def gB {x1}{Q:Unit->Shared->Prop}(hh:A.handled=none)(ht:s.heap.IsList t items)(hn:(assignEach elts env).length=items.size)(hstar:(assignEach elts env).findIdx? (·.1)=none)(h:∀h',Heap.ExtBut s.heap.objs.size s.heap h'->wpAny (model prog w) A (assignInOrder ((assignEach elts env).map (·.2)) items.toList) Q E {s with heap:=h'}):
  wpAny (model prog w) A (assign (.Tuple elts x1 pos) env (.ref t)) Q E s:=by
 rw[assign_Tuple];refine aAa (aEX ?_);unfold unpack;rw[hn,hstar];exact aAa (aAJ<|iP hh ht h)
end
section
def zR (hc:X.calm=true)(h:NP X es Gs)(hn:(assignEach es X.env).length=n:=by rfl)(jr:(assignEach es X.env).findIdx? (·.1)=none:=by rfl):KP X (.Tuple es k pos) (uI n Gs):=by
 intro pins s σ H v u Q I r ⟨Ha,O0,O,ρ,d,av,E,rd,e,q⟩;cases rd with
 |@tup a vs ds hq rs=>
  cases r;simp only[uI]at e;split at e
  ·rename_i hl;obtain⟨its,rv,ht,hz⟩:=I.tuple hq;refine assign_Tuple_tuple (I.ok.hd hc) ht (by simp[hn,<-hl,<-rs.length,rv.length]) jr λh' hx=>?_;have I1:Inv X pins σ H {s with heap:=h'}:=I.kept (t':=s.toks) λb o e=>hx b o (aAi<|aAf e) e;exact h pins _ σ H vs _ Q I1 (by simpa using rv) ⟨Ha,O0,O,ρ,ds,av,E,rs,e,q⟩
  ·cases e
 |@lst a vs ds hq _ rs=>
  cases r;simp only[uI]at e;split at e
  ·rename_i hl;obtain⟨its,rv,ht,hz⟩:=I.list hq;refine gB (I.ok.hd hc) ht.isList (by simp[hn,<-hl,<-rs.length,rv.length]) jr λh' hx=>?_;have I1:Inv X pins σ H {s with heap:=h'}:=I.kept (t':=s.toks) λb o e=>hx b o (aAi<|aAf e) e;exact h pins _ σ H vs _ Q I1 (by simpa using rv) ⟨Ha,O0,O,ρ,ds,av,E,rs,e,q⟩
  ·cases e
 |_=>cases e
def SM (f:Ev->R D)(G:D->Ev->R Ev):Ev->R Out:=λρ=>(f ρ).bind λd=>match G d ρ with
 |.ok av=>.ok (.nx av)
 |_=>.bad
def LI (he:PD X e f)(hg:KP X tg G)(hs:swapsWithSole [tg] e pos.line X.env=pure false:=by rfl)(hw:swappedStores [tg] e X.env=pure none:=by rfl)(h1:(assignEach [tg] X.env).map (·.2)=[assign tg X.env]:=by rfl):nJ X (.Assign [tg] e pos) (SM f G):=λHa O0=>CM (HE he hg hs hw h1) λD σ H O ρ E fk q=>⟨Ha,O0,O,ρ,E,by
 unfold SM at q;cases e1:f ρ with
 |ok d=>
  rw[e1,R.aa0]at q;intro v H' s r;cases e2:G d ρ with
  |ok av=>rw[e2]at q;exact⟨Ha,O0,O,ρ,d,av,E.grow s,r,e2,λai H2 s2 E2=>q ai H2 O E2 fk (Kp.of<|s.trans s2)⟩
  |ex x=>rw[e2]at q;exact aAh q
  |bad=>rw[e2]at q;exact aAh q
 |ex x=>rw[e1]at q;exactλH' s=>q H' (E.same.trans s)
 |bad=>rw[e1]at q;exact q⟩
def O8 (G:D->Ev->R Ev)(F:Ev->R Out):List D->Ev->R Out
 |[],ρ=>.ok (.nx ρ)
 |d::ds,ρ=>match G d ρ with
  |.ok ρ1=>match F ρ1 with
   |.ok (.nx ρ2)=>O8 G F ds ρ2
   |.ok (.ct ρ2)=>O8 G F ds ρ2
   |.ok (.bk ρ2)=>.ok (.nx ρ2)
   |r=>r
  |_=>.bad
def R0 (hp:PassesOwn (model X.prog X.w) X.A X.env X.xe)(hc:X.calm=true)(hi:UL X tg C9 f)(hg:KP X tg G)(hb:U6 X body F)(hs:∀x,foldedSetIterable C9 X.env x=pure x:=by intro _;rfl):nJ X (.For tg C9 body [] pos) (λρ=>(f ρ).bind λds=>O8 G F ds ρ):=λHa O0=>CM (SC hp hc hi hg (hb Ha O0) hs) λD σ H O ρ E fk q=>⟨Ha,O0,O,ρ,E,fk,by
 cases e1:f ρ with
 |ex x=>rw[e1]at q;exactλH' s=>q H' (E.same.trans s)
 |bad=>rw[e1]at q;exact q
 |ok ds=>
  rw[e1,R.aa0]at q;intro J H1 s1 hJ;refine⟨λi m ai H'=>m=ds.length-i/\i<=ds.length/\∃O' av,EnvOk X.K Ha O0 H' O' ai av/\R4 X.K O'/\Kp H1 O H' O'/\RS X Ha O0 H' O' (O8 G F (ds.drop i) av) D,⟨ds.length,by simp,aAW _,O,ρ,E.grow s1,fk,Kp.refl _ _,?_⟩,?_⟩
  ·rw[aFM];exact q.grow (Kp.of s1)
  ·rintro i m ai H' ⟨rfl,hi,O',av,E',fk',k',q'⟩;have hit:=hJ H' O' k' fk' (E.grow s1).trk E'.trk i;by_cases ar:i<ds.length
   ·obtain⟨go,yl⟩:=hit.1 ds[i] (aAk ar);refine .inr ⟨go,λvm H2=>∃O2 ρ2,EnvOk X.K Ha O0 H2 O2 vm ρ2/\R4 X.K O2/\Kp H1 O H2 O2/\RS X Ha O0 H2 O2 (O8 G F (ds.drop<|i+1) ρ2) D,λvm H2 p=>⟨ds.length-(i+1),by omega,rfl,ar,p⟩,λx H2 y=>?_⟩;obtain⟨s2,r2⟩:=yl x H2 y;rw[aDo ar,O8]at q';cases e2:G ds[i] av with
    |ex x=>rw[e2]at q';exact(show False from q').elim
    |bad=>rw[e2]at q';exact(show False from q').elim
    |ok ρ1=>
     rw[e2]at q';dsimp only at q';refine⟨Ha,O0,O',av,ds[i],ρ1,E'.grow s2,r2,e2,λqi H3 s3 E3=>⟨O',ρ1,E3,fk',?_⟩⟩;have kk:Kp H' O' H3 O':=Kp.of (s2.trans s3);cases e3:F ρ1 with
     |ex x=>rw[e3]at q';exact q'
     |bad=>rw[e3]at q';exact q'
     |ok o=>
      rw[e3]at q';cases o with
      |nx ρ2=>exactλσ4 H4 O4 E4 f4 k4=>⟨O4,ρ2,E4,f4,k'.trans (kk.trans k4),RS.grow q' (kk.trans k4)⟩
      |ct ρ2=>exactλσ4 H4 O4 E4 f4 k4=>⟨O4,ρ2,E4,f4,k'.trans (kk.trans k4),RS.grow q' (kk.trans k4)⟩
      |bk ρ2=>exactλσ4 H4 O4 E4 f4 k4=>q' σ4 H4 O4 E4 f4 (kk.trans k4)
      |rt d=>exact q'
   ·have e:i=ds.length:=by omega
    subst e;rw[List.drop_length,O8]at q';exact .inl ⟨hit.2 (by simp),q' ai H' O' E' fk' (Kp.refl _ _)⟩⟩
def P6 (c:Ev->R Bool)(F:Ev->R Out):Nat->Ev->R Out
 |0,_=>.bad
 |n+1,ρ=>(c ρ).bind λb=>if b=true then(match F ρ with
  |.ok (.nx ρ2)=>P6 c F n ρ2
  |.ok (.ct ρ2)=>P6 c F n ρ2
  |.ok (.bk ρ2)=>.ok (.nx ρ2)
  |r=>r)else .ok (.nx ρ)
def gN (n:Ev->Nat)(hp:PassesOwn (model X.prog X.w) X.A X.env X.xe)(hc:wC X c fc)(hb:U6 X body F):nJ X (.While c body [] pos) (λρ=>P6 fc F (n ρ) ρ):=λHa O0=>CM (FQ hp hc<|hb Ha O0) λD σ H O ρ E fk q=>by
 refine⟨λm ai H'=>∃O' av,EnvOk X.K Ha O0 H' O' ai av/\R4 X.K O'/\RS X Ha O0 H' O' (P6 fc F m av) D,⟨n ρ,O,ρ,E,fk,q⟩,?_⟩;rintro m ai H' ⟨O',av,E',fk',q'⟩;cases m with
 |zero=>exact(show False from q').elim
 |succ m=>
  rw[P6]at q';refine⟨Ha,O0,O',av,E',?_⟩;cases e1:fc av with
  |ex x=>rw[e1]at q';exactλH2 s2=>q' H2 (E'.same.trans s2)
  |bad=>rw[e1]at q';exact q'
  |ok b=>
   rw[e1,R.aa0]at q';intro H2 s2;cases b with
   |false=>rw[if_neg aAL]at q'⊢;exact q' ai H2 O' (E'.grow s2) fk' (Kp.of s2)
   |true=>
    rw[if_pos rfl]at q'⊢;refine⟨λqi H3=>∃O3 ρ3,EnvOk X.K Ha O0 H3 O3 qi ρ3/\R4 X.K O3/\RS X Ha O0 H3 O3 (P6 fc F m ρ3) D,λqi H3 p=>⟨m,aDt m,p⟩,O',av,E'.grow s2,fk',?_⟩;have kk:Kp H' O' H2 O':=Kp.of s2;cases e3:F av with
    |ex x=>rw[e3]at q';exact q'
    |bad=>rw[e3]at q';exact q'
    |ok o=>
     rw[e3]at q';cases o with
     |nx ρ2=>exactλσ4 H4 O4 E4 f4 k4=>⟨O4,ρ2,E4,f4,RS.grow q' (kk.trans k4)⟩
     |ct ρ2=>exactλσ4 H4 O4 E4 f4 k4=>⟨O4,ρ2,E4,f4,RS.grow q' (kk.trans k4)⟩
     |bk ρ2=>exactλσ4 H4 O4 E4 f4 k4=>q' σ4 H4 O4 E4 f4 (kk.trans k4)
     |rt d=>exact q'
end
def UI (K:PySem.W.Frag)(n:Nat)(m:List D->R D):Sp:=λvs H Q _=>∃O ds d,Reps K H O vs ds/\ds.length=n/\(∀a,O a->∃o,H a=some o/\Mt o)/\Tb H/\R4 K O/\m ds=.ok d/\∀v H',Same H H'->Rep K H' O v d->Q v H'
def i6 (N:List Str)(ds:List D):Ev:=ds.map Sl.v++aAD (N.length-ds.length) Sl.no
def N4:R Out->R D
 |.ok (.rt d)=>.ok d
 |.ok (.nx _)=>.ok .non
 |.ex e=>.ex e
 |_=>.bad
def iC {K:PySem.W.Frag}{H:Hp}{O:Addr->Prop}{N:List Str}{vs:List V}{ds:List D}(r:Reps K H O vs ds)(t:∀a,O a->∃o,H a=some o/\Mt o)(tb:Tb H):EnvOk K H O H O (start N vs) (i6 N ds)where
 len:=by simp[L2.start,i6,r.length]
 same:=Same.refl H
 sub:=λ_ h=>h
 trk:=t
 trk0:=λa h=>let⟨o,q,_⟩:=t a h;⟨o,q⟩
 tab:=tb
 slot:=λi sl h=>by
  unfold i6 at h;unfold L2.start;by_cases hi:i<ds.length
  ·rw[aAP (by simpa using hi),aAN]at h;cases e:ds[i]? with
   |none=>rw[e]at h;cases h
   |some d'=>rw[e]at h;have h':Sl.v d'=sl:=aAj h;subst h';obtain⟨v,h1,h2⟩:=r.get e;exact⟨v,by rw[aAP (by rw[aAl,r.length];exact hi),aAN,h1];rfl,h2⟩
  ·rw[aAu (by simpa using hi),aBg]at h;split at h
   ·cases h;trivial
   ·cases h
 inj:=λi j x y a h _ o=>by
  unfold i6 at h;by_cases hi:i<ds.length
  ·rw[aAP (by simpa using hi),aAN]at h;cases e:ds[i]? with
   |none=>rw[e]at h;cases h
   |some d'=>rw[e]at h;have h':Sl.v d'=x:=aAj h;subst h';exact o.elim
  ·rw[aAu (by simpa using hi),aBg]at h;split at h
   ·cases h;exact o.elim
   ·cases h
section
variable{K:PySem.W.Frag}
abbrev MI (P:Program)(w:World)(K:PySem.W.Frag)(mg:V5)(base:Heap)(N:List Str)(qual:Str)(sc:Scope)(f:Addr)(cdv:Value)(A:Around)(outer:List Env)(s:Shared)(H:Hp)(E:XK):Cx:=(qV rG P w K mg base N qual sc f cdv A outer s H E).nox
def my {x qual:Str}{st:Stmt}{f:Addr}{fd:FuncData}{N ps:List Str}{k:Nat}{m:List D->R D}{F:Ev->R Out}(F0:Fun K x qual st f fd)(S:FnScope N ps (c5 st))
  (hb:∀(cdv:Value) (A:Around) (outer:List Env) (s:Shared) (H:Hp) (E:XK),Room k (A.deeper (envOfC qual (c5 st) s.heap.objs.size f cdv))->U6 (MI P w K mg base N qual (c5 st) f cdv A outer s H E) (o6 st) F)
  (hm:∀ds d,ds.length=ps.length->m ds=.ok d->N4 (F (i6 N ds))=.ok d):FnOk P w K mg base rG (k+1) f fd ps (UI K ps.length m):=by
 refine F0.ok S (λvs H Q E ⟨O,ds,d,r,hl,_⟩=>by rw[r.length];exact hl) (λcdv A outer s H vs Q E hr ⟨O,ds,d,r,hl,ht,tb,fk,e,q⟩=>?_);refine⟨_,hb cdv A outer s H E hr H O,O,_,iC r ht tb,fk,?_⟩;have h:=hm ds d hl e;cases e1:F (i6 N ds)with
 |ok o=>
  rw[e1]at h;cases o with
  |rt d'=>have h':R.ok d'=R.ok d:=h;injection h' with h';subst h';exact q
  |nx ρ=>have h':R.ok D.non=R.ok d:=h;injection h' with h';subst h';exactλai H' O' E' _ _=>q .non H' E'.same .non
  |bk ρ=>cases h
  |ct ρ=>cases h
 |ex x=>rw[e1]at h;cases h
 |bad=>rw[e1]at h;cases h
end
section
def pU (I:Inv X pins σ H s)(O:Addr->Prop)(t:∀a,O a->∃o,H a=some o/\Mt o):R4 X.K O:=λa o hk z=>by obtain⟨u,h,_⟩:=t a z;have:=(I.bs a o<|I.ok.mod.kin a o hk).2;rw[h]at this;cases this
def LK (F:FnOk X.prog X.w X.K X.mg X.base rG k g gd ps (UI X.K n m))(hr:Room k X.A)(hm:X.mg x=some (.ref g))(hk:PySem.W.keepIn X.K (.ref g)=true)(hb:Binds X.K gd ps [])(ha:xU X (e::es) f)(hl:∀ρ ds,f ρ=.ok ds->ds.length=n)(hg:Gl X x:=by rfl)(dh:(x==("__debug__":Str))=false:=by decide)(he:starEach (e::es) X.env=(false,eval e X.env)::starEach es X.env:=by rfl)(br:(backTo pos (starEach es X.env)).any (·.1)=false:=by rfl):
  PD X (.Call (.Name x p) (e::es) [] pos) (λρ=>(f ρ).bind m):=by
 refine sF λpins s σ H Q I Ha O0 O ρ E q=>?_;refine zJ F hr hg hm hk hb .nil VH ha dh he br pins s σ H Q I ⟨Ha,O0,O,ρ,E,?_⟩;dsimp only at q;cases e1:f ρ with
 |ex z=>rw[e1]at q;exact q
 |bad=>rw[e1]at q;exact q
 |ok ds=>
  rw[e1,R.aa0]at q;intro vs H1 s1 r1;rw[aBr];have E1:=E.grow s1;cases e2:m ds with
  |ex z=>rw[e2]at q;exact(q H<|Same.refl _).elim
  |bad=>rw[e2]at q;exact q.elim
  |ok d=>rw[e2]at q;refine⟨O,ds,d,r1,hl ρ ds e1,E1.trk,E1.tab,?_,e2,λv H' s2 r2=>q v H' (s1.trans s2) r2⟩;exact pU I O E.trk
end
def EK (env:Env):List (Str×NameKind)->List (Str×Addr)->List (Str×Addr)
 |[],acc=>acc
 |(n,k)::r,acc=>EK env r (if k=.free then(n,(env.cells.lookup n).getD 0)::acc else acc)
def cQ (h:∀y∈scope.names,y.2=.free->∃c,env.cells.lookup y.1=some c):closureFor scope env=pure (EK env scope.names []):=by
 have go:∀(names:List (Str×NameKind)) (acc:List (Str×Addr)),(∀y∈names,y.2=.free->∃c,env.cells.lookup y.1=some c)->
   (forIn names acc λ(x:Str×NameKind) (r:List (Str×Addr))=>(match x with
    |(name,kind)=>if(kind==NameKind.free)=true then(do let a<-cellOf env name;pure (aCg ((name,a)::r)))else pure (aCg r):Sem (ForInStep<|List<|Str×Addr)))=pure (EK env names acc):=by
  intro names;induction names with
  |nil=>intro acc _;rfl
  |cons y r ih=>
   intro acc hy;obtain⟨n,k⟩:=y;rw[aCM];by_cases hk:k=.free
   ·subst hk;obtain⟨c,hc⟩:=hy (n,.free) aAX rfl;have e:cellOf env n=pure c:=by unfold cellOf;rw[hc]
    simp only[beq_self_eq_true,if_true,e,pure_bind];rw[ih _ λz hz=>hy z (aAd _ hz)];simp[EK,hc]
   ·have hb:(k==NameKind.free)=false:=by simpa using hk
    simp only[hb,aAq,if_false,pure_bind];rw[ih _ λz hz=>hy z (aAd _ hz)];simp[EK,hk]
 have e:=go scope.names [] h;show((forIn scope.names ([]:List (Str×Addr)) λ(x:Str×NameKind) (r:List (Str×Addr))=>(match x with
    |(name,kind)=>if(kind==NameKind.free)=true then(do let a<-cellOf env name;pure (aCg ((name,a)::r)))else pure (aCg r):Sem (ForInStep<|List<|Str×Addr)))>>=λs=>pure s)=_
 rw[e];rfl
theorem tQ:∀(names:List (Str×NameKind)) (acc:List (Str×Addr)) {x:Str} {c:Addr},(∀y∈names,y.2=.free->∃c,env.cells.lookup y.1=some c)->(∀x c,acc.lookup x=some c->env.cells.lookup x=some c)->
  (EK env names acc).lookup x=some c->env.cells.lookup x=some c
 |[],acc,x,c,_,ha,h=>ha x c h
 |(n,k)::r,acc,x,c,hy,ha,h=>by
  refine tQ r _ (λy hm=>hy y (aAd _ hm)) (λx' c' h'=>?_) h;by_cases hk:k=.free
  ·rw[if_pos hk]at h';obtain⟨c0,hc⟩:=hy (n,k) aAX hk;by_cases hx:x'=n
   ·subst hx;rw[aBs]at h';rw[hc]at h';rw[hc];exact h'
   ·rw[aAT,beq_eq_false_iff_ne.mpr hx]at h';exact ha x' c' h'
  ·rw[if_neg hk]at h';exact ha x' c' h'
theorem pT:∀(names:List (Str×NameKind)) (acc:List (Str×Addr)) {x:Str},((x,NameKind.free)∈names\/∃c,acc.lookup x=some c)->∃c,(EK env names acc).lookup x=some c
 |[],acc,x,h=>by
  rcases h with h|h
  ·cases h
  ·exact h
 |(n,k)::r,acc,x,h=>by
  refine pT r _ ?_;rcases h with h|⟨c,h⟩
  ·rcases aAe.mp h with e|h
   ·cases e;right;rw[if_pos rfl,aBs];exact⟨_,rfl⟩
   ·exact .inl h
  ·right;by_cases hk:k=.free
   ·rw[if_pos hk,aAT];cases(x==n)with
    |true=>exact⟨_,rfl⟩
    |false=>exact⟨c,h⟩
   ·rw[if_neg hk];exact⟨c,h⟩
theorem eJ {env:Env}:∀{names:List (Str×NameKind)} {x:Str},
  ((names.map λ(n,k)=>if(k==NameKind.free&&env.scope.kind==.function&&env.kindOf n==some .cell)then(n,aBP)else(n,k)).lookup x=some .cell\/
   (names.map λ(n,k)=>if(k==NameKind.free&&env.scope.kind==.function&&env.kindOf n==some .cell)then(n,aBP)else(n,k)).lookup x=some .free)->(x,NameKind.free)∈names\/names.lookup x=some .cell
 |[],_,h=>by rcases h with h|h<;>cases h
 |(n,k)::r,x,h=>by
  have ih:=@eJ env r x;rw[aAs]at h;dsimp only at h;by_cases hx:x=n
  ·subst hx;by_cases hk:(k==NameKind.free&&env.scope.kind==.function&&env.kindOf x==some .cell)=true
   ·have kf:k=.free:=by rw[aAF,aAF]at hk;simpa using hk.1.1
    subst kf;exact .inl aAX
   ·rw[if_neg hk,aBs]at h;rcases h with h|h
    ·right;rw[aBs];exact h
    ·have:k=.free:=aAj h;subst this;exact .inl aAX
  ·have h':(r.map λ(n,k)=>if(k==NameKind.free&&env.scope.kind==.function&&env.kindOf n==some .cell)then(n,aBP)else(n,k)).lookup x=some .cell\/
     (r.map λ(n,k)=>if(k==NameKind.free&&env.scope.kind==.function&&env.kindOf n==some .cell)then(n,aBP)else(n,k)).lookup x=some .free:=by
    by_cases hk:(k==NameKind.free&&env.scope.kind==.function&&env.kindOf n==some .cell)=true
    ·rw[if_pos hk,aAT,beq_eq_false_iff_ne.mpr hx]at h;exact h
    ·rw[if_neg hk,aAT,beq_eq_false_iff_ne.mpr hx]at h;exact h
   rcases ih h' with h|h
   ·exact .inl (aAd _ h)
   ·right;rw[aAT,beq_eq_false_iff_ne.mpr hx];exact h
theorem mG:∀(names:List (Str×NameKind)) (h:Heap) (acc:List (Str×Addr)) {x:Str} {c:Addr},(cellsFrom h.objs.size names acc).lookup x=some c->acc.lookup x=some c\/((pushCells h names).IsCell c none/\h.objs.size<=c)
 |[],h,acc,x,c,e=>.inl e
 |(n,k)::r,h,acc,x,c,e=>by
  unfold cellsFrom at e;unfold pushCells;split at e
  ·rename_i hk;rw[if_pos hk];rcases mG r (h.push {cls:=.type "cell",data:=.cell none}) ((n,h.objs.size)::acc) (x:=x) (c:=c) (by rw[aBn];exact e)with h1|⟨h1,h2⟩
   ·rw[aAT]at h1;cases hx:(x==n)with
    |true=>rw[hx]at h1;have e':h.objs.size=c:=aAj h1;subst e';exact .inr ⟨⟨_,aEk _ _ _ _ (aAn _ rfl),rfl⟩,aAg _⟩
    |false=>rw[hx]at h1;exact .inl h1
   ·exact .inr ⟨h1,by rw[aBn]at h2;exact aCv h2⟩
  ·rename_i hk;rw[if_neg hk];exact mG r h acc e
theorem iI:∀(names:List (Str×NameKind)) (n:Nat) (acc:List (Str×Addr)) {x:Str} {c:Addr},(cellsFrom n names acc).lookup x=some c->acc.lookup x=some c\/n<=c
 |[],n,acc,x,c,e=>.inl e
 |(m,k)::r,n,acc,x,c,e=>by
  unfold cellsFrom at e;split at e
  ·rcases iI r (n+1) _ e with h1|h1
   ·rw[aAT]at h1;cases hx:(x==m)with
    |true=>rw[hx]at h1;exact .inr (aDU (aAj h1))
    |false=>rw[hx]at h1;exact .inl h1
   ·exact .inr (aCv h1)
  ·exact iI r n acc e
theorem mR:∀(names:List (Str×NameKind)) (n:Nat) (acc:List (Str×Addr)) {x:Str} {c:Addr},(x,aBP)∈names->(cellsFrom n names acc).lookup x=some c->n<=c
 |[],n,acc,x,c,hm,e=>nomatch hm
 |(m,k)::r,n,acc,x,c,hm,e=>by
  unfold cellsFrom at e;rcases aAe.mp hm with hm|hm
  ·cases hm;rw[if_pos (show(aBP==aBP)=true from rfl)]at e;rcases iI r (n+1) _ e with h1|h1
   ·rw[aBs]at h1;exact aDU (aAj h1)
   ·exact aCv h1
  ·split at e
   ·exact aCv (mR r (n+1) _ hm e)
   ·exact mR r n acc hm e
theorem lS:∀(names:List (Str×NameKind)) (n:Nat) (acc:List (Str×Addr)) {x:Str},(x,aBP)∉names->(cellsFrom n names acc).lookup x=acc.lookup x
 |[],n,acc,x,_=>rfl
 |(m,k)::r,n,acc,x,hm=>by
  unfold cellsFrom;split
  ·rename_i hk;rw[lS r (n+1) _ λz=>hm (aAd _ z),aAT];cases hx:(x==m)with
   |true=>
    have e1:x=m:=by simpa using hx
    have e2:k=.cell:=by simpa using hk
    exact absurd (by rw[e1,e2];exact aAX) hm
   |false=>rfl
  ·exact lS r n acc λz=>hm (aAd _ z)
theorem gG:∀(names:List (Str×NameKind)) (n:Nat) (acc:List (Str×Addr)),(∀x c,acc.lookup x=some c->c<n)->(∀x y c,acc.lookup x=some c->acc.lookup y=some c->x=y)->
  ∀x y c,(cellsFrom n names acc).lookup x=some c->(cellsFrom n names acc).lookup y=some c->x=y
 |[],n,acc,_,h=>h
 |(m,k)::r,n,acc,hl,h=>by
  unfold cellsFrom;split
  ·refine gG r (n+1) _ (λx c e=>?_) λx y c e1 e2=>?_
   ·rw[aAT]at e;cases hx:(x==m)with
    |true=>rw[hx]at e;rw[<-aAj e];exact aDt _
    |false=>rw[hx]at e;exact aBo (hl x c e)
   ·rw[aAT]at e1 e2;cases hx:(x==m)with
    |true=>
     rw[hx]at e1;cases hy:(y==m)with
     |true=>rw[show x=m by simpa using hx,show y=m by simpa using hy]
     |false=>rw[hy]at e2;rw[<-aAj e1]at e2;exact absurd (hl y _ e2) (aAZ _)
    |false=>
     rw[hx]at e1;cases hy:(y==m)with
     |true=>rw[hy]at e2;rw[<-aAj e2]at e1;exact absurd (hl x _ e1) (aAZ _)
     |false=>rw[hy]at e2;exact h x y c e1 e2
  ·exact gG r n acc hl h
abbrev cH (X:Cx)(scope:Scope)(C:Addr):List (Str×Addr):=cellsFrom (C+1) scope.names (EK X.env scope.names [])
def ED {E:C5}{Q:Env->Shared->Prop}(hQ:Q (newEnv scope s.heap.objs.size g (cellsFrom (s.heap.objs.size+1) scope.names cl) q none .none (some env) builtinsNs) {s with heap:=pushCells (s.heap.push {cls:=.type "dict",data:=.dict #[]}) scope.names}):
  wpAny M A (newFunctionEnv scope g cl [] q none .none (some env)) Q E s:=by
 simp only[newFunctionEnv,Option.isSome_some,if_true];refine aAa (wpAny_alloc ?_);refine aAa (wpAny_layCells _ (λname kind cells=>by cases hkc:kind==aBP<;>simp[hkc]) _ _ _ _ ?_);rw[show({s with heap:=s.heap.push {cls:=.type "dict",data:=.dict #[]}}:Shared).heap.objs.size=s.heap.objs.size+1 from aBn ..];exact aAa (aAb<|aAb hQ)
def CJ {R:Result->Shared->Prop}(I:Nat->Shared->Prop)(turn:∀n s,I n s->wpAny (model prog w) A (pyNext it) (λr ah=>match r with
   |none=>R (.ok .next) ah
   |some v=>wpAny (model prog w) A (letOwnedTupleGo target it v) (λ_ s'0=>wpAny (model prog w) A (assign target env v) (λ_ ic=>
    wpAny (model prog w) A (forIn ifs true λc r=>if r=true then do let ok<-isTrue c env (eval c env);pure (aCg ok)else pure (aCg r)) (λok sh=>
     if ok=true then wpAny (model prog w) A (eval elt env) (λx si=>wpAny (model prog w) A (call (.builtin "list.append") [acc,x]) (λ_ sj=>∃m,m<n/\I m sj) (λ_ _=>False) si) (λ_ _=>False) sh
     else∃m,m<n/\I m sh) (λ_ _=>False) ic) (λ_ _=>False) s'0) (λ_ _=>False) ah) (λ_ _=>False) s) (n:Nat) (h:I n s):codeAny (model prog w) A (.compLoop (.ListComp elt [⟨target,C9,ifs,0⟩] scope pos) 0 it acc env) R s:=by
 refine codeAny_loop rfl I (λn s hI=>?_) n h;show wpAny _ A ((compTurn (.ListComp elt [⟨target,C9,ifs,0⟩] scope pos) 0 it acc env).onRaise (λx=>do noteFrame x env;theTreesLotGoes x)) _ _ s;refine wpAny_noted ?_;rw[compTurn_list];refine aAa (aEX<|aAa<|aBw (turn n s hI) (λr ah h₁=>?_) λ_ _ h'=>h'.elim);cases r with
 |none=>exact aAb h₁
 |some v=>
  refine aAa (aBw h₁ (λ_ s'0 h'0=>?_) λ_ _ h'=>h'.elim);refine aAa (aBw h'0 (λ_ ic jf=>aAa (aBw jf (λok sh aA=>?_) λ_ _ h'=>h'.elim)) λ_ _ h'=>h'.elim);cases ok with
  |false=>exact aAb ⟨rfl,aA⟩
  |true=>exact aAa (aAa<|aBw aA (λx si hV=>aAa (aBw hV (λ_ sj h9=>aAb (aAb ⟨rfl,h9⟩)) λ_ _ h'=>h'.elim)) λ_ _ h'=>h'.elim)
def EL (X:Cx)(pins:K7)(se:Shared)(Ha:Hp)(N':List Str)(scope:Scope)(cl:List (Str×Addr))(C:Addr)(fp:List Addr):Cx where
 prog:=X.prog
 w:=X.w
 K:=X.K
 mg:=X.mg
 base:=X.base
 A:=X.A
 N:=N'
 se:=se
 Ha:=Ha
 env:=compEnvC scope cl C X.env
 outer:=X.stack
 stack:=X.stack
 ex:=fp
 fn:=λx=>scope.names.lookup x==some .cell
 calm:=X.calm
 pn:=X.pn++pins
 xe:=λ_ _=>False
structure CompSc (X:Cx)(scope:Scope)(own fr:List Str)(js:List Nat):Prop where
 kind:scope.kind=.function
 apart:∀y∈scope.names,y.2=.free->(y.1,aBP)∉scope.names
 names:∀y∈scope.names,y.2=.local->scope.names.lookup y.1=some .local
 free:∀y∈scope.names,y.2=.free->X.env.kindOf y.1=some .cell\/X.env.kindOf y.1=some .free
 len:js.length=fr.length
 at_:∀(i j:Nat) (x:Str),js[i]?=some j->fr[i]?=some x->X.N[j]?=some x/\(x,NameKind.free)∈scope.names
 nd:js.Nodup
 dis:∀y∈scope.names,y.2=.free->scope.names.lookup y.1=some .free
def seen:Sl->Sl
 |.v d=>.v d
 |_=>.no
def j2 (own:List Str)(js:List Nat)(ρ:Ev):Ev:=aAD own.length Sl.no++js.map λj=>seen (ρ.getD j Sl.no)
def V1 (own:List Str)(js:List Nat)(σ:St):St:=aAD own.length none++js.map λj=>σ.getD j none
def Inv.ab6 (I:L2.Inv X pins σ H s)(S:CompSc X scope own fr js):∀y∈scope.names,y.2=.free->∃c,X.env.cells.lookup y.1=some c:=
 λy hy hf=>I.ok.has y.1 (S.free y hy hf)
def dD (h:(j2 own js ρ)[i]?=some sl):sl=.no\/∃d j,sl=.v d/\own.length<=i/\js[i-own.length]?=some j/\ρ[j]?=some (.v d):=by
 unfold j2 at h;by_cases hi:i<own.length
 ·rw[aAP (by simpa using hi),aBg,if_pos hi]at h;cases h;exact .inl rfl
 ·have ib:own.length<=i:=aDY hi;rw[aAu (by simpa using ib),aCe,aAN]at h;cases e:js[i-own.length]? with
  |none=>rw[e]at h;cases h
  |some j=>
   rw[e]at h;have h':seen (ρ.getD j Sl.no)=sl:=aAj h;rw[aAv]at h';cases e2:ρ[j]? with
   |none=>rw[e2]at h';subst h';exact .inl rfl
   |some z=>
    rw[e2]at h';cases z with
    |v d=>subst h';exact .inr ⟨d,j,rfl,ib,rfl,e2⟩
    |_=>subst h';exact .inl rfl
def CG {K:PySem.W.Frag}{Ha H:Hp}{O0 O:Addr->Prop}{σ:St}{ρ:Ev}{own:List Str}{js:List Nat}(E:EnvOk K Ha O0 H O σ ρ):EnvOk K Ha O0 H O (V1 own js σ) (j2 own js ρ):=by
 refine⟨by simp[V1,j2],E.same,E.sub,E.trk,E.trk0,E.tab,λi sl h=>?_,λi j x y a h1 h2 o=>?_⟩
 ·rcases dD h with rfl|⟨d,j,rfl,ib,e,h1⟩
  ·trivial
  ·obtain⟨v,h3,h4⟩:=E.val j d h1;refine⟨v,?_,h4⟩;unfold V1;rw[aAu (by simpa using ib),aCe,aAN,e];show some (σ.getD j none)=some (some v);rw[aAv,h3];rfl
 ·rcases dD h1 with rfl|⟨d,j,rfl,_⟩
  ·exact o.elim
  ·exact o.elim
def EH (I:L2.Inv X pins σ H s)(S:CompSc X scope own fr js)(wo:∀b∈fp,nC X pins H b)(ar:∀b∈fp,b<s.heap.objs.size)(e8:h₁=pushCells (s.heap.push {cls:=.type "dict",data:=.dict #[]}) scope.names):
  L2.Inv (EL X pins s H (own++fr) scope (cH X scope s.heap.objs.size) s.heap.objs.size fp) [] (V1 own js σ) H {s with heap:=h₁,toks:=tk}:=by
 have hcells:=Inv.ab6 I S;have keep:∀b o,s.heap.get? b=some o->h₁.get? b=some o:=λb o e=>by rw[e8];exact aEk _ _ _ _ (aAc _ e)
 have yu:h₁.Ns s.heap.objs.size (λ_=>none):=by rw[e8];exact(Heap.Ns.new s.heap<|.type "dict").keeps (aEk _ _)
 have cc:∀x c,(cH X scope s.heap.objs.size).lookup x=some c->(EK X.env scope.names []).lookup x=some c\/(h₁.IsCell c none/\s.heap.objs.size+1<=c):=λx c h=>by have:=mG scope.names (s.heap.push {cls:=.type "dict",data:=.dict #[]}) (EK X.env scope.names []) (x:=x) (c:=c) (by rw[aBn];exact h);rw[aBn,<-e8]at this;exact this
 have gh:∀x c,(EK X.env scope.names []).lookup x=some c->X.env.cells.lookup x=some c:=λx c h=>tQ scope.names [] hcells (λ_ _ z=>(by cases z)) h;have base_lt:∀b o,X.base.get? b=some o->b∉fp:=λb o e hb=>by
  rcases(wo b hb).2.2.2.1 with z|z
  ·exact I.ok.noex b o e z
  ·exact absurd (aAo (aAf e)<|aAx I.ok.bsz z) (aAZ _)
 have nfs:∀b∈fp,b∉T3 X.stack:=λb hb z=>by
  rcases aAe.mp (I.ab0 b z)with e|z
  ·exact(wo b hb).2.1 e
  ·exact(wo b hb).2.2.1 z
 have old_lt:∀x c,X.env.cells.lookup x=some c->c<s.heap.objs.size+1:=λx c h=>by obtain⟨v,o,ho,_⟩:=I.cell x c h;exact aBo (aAf ho)
 have has:∀x,((relabel scope X.env).names.lookup x=some .cell\/(relabel scope X.env).names.lookup x=some .free)->∃c,(cH X scope s.heap.objs.size).lookup x=some c:=λx hx=>by
  have:((cH X scope s.heap.objs.size).lookup x).isSome=true:=PySem.W.cellsFrom_some _ _ _ (by
   rcases eJ hx with h|h
   ·obtain⟨c,hc⟩:=pT (env:=X.env) scope.names [] (x:=x) (.inl h);exact .inr (by rw[hc];rfl)
   ·exact .inl h)
  exact aEO.mp this
 refine⟨⟨I.ok.mod,S.kind,I.ok.glob,I.ok.blt,aAg _,gG scope.names _ _ (λx c h=>old_lt x c (gh x c h)) (λx y c h1 h2=>I.ok.inj x y c (gh x c h1) (gh y c h2)),has,λx c hf h=>aCv (mR scope.names _ _ (PySem.mem_of_lookup<|eq_of_beq hf) h),I.ok.hd,I.ok.frames,.inl rfl,
  λb hb=>⟨aAi (ar b hb),λx c h=>(cc x c h).elim (λh=>(wo b hb).2.2.2.2.1 x c (gh x c h)) λ⟨_,h2⟩ z=>absurd (aAo (ar b hb)<|aCv h2) (by rw[z];exact aAZ _)⟩,I.bs,aAx I.ok.bsz I.sz,λb o e=>base_lt b o e,nfs,I.stack,I.ab8⟩,rfl,I.bare,Un.kept keep,⟨_,yu,λi x v e1 e2 e3=>?_⟩,λx c h=>?_,I.hok.fresh (aAg _),λx c h=>(cc x c h).elim (λh=>I.freeC x c (gh x c h)) λ⟨_,h2⟩=>I.hok.fresh (aCv h2),λp hp=>?_,I.hok.kept keep,?_⟩
 ·
  have hlen:(own++fr).length=(V1 own js σ).length:=by simp[V1,S.len]
  unfold V1 at e2;by_cases hi:i<own.length
  ·rw[aAP (by simpa using hi),aBg,if_pos hi]at e2;cases e2
  ·have ib:own.length<=i:=aDY hi;rw[aAu (by simpa using ib),aCe,aAN]at e2;have e1':(own++fr)[i]?=some x:=e1;rw[aAu ib]at e1';cases e:js[i-own.length]? with
   |none=>rw[e]at e2;cases e2
   |some j=>
    rw[e]at e2;have e2':σ.getD j none=some v:=aAj e2;obtain⟨hN,ke⟩:=S.at_ (i-own.length) j x e e1';have hσ:σ[j]?=some (some v):=by
     rw[aAv]at e2';cases e4:σ[j]? with
     |none=>rw[e4]at e2';cases e2'
     |some z=>rw[e4]at e2';exact congrArg some e2'
    have hk:=S.free (x,.free) ke rfl;have hvis:sD X.env.scope x:=.inr hk;obtain⟨m,hn,hl⟩:=I.loc;obtain⟨u,r,lk⟩:=hl j x v hN hσ hvis;refine⟨u,r,?_⟩;rcases lk with⟨mh,_⟩|⟨_,c,hc,jd⟩
    ·rcases hk with hk|hk<;>(rw[mh]at hk;cases hk)
    ·right;obtain⟨c',hc'⟩:=pT (env:=X.env) scope.names [] (x:=x) (.inl ke);have:=gh x c' hc';rw[hc]at this;cases this;refine⟨?_,c,(lS scope.names _ _<|S.apart (x,.free) ke rfl).trans hc',?_⟩
     ·rcases e3 with e3|e3|e3
      ·
       have hq:(relabel scope X.env).names.lookup x=some .local:=e3;exfalso;have:∀names:List (Str×NameKind),(names.map λ(n,k)=>if(k==NameKind.free&&X.env.scope.kind==.function&&X.env.kindOf n==some .cell)then(n,aBP)else(n,k)).lookup x=some .local->names.lookup x=some .local:=by
        intro names;induction names with
        |nil=>intro h;cases h
        |cons y r ih=>
         obtain⟨n,k⟩:=y;intro h;rw[aAs]at h;dsimp only at h;by_cases hx:x=n
         ·subst hx;by_cases hkk:(k==NameKind.free&&X.env.scope.kind==.function&&X.env.kindOf x==some .cell)=true
          ·rw[if_pos hkk,aBs]at h;cases h
          ·rw[if_neg hkk,aBs]at h;rw[aBs];exact h
         ·rw[aAT,beq_eq_false_iff_ne.mpr hx];by_cases hkk:(k==NameKind.free&&X.env.scope.kind==.function&&X.env.kindOf n==some .cell)=true
          ·rw[if_pos hkk,aAT,beq_eq_false_iff_ne.mpr hx]at h;exact ih h
          ·rw[if_neg hkk,aAT,beq_eq_false_iff_ne.mpr hx]at h;exact ih h
       have h2:=this scope.names hq;rw[S.dis (x,.free) ke rfl]at h2;cases h2
      ·exact .inl e3
      ·exact .inr e3
     ·obtain⟨o,ho,hd⟩:=jd;exact⟨o,keep c o ho,hd⟩
 ·rcases cc x c h with h|⟨h,_⟩
  ·obtain⟨v,o,ho,hd⟩:=I.cell x c (gh x c h);exact⟨v,o,keep c o ho,hd⟩
  ·exact⟨_,h⟩
 ·have wu:p∈X.pn++pins:=by simpa[EL]using hp
  obtain⟨e,n,ne,nf,d⟩:=I.pin p wu;refine⟨keep _ _ e,n,aAi (aAf e),λz=>?_,d⟩;rcases aAe.mp (I.ab0 p.1 z)with e'|z'
  ·exact ne e'
  ·exact nf z'
 ·simp[V1,EL,S.len]
def y7 (G:D->Ev->R Ev)(ft:Ev->R Bool)(fe:Ev->R D)(ρ:Ev):List D->R (List D)
 |[]=>.ok []
 |d::ds=>match G d ρ with
  |.ok ρ1=>(ft ρ1).bind λb=>if b=true then(fe ρ1).bind λr=>(y7 G ft fe ρ ds).bind λrs=>.ok (r::rs)else y7 G ft fe ρ ds
  |_=>.bad
def DE (ρ1 ρ:Ev):Prop:=ρ1.length=ρ.length/\∀(i:Nat) (sl:Sl),ρ[i]?=some sl->sl≠.no->ρ1[i]?=some sl
def EnvOk.weak {K:PySem.W.Frag}{Ha H:Hp}{O0 O:Addr->Prop}{σ:St}{ρ1 ρ:Ev}(E:EnvOk K Ha O0 H O σ ρ1)(h:DE ρ1 ρ):EnvOk K Ha O0 H O σ ρ where
 len:=E.len.trans h.1
 same:=E.same
 sub:=E.sub
 trk:=E.trk
 trk0:=E.trk0
 tab:=E.tab
 slot:=λi sl e=>by
  by_cases n:sl=.no
  ·subst n;trivial
  ·exact E.slot i sl (h.2 i _ e n)
 inj:=λi j x y a h1 h2 o1 o2=>E.inj i j x y a (h.2 i _ h1 (by rintro rfl;exact o1)) (h.2 j _ h2 (by rintro rfl;exact o2)) o1 o2
def Q4 (H:Hp)(a:Addr):Hp:=λb=>if b=a then none else H b
def wT (H:Hp)(a:Addr):Q4 H a a=none:=if_pos rfl
def S5 (h:b≠a):Q4 H a b=H b:=if_neg h
def DV (h:H a=some o):upd (Q4 H a) a o=H:=by
 funext b
 unfold upd Q4;by_cases hb:b=a
 ·subst hb;rw[if_pos rfl,h]
 ·rw[if_neg hb,if_neg hb]
def EnvOk.ad6 {K:PySem.W.Frag}{Ha H:Hp}{O0 O:Addr->Prop}{σ:St}{ρ:Ev}{a:Addr}{vs:List V}(E:EnvOk K Ha O0 H O σ ρ)(h:H a=none)(hk:K.lookup a=none):EnvOk K Ha O0 (upd H a (.lst vs)) (λb=>O b\/b=a) σ ρ:=E.ab9 h hk trivial
def Rep.hidden {K:PySem.W.Frag}{H:Hp}{O:Addr->Prop}{a:Addr}{vs:List V}{v:V}{d:D}(h:H a=some (.lst vs))(r:Rep K H (λb=>O b\/b=a) v d):Rep K (Q4 H a) O v d:=by
 refine r.mono (λb xs q=>?_) (λb xs n q=>⟨λz=>n (.inl z),?_⟩) λb φ n q=>⟨λz=>n (.inl z),by rw[S5 λz=>n (.inr z)];exact q⟩
 ·rcases q with(q|⟨o,q⟩)|q
  ·exact .inl (.inl (by rw[S5 (by rintro rfl;rw[h]at q;cases q)];exact q))
  ·exact .inl (.inr ⟨o,by rw[S5 (by rintro rfl;rw[h]at q;cases q)];exact q⟩)
  ·exact .inr q
 ·have hb:b≠a:=λz=>n (.inr z);rcases q with(q|⟨o,q⟩)|q
  ·exact .inl (.inl (by rw[S5 hb];exact q))
  ·exact .inl (.inr ⟨o,by rw[S5 hb];exact q⟩)
  ·exact .inr q
def T7 (h:H a=none)(s:Same (upd H a (.lst vs)) H'):Same H (Q4 H' a):=λb o q=>by
 have hb:b≠a:=by rintro rfl;rw[h]at q;cases q
 rw[S5 hb];exact s b o (by rw[j7 hb];exact q)
section
def QA (X:Cx)(ifs:List Expr)(ft:Ev->R Bool):Prop:=
 ∀(pins:K7) (s:Shared) (σ:St) (H:Hp) (Q:Bool->Hp->Prop),Inv X pins σ H s->YX X ft σ H Q->
  wpAny (model X.prog X.w) X.A (forIn ifs true λc r=>if r=true then do let ok<-isTrue c X.env (eval c X.env);pure (aCg ok)else pure (aCg r)) (TP X pins σ Q) X.xe s
def NE:QA X [] (λ_=>.ok true):=λpins s σ H Q I ⟨Ha,O0,O,ρ,E,q⟩=>wpAny_tests_nil ⟨H,I,q H (Same.refl _)⟩
def MN (h:wC X c ft):QA X [c] ft:=λpins s σ H Q I q=>wpAny_tests_one (h pins s σ H Q I q)
def vU {tg elt C9:Expr}{ifs:List Expr}{scope:Scope}{own fr:List Str}{js:List Nat}{G:D->Ev->R Ev}{ft:Ev->R Bool}{fe:Ev->R D}{pins:K7}{σ:St}{H:Hp}{s:Shared}{Ha:Hp}{O0 O:Addr->Prop}{ρ:Ev}
  {it:Addr} {fp:List Addr} {tn:Nat->Heap->Prop} {J:It} {ds rs:List D} {RR:Value->Addr->Result->Shared->Prop} {EE:C5} (hc:X.calm=true) (S:CompSc X scope own fr js)
  (hX:∀X':Cx,(∃se Hb C,X'=EL X pins se Hb (own++fr) scope (cH X scope C) C fp)->KP X' tg G/\QA X' ifs ft/\PD X' elt fe)
  (hG:∀d ρ1,G d (j2 own js ρ)=.ok ρ1->DE ρ1 (j2 own js ρ))
  (I:Inv X pins σ H s) (T:Turn X.prog X.w X.K tg J fp it tn) (st:tn 0 s.heap) (wo:∀b∈fp,nC X pins H b) (E:EnvOk X.K Ha O0 H O σ ρ) (hJ:SG X.K J H O ds) (hrs:y7 G ft fe (j2 own js ρ) ds=.ok rs) (hlen:ds.length<=sizeLine)
  (fin:∀acc C s' H' m,s'.heap.Ns C m->C≠acc->s.heap.objs.size<=C->s.heap.objs.size<=acc->Same H H'->Rep X.K H' O (.ref acc) (.lst rs)->(∃H1 vs,Same H H1/\H1 acc=none/\H'=upd H1 acc (.lst vs)/\Reps X.K H1 O vs rs)->H' C=none->(∀h',Heap.SameBut C s'.heap h'->Inv X pins σ H' {s' with heap:=h'})->RR (.ref acc) C (.ok .next) s'):
  wpAny (model X.prog X.w) X.A (newList []) (λacc sh=>wpAny (model X.prog X.w) X.A (newFunctionEnv scope X.env.globals (EK X.env scope.names []) [] X.env.qual none .none (some X.env)) (λcenv si=>codeAny (model X.prog X.w) X.A (.compStart (.ListComp elt [⟨tg,C9,ifs,0⟩] scope pos) 0 (.ref it) acc {cenv with scope:=relabel scope X.env}) (RR acc cenv.locals) si) EE sh) EE s:=by
 have hO:=pU I O E.trk;refine aBx ?_;have hfr:H s.heap.objs.size=none:=I.hok.fresh (aAg _);have yv:X.K.lookup s.heap.objs.size=none:=by
  cases e:X.K.lookup s.heap.objs.size with
  |none=>rfl
  |some o=>exact absurd (aAf<|I.kIn _ o e) (aAZ _)
 have I1:Inv X pins σ (upd H s.heap.objs.size<|.lst []) {s with heap:=s.heap.push {cls:=.type "list",dict:=none,data:=.seq ([]:List Value).toArray}}:=
  I.laid (t':=s.toks) (λb u e=>aAc _ e) (aAg _) ⟨aAW _,[],0,.nil,aAn _ rfl⟩
 generalize gi:s.heap.objs.size=acc at*
 generalize yx:({s with heap:=s.heap.push {cls:=.type "list",dict:=none,data:=.seq ([]:List Value).toArray}}:Shared)=s1 at I1⊢;have sz1:s1.heap.objs.size=acc+1:=by rw[<-yx,<-gi];exact aBn _ _
 have keep1:∀b o,s.heap.get? b=some o->s1.heap.get? b=some o:=λb o e=>by rw[<-yx];exact aAc _ e
 have xa:∀b∈fp,b<acc:=λb hb=>by obtain⟨o,e,_⟩:=T.obj 0 _ st b hb;rw[<-gi];exact aAf e
 have hfp1:∀b∈fp,nC X pins (upd H acc<|.lst []) b:=λb hb=>by obtain⟨f0,f⟩:=wo b hb;exact⟨by rw[j7 (aAi<|xa b hb)];exact f0,f⟩
 refine ED ?_;obtain⟨h₁,e8⟩:∃h₁,pushCells (s1.heap.push {cls:=.type "dict",data:=.dict #[]}) scope.names=h₁:=⟨_,rfl⟩;rw[e8];have keep2:∀b o,s1.heap.get? b=some o->h₁.get? b=some o:=λb o e=>by rw[<-e8];exact aEk _ _ _ _ (aAc _ e)
 have IB:=EH (tk:=s1.toks) I1 S hfp1 (λb hb=>by rw[sz1];exact aBo (xa b hb)) e8.symm;generalize hC:s1.heap.objs.size=C at*
 obtain⟨hG',hT',hE'⟩:=hX _ ⟨s1,upd H acc (.lst []),C,rfl⟩;generalize ve:EL X pins s1 (upd H acc<|.lst []) (own++fr) scope (cH X scope C) C fp=X' at IB hG' hT' hE';have eP:X'.prog=X.prog:=by rw[<-ve];rfl
 have eW:X'.w=X.w:=by rw[<-ve];rfl
 have eK:X'.K=X.K:=by rw[<-ve];rfl
 have eA:X'.A=X.A:=by rw[<-ve];rfl
 have eC:X'.calm=true:=by rw[<-ve];exact hc
 have eX:X'.xe=λ_ _=>False:=by rw[<-ve];rfl
 have eE:X'.env=compEnvC scope (cH X scope C) C X.env:=by rw[<-ve];rfl
 have eX0:X'.ex=fp:=by rw[<-ve];rfl
 have ePn:X'.pn=X.pn++pins:=by rw[<-ve];rfl
 have eFs:X'.fs=T3 X.stack:=by rw[<-ve];rfl
 have eS0:X'.se=s1:=by rw[<-ve];rfl
 have eH0:X'.Ha=upd H acc (.lst []):=by rw[<-ve];rfl
 have eL:X'.env.locals=C:=by rw[eE];rfl
 have eCe:X'.env.cells=cH X scope C:=by rw[eE];rfl
 have I2of:=IB;have cell_ne:∀b∈fp,∀x c,X'.env.cells.lookup x=some c->c≠b:=λb hb x c h=>(I2of.ok.exf b (by rw[eX0];exact hb)).2 x c h;have accC:acc≠C:=by rw[sz1];exact aAi (aDt _)
 have fpC:∀b∈fp,b≠C:=λb hb=>by have h1:=xa b hb;rw[sz1];exact aAi (aBo h1)
 have fpB:∀{H':Hp},(∀b∈fp,H' b=none)->∀b∈fp,nC X' [] H' b:=λ{H'} hn b hb=>by
  obtain⟨f0,f1,f2,f3,f4,f5⟩:=wo b hb;refine⟨hn b hb,by rw[eL];exact fpC b hb,?_,.inl (by rw[eX0];exact hb),λx c h=>cell_ne b hb x c h,λp hp=>f5 p (by rw[ePn,aBr]at hp;exact hp)⟩;rw[eFs];intro z;rcases aAe.mp (I.ab0 b z)with e|z
  ·exact f1 e
  ·exact f2 z
 have st1:tn 0 h₁:=T.keep 0 s.heap h₁ st λb hb o e=>keep2 b o (keep1 b o e)
 let Iv:Nat->Shared->Prop:=λn s'=>∃i ai Hx vs rd,n=ds.length-i/\i<=ds.length/\Inv X' [] ai (upd Hx acc<|.lst vs) s'/\Hx acc=none/\tn i s'.heap/\(∀b∈fp,Hx b=none)/\EnvOk X.K Ha O0 Hx O ai (j2 own js ρ)/\Same H Hx/\
  Reps X.K Hx O vs rd/\(∃rest,y7 G ft fe (j2 own js ρ) (ds.drop i)=.ok rest/\rs=rd++rest)/\vs.length<=i
 have loop:codeAny (model X.prog X.w) X.A (.compLoop (.ListComp elt [⟨tg,C9,ifs,0⟩] scope pos) 0 (.ref it) (.ref acc) (compEnvC scope (cH X scope C) C X.env)) (RR (.ref acc) C) {s1 with heap:=h₁}:=by
  refine CJ Iv ?_ ds.length ⟨0,_,H,[],[],by simp,aAW _,IB,hfr,st1,λb hb=>(wo b hb).1,CG E,Same.refl H,.nil,⟨rs,by rw[aFM];exact hrs,rfl⟩,aAW _⟩;rintro n s2 ⟨i,vm,Hx,vs,rd,rfl,hi,I2,yd,mf,fx2,E2,yy,r2,⟨rest,ao,xb⟩,hvl⟩;have fr2:∀b∈fp,(upd Hx acc<|.lst vs) b=none:=λb hb=>by rw[j7 (aAi<|xa b hb)];exact fx2 b hb
  have sU:=i5 yd (.lst vs);have hit:=hJ (upd Hx acc<|.lst vs) (λb=>O b\/b=acc) (λb o q n=>⟨sU b o (yy b o q),λz=>z.elim n λz=>by subst z;rw[hfr]at q;cases q⟩) (λa o q z=>z.elim (hO a o q) λz=>by subst z;rw[yv]at q;cases q) E.trk
   (λa z=>(E2.ad6 (vs:=vs) yd yv).trk a z) i
  by_cases ar:i<ds.length
  ·obtain⟨go,yl⟩:=hit.1 ds[i] (aAk ar);rw[aDo ar,y7]at ao;have om:=T.item X' eP eW eK eC i [] s2 vm _ (λ_ _=>False) I2 (fpB fr2) mf go;rw[eA]at om;refine C4 om λr s3 ⟨u,hr,h3⟩=>?_;subst hr;refine C4 h3 λ_ s4 ⟨x,H4,I4,ru,y4,st4,fr4⟩=>?_;obtain⟨sm4,rep4⟩:=yl x H4 y4;cases e1:G ds[i] (j2 own js ρ)with
   |ex z=>rw[e1]at ao;cases ao
   |bad=>rw[e1]at ao;cases ao
   |ok ρ1=>
    rw[e1]at ao;dsimp only at ao;have EB:EnvOk X.K Ha O0 H4 (λb=>O b\/b=acc) vm (j2 own js ρ):=(E2.ad6 yd yv).grow sm4;have I4':=I4.pinned (fpB fr4) (T.obj _ _ st4);have again:∀{s7:Shared} {qd:St} {H7:Hp} {vs7:List V} {rd7:List D} {rest7:List D},Inv X' ([]++lR fp s4.heap) qd H7 s7->H7 acc=some (.lst vs7)->EnvOk X.K Ha O0 (Q4 H7 acc) O qd (j2 own js ρ)->Same H (Q4 H7 acc)->Reps X.K (Q4 H7 acc) O vs7 rd7->
      y7 G ft fe (j2 own js ρ) (ds.drop<|i+1)=.ok rest7->rs=rd7++rest7->vs7.length<=i+1->∃m,m<ds.length-i/\Iv m s7:=λ{s7 qd H7 vs7 rd7 rest7} I7 h7 E7 sm7 r7 hr7 hrs7 hv7=>by
     refine⟨ds.length-(i+1),by omega,i+1,qd,Q4 H7 acc,vs7,rd7,rfl,ar,?_,wT _ _,T.keep _ _ _ st4 λb hb o e=>(I7.pin (b,o)<|aAC _<|aAC _<|Z3 hb e).1,λb hb=>?_,E7,sm7,r7,⟨rest7,hr7,hrs7⟩,hv7⟩
     ·rw[DV h7];exact I7.ab1
     ·rw[S5 (aAi<|xa b hb)];obtain⟨o,e,d⟩:=T.obj _ _ st4 b hb;exact(I7.pin (b,o)<|aAC _<|aAC _<|Z3 hb e).2.1
    have hasg:=hG' _ s4 vm H4 x u (λσ5 H5=>Same H4 H5/\EnvOk X.K Ha O0 H5 (λb=>O b\/b=acc) σ5 ρ1) I4' ru ⟨Ha,O0,_,_,ds[i],ρ1,by rw[eK];exact EB,by rw[eK];exact rep4,e1,λσ5 H5 s5 E5=>⟨s5,by rw[eK]at E5;exact E5⟩⟩;rw[eP,eW,eA,eE,eX]at hasg;refine C4 hasg λ_ s5 ⟨σ5,H5,I5,sm5,E5⟩=>?_;have zx:H5 acc=some (.lst vs):=sm5 acc _ (sm4 acc _ i4);cases e2:ft ρ1 with
    |ex z=>rw[e2]at ao;cases ao
    |bad=>rw[e2]at ao;cases ao
    |ok b=>
     rw[e2,R.aa0]at ao;have htst:=hT' _ s5 σ5 H5 (λc H6=>c=b/\Same H5 H6) I5 ⟨Ha,O0,_,ρ1,by rw[eK];exact E5,by rw[e2];exactλH6 s6=>⟨rfl,s6⟩⟩;rw[eP,eW,eA,eE,eX]at htst;refine C4 htst λok s6 ⟨H6,I6,hb,sm6⟩=>?_;subst hb;have sm46:Same (upd Hx acc<|.lst vs) H6:=sm4.trans (sm5.trans sm6);have zy:H6 acc=some (.lst vs):=sm6 acc _ zx;have smx6:Same Hx (Q4 H6 acc):=T7 yd sm46;have W1:DE ρ1 (j2 own js ρ):=hG _ _ e1;have Eb:∀{H7:Hp},Same H5 H7->EnvOk X.K Ha O0 (Q4 H7 acc) O σ5 (j2 own js ρ):=λ{H7} s7=>by
      have E7:=(E5.grow s7).weak W1;have h7:H7 acc=some (.lst vs):=s7 acc _ zx;refine⟨E7.len,E2.same.trans (T7 yd<|sm4.trans<|sm5.trans s7),E2.sub,λa z=>?_,E2.trk0,E2.tab.same (T7 yd<|sm4.trans<|sm5.trans s7),λj sl e=>?_,E7.inj⟩
      ·obtain⟨o,q,mt⟩:=E2.trk a z;exact⟨o,T7 yd (sm4.trans<|sm5.trans s7) a o q,mt⟩
      ·rcases dD e with rfl|⟨d,_,rfl,_⟩
       ·trivial
       ·obtain⟨v,h1,h2⟩:=E7.val j d e;exact⟨v,h1,Rep.hidden h7 h2⟩
     cases ok with
     |false=>rw[if_neg aAL]at ao⊢;exact again I6 zy (Eb sm6) (yy.trans smx6) (r2.same smx6) ao xb (Nat.le_succ_of_le hvl)
     |true=>
      rw[if_pos rfl]at ao⊢;cases e3:fe ρ1 with
      |ex z=>rw[e3]at ao;cases ao
      |bad=>rw[e3]at ao;cases ao
      |ok dv=>
       rw[e3,R.aa0]at ao;cases e4:y7 G ft fe (j2 own js ρ) (ds.drop<|i+1)with
       |ex z=>rw[e4]at ao;cases ao
       |bad=>rw[e4]at ao;cases ao
       |ok rest'=>
        rw[e4,R.aa0]at ao;have qm:dv::rest'=rest:=R.ok.inj ao;have helt:=hE' _ s6 σ5 H6 (λv H7=>Same H6 H7/\Rep X.K H7 (λb=>O b\/b=acc) v dv) I6 ⟨Ha,O0,_,ρ1,by rw[eK];exact E5.grow sm6,by rw[e3,RC];exactλv H7 s7 r7=>⟨s7,by rw[eK]at r7;exact r7⟩⟩;rw[eP,eW,eA,eE,eX]at helt;refine C4 helt λuv s7 ⟨v,H7,I7,ruv,sm7,r7⟩=>?_;have hacc7:H7 acc=some (.lst vs):=sm7 acc _ zy;have happ:=oD (X:=X') _ s7 σ5 H7 (.ref acc) [v] (.ref acc) [uv] (λ_ H8=>H8=upd H7 acc (.lst (vs++[v]))) I7 rfl (.cons ruv .nil) ⟨acc,vs,v,rfl,rfl,hacc7,by omega,rfl⟩;rw[eP,eW,eA,eX]at happ;refine C4 happ λ_ s8 ⟨_,H8,I8,_,h8⟩=>?_;subst h8;have hh:Q4 (upd H7 acc<|.lst (vs++[v])) acc=Q4 H7 acc:=by
         funext b
         unfold Q4 upd;by_cases hb:b=acc
         ·rw[if_pos hb,if_pos hb]
         ·rw[if_neg hb,if_neg hb,if_neg hb]
        have smx7:Same Hx (Q4 H7 acc):=T7 yd (sm46.trans sm7);refine again (vs7:=vs++[v]) (rd7:=rd++[dv]) (rest7:=rest') I8 i4 (by rw[hh];exact Eb (sm6.trans sm7)) (by rw[hh];exact yy.trans smx7) ?_ e4 (by rw[xb,<-qm,aDi];rfl) (by rw[aAz];exact Nat.succ_le_succ hvl);rw[hh];exact(r2.same smx7).snoc (Rep.hidden hacc7 r7)
  ·have ib:i=ds.length:=by omega
   subst ib;have hstop:=hit.2 (by simp);have om:=T.done X' eP eW eK eC ds.length [] s2 vm _ (λ_ _=>False) I2 (fpB fr2) mf hstop;rw[eA]at om;refine C4 om λr s3 ⟨hr,I3⟩=>?_;subst hr;rw[List.drop_length,y7]at ao;have qm:([]:List D)=rest:=R.ok.inj ao;rw[<-qm,aBr]at xb;obtain⟨m,hm,_⟩:=id I3.loc;rw[eL]at hm;have hfin:Same H (upd Hx acc<|.lst vs):=yy.trans sU;refine fin acc C s3 (upd Hx acc<|.lst vs) m hm (aCm accC) (by omega) (aAg _) hfin ?_ ⟨Hx,vs,yy,yd,rfl,by rw[xb];exact r2⟩ (by rw[<-eL];exact I3.free) (λh' lh=>?_)
   ·rw[xb];exact .lst (N1.of i4) (E2.fresh yd) (r2.same sU)
   ·have hU:Un (T3 X.stack) fp (upd H acc<|.lst []) (upd Hx acc<|.lst vs) s1.heap s3.heap:=by have:=I3.base;rw[eFs,eX0,eH0,eS0]at this;exact this
    have hCn:∀b o,s1.heap.get? b=some o->b≠C:=λb o e=>by have:=aAf e;rw[hC]at this;exact aAi this
    have hU':Un (T3 X.stack) fp (upd H acc<|.lst []) (upd Hx acc<|.lst vs) s1.heap h':=⟨λb o e n hb hx=>(lh.2 b (hCn b o e)).trans (hU.keep b o e n hb hx),λb o e n hb hx=>by
      obtain⟨sl,q⟩:=hU.slot b o e n hb hx;exact⟨sl,(lh.2 b (hCn b o e)).trans q⟩,hU.free,λb o e hx=>by
      obtain⟨o',q⟩:=hU.there b o e hx;exact⟨o',(lh.2 b (hCn b o e)).trans q⟩,hU.tups,hU.frzs,hU.tbls⟩
    have hCf:upd Hx acc (.lst vs) C=none:=by rw[<-eL];exact I3.free
    have yz:W7 X.prog X.w (upd Hx acc<|.lst vs) h':=λb u e=>by
     have hb:b≠C:=by rintro rfl;rw[hCf]at e;cases e
     have:=I3.hok b u e;rw[eP,eW]at this;refine this.ab7 (λc v hc q=>(lh.2 c ?_).trans q) (λ_ q=>q) λ_ _ _ q=>q;rcases hc with z|z
     ·rw[z];exact hb
     ·rintro rfl;rw[hCf]at z;cases z
    have hos:s3.os=s1.os:=by have:=I3.os;rw[eS0]at this;exact this
    exact I1.ae8 (s':={s3 with heap:=h'}) (ch:=fp) hos hU' yz I3.bare λb hb=>by obtain⟨f0,f1,f2,f3,f4,f5⟩:=wo b hb;exact⟨f3,f1,f4,f5⟩
 exact codeAny_compStart_list loop (T.self _ 0 _ _ _ st1 loop)
def eM (own fr:List Str)(js:List Nat)(hc:X.calm=true)(S:CompSc X scope own fr js)(hi:UL X tg C9 fi)(hX:∀(pins:K7) (fp:List Addr) (X':Cx),(∃se Hb C,X'=EL X pins se Hb (own++fr) scope (cH X scope C) C fp)->KP X' tg G/\QA X' ifs ft/\PD X' elt fe)(hG:∀ρ d ρ1,G d (j2 own js ρ)=.ok ρ1->DE ρ1 (j2 own js ρ))(hs:∀x,foldedSetIterable C9 X.env x=pure x:=by intro _;rfl):
  PD X (.ListComp elt [⟨tg,C9,ifs,0⟩] scope pos) (λρ=>(fi ρ).bind λds=>if ds.length<=sizeLine then(y7 G ft fe (j2 own js ρ) ds).bind λrs=>.ok (.lst rs)else .bad):=by
 refine sF λpins s σ H Q I Ha O0 O ρ E q=>?_;dsimp only at q;rw[eval_ListComp];refine wpAny_comprehension_free (use:=none) rfl hs (cQ<|Inv.ab6 I S) S.kind S.names ?_;refine C4 (hi pins s σ H (λJ H1=>∃ds rs,Same H H1/\SG X.K J H1 O ds/\ds.length<=sizeLine/\y7 G ft fe (j2 own js ρ) ds=.ok rs/\∀v H',Same H H'->Rep X.K H' O v (.lst rs)->Q v H') I ⟨Ha,O0,O,ρ,E,pU I O E.trk,?_⟩) λv s1 h1=>C4 h1 λitv s2 h2=>?_
 ·cases e1:fi ρ with
  |ex x=>rw[e1]at q;exact q
  |bad=>rw[e1]at q;exact q
  |ok ds=>
   rw[e1,R.aa0]at q;intro J H1 s1 hJ;split at q
   ·rename_i hl;cases e2:y7 G ft fe (j2 own js ρ) ds with
    |ex x=>rw[e2]at q;exact(q H<|Same.refl _).elim
    |bad=>rw[e2]at q;exact q.elim
    |ok rs=>rw[e2]at q;exact⟨ds,rs,s1,hJ,hl,e2,q⟩
   ·exact q.elim
 ·obtain⟨it,fp,tn,J,H2,e,I2,T,mf,f2,ds,rs,sm,hJ,hl,hrs,q⟩:=h2;subst e;refine vU (RR:=λacc C=>compPost (model X.prog X.w) X.A X.xe none (EP X pins σ Q) acc C) hc S (hX pins fp) (hG ρ) I2 T mf f2 (E.grow sm) hJ hrs hl ?_;intro acc C s' H' m hn _ _ _ sm' r _ _ hI;exact⟨m,hn,λh' lh=>⟨.ref acc,H',hI h' lh,rfl,q _ H' (sm.trans sm') r⟩⟩
def IG (i:Nat)(own fr:List Str)(js:List Nat)(hN:X.N.Nodup)(hc:X.calm=true)(S:CompSc X scope own fr js)(hi:UL X tg C9 fi)(hX:∀(pins:K7) (fp:List Addr) (X':Cx),(∃se Hb C,X'=EL X pins se Hb (own++fr) scope (cH X scope C) C fp)->KP X' tg G/\QA X' ifs ft/\PD X' elt fe)(hG:∀ρ d ρ1,G d (j2 own js ρ)=.ok ρ1->DE ρ1 (j2 own js ρ))(hy:X.N[i]?=some y:=by rfl)(hyl:X.env.scope.names.lookup y=some .local:=by rfl)(za:swapsWith (.ListComp elt [⟨tg,C9,ifs,0⟩] scope pos) (some (.Name y py)) spos.line X.env=pure true:=by rfl)(hs:∀x,foldedSetIterable C9 X.env x=pure x:=by intro _;rfl):
  nJ X (.Assign [.Name y py] (.ListComp elt [⟨tg,C9,ifs,0⟩] scope pos) spos) (λρ=>((fi ρ).bind λds=>if ds.length<=sizeLine then(y7 G ft fe (j2 own js ρ) ds).bind λrs=>.ok (D.lst rs)else .bad).bind λd=>.ok (.nx (ρ.set i (.v d)))):=by
 intro Ha O0 pins s σ H D I ⟨O,ρ,E,fk,q⟩;dsimp only at q;rw[exec_Assign_Name_used _ _ _ _ za];refine aAa (aEX<|aAa ?_);show wpAny _ X.A (do let _<-comprehension (.ListComp elt [⟨tg,C9,ifs,0⟩] scope pos) scope X.env _ (newList []) false (eval C9 X.env) (some<|assign (.Name y py) X.env)) _ _ s;refine aAa (aBw (wpAny_comprehension_free (use:=some (assign (.Name y py) X.env)) (Q:=λ_ s'=>SP X pins D .next s') rfl hs (cQ<|Inv.ab6 I S) S.kind S.names ?_) (λ_ s' hq=>aAb (aAb hq)) λ_ _ e=>e);refine C4 (hi pins s σ H (λJ H1=>∃ds rs,Same H H1/\SG X.K J H1 O ds/\ds.length<=sizeLine/\y7 G ft fe (j2 own js ρ) ds=.ok rs/\RS X Ha O0 H O (.ok (.nx (ρ.set i<|.v (.lst rs)))) D) I ⟨Ha,O0,O,ρ,E,pU I O E.trk,?_⟩) λv s1 h1=>C4 h1 λitv s2 h2=>?_
 ·cases e1:fi ρ with
  |ex x=>rw[e1]at q;exactλH' s=>q H' (E.same.trans s)
  |bad=>rw[e1]at q;exact q
  |ok ds=>
   rw[e1,R.aa0]at q;intro J H1 s1 hJ;split at q
   ·rename_i hl;cases e2:y7 G ft fe (j2 own js ρ) ds with
    |ex x=>rw[e2]at q;exact(q H E.same).elim
    |bad=>rw[e2]at q;exact q.elim
    |ok rs=>rw[e2]at q;exact⟨ds,rs,s1,hJ,hl,e2,q⟩
   ·exact q.elim
 ·obtain⟨it,fp,tn,J,H2,e,I2,T,mf,f2,ds,rs,sm,hJ,hl,hrs,q⟩:=h2;subst e;refine vU (RR:=λacc C=>compPost (model X.prog X.w) X.A X.xe (some<|assign (.Name y py) X.env) (λ_ s'=>SP X pins D .next s') acc C) hc S (hX pins fp) (hG ρ) I2 T mf f2 (E.grow sm) hJ hrs hl ?_;intro acc C s' H' m hn hCa hCs has sm' r _ hC hI;have I3:=hI s'.heap (aGg ..);show wpAny _ X.A (assign (.Name y py) X.env<|.ref acc) _ _ s';refine wpAny_assign_Name (nZ (i:=i) (v:=.ref acc) I3 hN hy (.inl hyl) rfl (λs4 I4 ⟨a,hsb,ha⟩=>?_)<|.inr hyl);have jd:∀x c,X.env.cells.lookup x=some c->c≠C:=λx c hc=>by obtain⟨v,hv⟩:=I2.cell x c hc;exact aAi (aAo hv.lt hCs)
  have hCL:C≠X.env.locals:=aDb (aAo I2.lt hCs);have hCa2:C≠a:=by
   rcases ha with ha|ha
   ·rw[ha];exact hCL
   ·exact aCm (jd y a ha)
  refine⟨m,hn.sameBut hsb hCa2,λh' lh=>?_⟩;refine⟨_,H',?_,q _ H' O (((E.grow sm).grow sm').set i r) (pU I O E.trk) (Kp.of<|sm.trans sm')⟩;exact I4.turned (t':=s4.toks) (it:=C) (λb o hb e=>(lh.2 b hb).trans e) hC hCL (.inr (aAx I2.sz hCs)) jd λp hp=>aAi (aAo (aAf (I2.pin p hp).1) hCs)
end
omit [Tabs]in
def vY {ns:List Int}(h:PySem.W.WData.layableAll [PySem.W.WData.list (ns.map PySem.W.WData.int)]=true):∀x∈ns,aAQ x<=1048576:=λx hx=>by
 have h1:=(PySem.W.layW_cons h).1;have h2:=PySem.W.layableW_item h1 (.int x) (aAp.mpr ⟨x,hx,rfl⟩);have h3:=PySem.W.lay0_int h2;have h4:PyData.layable0 (.int x)=true:=by simpa[PyData.layableAll0]using h3
 exact PyData.bits_of_layable h4
def z9 (P:Program)(w:World)(K:PySem.W.Frag)(mg:V5)(base:Heap)(k:Nat)(x:Str)(n:Nat)(m:List D->R D):Prop:=
 ∃g gd ps,FnOk P w K mg base rG k g gd ps (UI K n m)/\Binds K gd ps []/\PySem.W.keepIn K (.ref g)=true/\mg x=some (.ref g)
def vM (f:Ev->R (List D))(n:Nat):Prop:=∀ρ ds,f ρ=.ok ds->ds.length=n
def C7:vM U5 0:=λρ ds h=>by cases h;rfl
def o8 (h:vM g n):vM (p5 f g) (n+1):=λρ ds e=>by
 unfold p5 at e;cases e1:f ρ with
 |ok d=>
  rw[e1,R.aa0]at e;cases e2:g ρ with
  |ok cb=>rw[e2]at e;cases e;rw[aAt,h ρ cb e2]
  |ex x=>rw[e2]at e;cases e
  |bad=>rw[e2]at e;cases e
 |ex x=>rw[e1]at e;cases e
 |bad=>rw[e1]at e;cases e
section
def rS (c:z9 X.prog X.w X.K X.mg X.base k x n m)(hr:Room k X.A)(ha:xU X (e::es) f)(hl:vM f n)(hg:Gl X x:=by rfl)(dh:(x==("__debug__":Str))=false:=by decide)(he:starEach (e::es) X.env=(false,eval e X.env)::starEach es X.env:=by rfl)(br:(backTo pos (starEach es X.env)).any (·.1)=false:=by rfl):
  PD X (.Call (.Name x p) (e::es) [] pos) (λρ=>(f ρ).bind m):=by
 obtain⟨g,gd,ps,F,b,kp,em⟩:=c;exact LK F hr em kp b ha hl hg dh he br
end
def QT {P:Program}{w:World}{K:PySem.W.Frag}{mg:V5}{base:Heap}{x qual:Str}{st:Stmt}{f:Addr}{fd:FuncData}{N ps:List Str}{k:Nat}{m:List D->R D}{F:Ev->R Out}(F0:Fun K x qual st f fd)(S:FnScope N ps (c5 st))(zb:Binds K fd ps [])(jl:mg x=some (.ref f))
  (hb:∀(cdv:Value) (A:Around) (outer:List Env) (s:Shared) (H:Hp) (E:XK),Room k (A.deeper (envOfC qual (c5 st) s.heap.objs.size f cdv))->U6 (MI P w K mg base N qual (c5 st) f cdv A outer s H E) (o6 st) F)
  (hm:∀ds d,ds.length=ps.length->m ds=.ok d->N4 (F (i6 N ds))=.ok d):z9 P w K mg base (k+1) x ps.length m:=
 ⟨f,fd,ps,my F0 S hb hm,zb,F0.kp,jl⟩
def M2:∀d ρ1,(R.ok ((j2 [x] js ρ).set 0 (Sl.v d)):R Ev)=.ok ρ1->DE ρ1 (j2 [x] js ρ):=λd ρ1 h=>by
 cases h;refine⟨by simp,λi sl h hn=>?_⟩;cases i with
 |zero=>exact absurd (by simpa[j2]using h.symm) hn
 |succ i=>rw[aCp (by lia)];exact h
def GD (sc:Scope)(N:List Str)(scope:Scope)(fr:List Str)(js:List Nat):Bool:=
 decide (scope.kind=.function)&&scope.names.all (λy=>decide (y.2=.free->(y.1,aBP)∉scope.names))&&scope.names.all (λy=>decide (y.2=.local->scope.names.lookup y.1=some .local))&&
 scope.names.all (λy=>decide (y.2=.free->sc.names.lookup y.1=some .cell\/sc.names.lookup y.1=some .free))&&decide (js.length=fr.length)&&(js.zip fr).all (λp=>decide (N[p.1]?=some p.2/\(p.2,NameKind.free)∈scope.names))&&decide js.Nodup&&
 scope.names.all (λy=>decide (y.2=.free->scope.names.lookup y.1=some .free))
def iN (hs:X.env.scope=sc:=by rfl)(hN:X.N=N:=by rfl)(h:GD sc N scope fr js=true:=by decide+kernel):CompSc X scope own fr js:=by simp only[GD,aAF,aBU,decide_eq_true_eq]at h;obtain⟨⟨⟨⟨⟨⟨⟨h1,h2⟩,h3⟩,h4⟩,h5⟩,h6⟩,h7⟩,h8⟩:=h;subst hs hN;refine⟨h1,h2,h3,h4,h5,λi j x e1 e2=>?_,h7,h8⟩;refine h6 (j,x) (aAr (i:=i) ?_);rw[aBp];exact⟨e1,e2⟩
end DL
namespace DL.Att2
open PySem PySem.W PySem.Calls PyProof.Rows
def attach_bits {l:OpenLaw}{n:Nat}{q:Program}{loose:List Str}{XP:(Str->Option Value)->Heap->Prop}{YP:World->Heap->Prop}{d:DefRec}
  (hn:l.most=some n) (hdf:d.params.defaults=[])
  (call:∀(w:World) (se ah:Shared) (mg mb:V5) (fa:Addr) (o:Obj) (pm cd doc:Value) (a:Addr) (vs:List Value) (ns:List Int),
   Ground q loose [] XP w se mg mb ah.heap->YP w ah.heap->
   ah.heap.get? fa=some o->o.data=.func (docDef d.name d.params d.body d.scope pm cd doc)->ah.heap.CodeRec cd d.name->mg d.name=some (.ref fa)->
   ah.heap.get? a=some {cls:=.type "list",data:=.seq vs.toArray}->IntsAre vs ns->ns.length<=n->(∀x∈ns,aAQ x<=1048576)->ah.gens=#[]->
   codeAny (model l.prog w) callerA (.call (.ref fa) ⟨[.ref a],[]⟩) (λr s'=>r=.ok (.ret (.bool true))/\OldK ah.heap s'.heap/\s'.os=ah.os/\AllBare s'.gens) ah):
  WalkO q loose XP YP l.row.toRowW d [] (λf vs=>PySem.call f vs):=by
 intro w se ah mg mb G Y fa o pm cd doc dV kV ho hd gc hD jl hg args vals as yr hlay hrd uc hlo;obtain rfl:dV=.none:=Dflts.none hD hdf;obtain rfl:kV=.none:=Dflts.noKw hD;obtain⟨a,vs,ns,rfl,rfl,hobj,hints,hlen⟩:=Att.script_of hn yr uc;have hb:=DL.vY (ns:=ns) (by first|exact hlay|exact hlay.1|(simpa using hlay));refine enter_call (aDc (call w se ah mg mb fa o pm cd doc a vs ns G Y ho (fd_plain hd) gc jl hobj hints hlen hb hg) λr s' hq=>?_);obtain⟨rfl,h2,h3,h4⟩:=hq;exact⟨.inl ⟨.bool true,.bool true,[],rfl,λ_=>rfl,.bool true,Att.post_true l _,λ_=>⟨aGh,λ_ hm=>(nomatch hm)⟩⟩,h2,h3,h4⟩
end DL.Att2
namespace DL
open PySem PySem.Spec L2
open PyProof.Rows hiding St
variable [Tabs]
end DL
namespace DL
open PySem L2
def qx {α:Type}(x y z:α):fW [x,y,z] 0=some x:=rfl
def qy {α:Type}(x y z:α):fW [x,y,z] 1=some y:=rfl
def iz {α:Type}(x y z:α):fW [x,y,z] 2=some z:=rfl
def jy {α:Type}(x y z t:α):fW [x,y,z,t] 0=some x:=rfl
def pk {α:Type}(x y z t:α):fW [x,y,z,t] 1=some y:=rfl
def jk {α:Type}(x y z t:α):fW [x,y,z,t] 2=some z:=rfl
def mz {α:Type}(x y z t:α):fW [x,y,z,t] 3=some t:=rfl
abbrev bits (a:Int):Nat:=aAQ a
def i7 (h:p6 a b):nD (.int a) (.int b)=.ok (.int (a*b)):=if_pos h
def bV (h:uN b):Q5 (.int a) (.int b)=.ok (.int (a.fdiv b)):=if_pos h
def vV (h:b≠0):aX (.int a) (.int b)=.ok (.int (a.fmod b)):=if_pos h
def p6.of (h1:bits a<=m)(h2:bits b<=n)(hm:m<=60000000:=by decide)(hn:n<=60000000:=by decide):p6 a b:=⟨aAx h1 hm,aAx h2 hn⟩
def bits_add (h1:bits a<=n)(h2:bits b<=n):bits (a+b)<=n+1:=by have:=PyProof.Rows.bits_add h1 h2;rw[Nat.max_self]at this;exact this
def bits_sub (h1:bits a<=n)(h2:bits b<=n):bits (a-b)<=n+1:=by have:=PyProof.Rows.bits_sub h1 h2;rw[Nat.max_self]at this;exact this
def bits_mul (h1:bits a<=m)(h2:bits b<=n):bits (a*b)<=m+n:=PyProof.Rows.bits_mul h1 h2
def bits_neg (h1:bits a<=m):bits (-a)<=m:=PyProof.Rows.bits_neg h1
def zG (h:a.natAbs<2^n):bits a<=n:=PyProof.Rows.intBits_le h
def AX (h:bits a<=n):a.natAbs<2^n:=PyProof.Rows.lt_pow_of_bits h (aAg n)
@[simp]def cK (d:D)(ρ:Ev):aT 0 (Sl.v d::ρ)=.ok d:=rfl
@[simp]def jJ (i:Nat)(x:Sl)(ρ:Ev):aT (i+1) (x::ρ)=aT i ρ:=rfl
@[simp]def tR (d:D)(ρ:Ev):uV 0 (Sl.v d::ρ)=.ok d:=rfl
@[simp]def xA (d:List D)(ρ:Ev):uV 0 (Sl.o d::ρ)=.ok (.lst d):=rfl
@[simp]def mH (i:Nat)(x:Sl)(ρ:Ev):uV (i+1) (x::ρ)=uV i ρ:=rfl
@[simp]def qS (d:D)(ρ:Ev):NG d ρ=.ok d:=rfl
@[simp]def A9 (ρ:Ev)(F:Ev->R Out):B5 (.ok (.nx ρ)) F=F ρ:=rfl
@[simp]def WX (d:D)(F:Ev->R Out):B5 (.ok (.rt d)) F=.ok (.rt d):=rfl
@[simp]def VU (ρ:Ev)(F:Ev->R Out):B5 (.ok (.bk ρ)) F=.ok (.bk ρ):=rfl
@[simp]def VI (ρ:Ev)(F:Ev->R Out):B5 (.ok (.ct ρ)) F=.ok (.ct ρ):=rfl
@[simp]def WU (e:Str)(F:Ev->R Out):B5 (.ex e) F=.ex e:=rfl
@[simp]def YE (d:D):N4 (.ok (.rt d))=.ok d:=rfl
@[simp]def YC (ρ:Ev):N4 (.ok (.nx ρ))=.ok .non:=rfl
@[simp]def XU (e:Str):N4 (.ex e)=.ex e:=rfl
@[simp]def bI (f:Ev->R D)(g:Ev->R (List D))(ρ:Ev):p5 f g ρ=(f ρ).bind λd=>(g ρ).bind λds=>.ok (d::ds):=rfl
@[simp]def fH (ρ:Ev):U5 ρ=.ok []:=rfl
@[simp]def rj (a:D):nK [a]=.ok (.tup [a]):=rfl
@[simp]def gz (a b:D):nK [a,b]=.ok (.tup [a,b]):=rfl
@[simp]def qk (a b c:D):nK [a,b,c]=.ok (.tup [a,b,c]):=rfl
@[simp]def iq (a b c d:D):nK [a,b,c,d]=.ok (.tup [a,b,c,d]):=rfl
@[simp]def jz:aM []=.ok (.lst []):=rfl
@[simp]def qz (a:D):aM [a]=.ok (.lst [a]):=rfl
@[simp]def oj (a b:D):aM [a,b]=.ok (.lst [a,b]):=rfl
@[simp]def gx (a b c:D):aM [a,b,c]=.ok (.lst [a,b,c]):=rfl
@[simp]def rz (a b c d:D):aM [a,b,c,d]=.ok (.lst [a,b,c,d]):=rfl
@[simp]def pj (a b c d e:D):aM [a,b,c,d,e]=.ok (.lst [a,b,c,d,e]):=rfl
@[simp]def nq (x y z:D):O9 (.tup [x,y,z]) (.int 0)=.ok x:=rfl
@[simp]def pz (x y z:D):O9 (.tup [x,y,z]) (.int 1)=.ok y:=rfl
@[simp]def kq (x y z:D):O9 (.tup [x,y,z]) (.int 2)=.ok z:=rfl
@[simp]def ij (x y z t:D):O9 (.tup [x,y,z,t]) (.int 0)=.ok x:=rfl
@[simp]def mj (x y z t:D):O9 (.tup [x,y,z,t]) (.int 1)=.ok y:=rfl
@[simp]def ik (x y z t:D):O9 (.tup [x,y,z,t]) (.int 2)=.ok z:=rfl
@[simp]def jx (x y z t:D):O9 (.tup [x,y,z,t]) (.int 3)=.ok t:=rfl
@[simp]def ZZ (x y z:D):O9 (.lst [x,y,z]) (.int 0)=.ok x:=rfl
@[simp]def ZI (x y z:D):O9 (.lst [x,y,z]) (.int 1)=.ok y:=rfl
@[simp]def ZG (x y z:D):O9 (.lst [x,y,z]) (.int 2)=.ok z:=rfl
@[simp]def ZN (x y z t:D):O9 (.lst [x,y,z,t]) (.int 0)=.ok x:=rfl
@[simp]def ZY (x y z t:D):O9 (.lst [x,y,z,t]) (.int 1)=.ok y:=rfl
@[simp]def fy (x y z t:D):O9 (.lst [x,y,z,t]) (.int 2)=.ok z:=rfl
@[simp]def fq (x y z t:D):O9 (.lst [x,y,z,t]) (.int 3)=.ok t:=rfl
@[simp]def qw (x y:D):O9 (.tup [x,y]) (.int 0)=.ok x:=rfl
@[simp]def qj (x y:D):O9 (.tup [x,y]) (.int 1)=.ok y:=rfl
def fY (h:fW xs i=some d):O9 (.lst xs) (.int i)=.ok d:=by simp only[O9,h]
def GM {xs:List D}{i:Int}{d:D}(h:fW xs i=some d):O9 (.tup xs) (.int i)=.ok d:=by simp only[O9,h]
@[simp]def KT (a b:Int):jY (.int a) (.int b)=.ok (.int (a+b)):=rfl
@[simp]def eZ (a b:Int):vX (.int a) (.int b)=.ok (.int (a-b)):=rfl
@[simp]def az (a b:Int):YM (.int a) (.int b)=.ok (.bl (decide (a<b))):=rfl
@[simp]def xZ (a b:Int):XQ (.int a) (.int b)=.ok (.bl (decide (a<=b))):=rfl
@[simp]def rN (a b:Int):UM (.int a) (.int b)=.ok (.bl (decide (b<a))):=rfl
@[simp]def aw (a b:Int):uq (.int a) (.int b)=.ok (.bl (decide (b<=a))):=rfl
@[simp]def gj (a:Int):VB (.int a)=.ok (.int (-a)):=rfl
@[simp]def AS (b:Bool):wA (.bl b)=.ok b:=rfl
@[simp]def sk (b:Int):kz (.int b)=.ok (some b):=rfl
@[simp]def qK (xs:List D):GW [.lst xs]=.ok (.int xs.length):=rfl
@[simp]def ZF (xs:List D):GW [.tup xs]=.ok (.int xs.length):=rfl
@[simp]def SL (a:Int):WR [.int a]=.ok (.int (if a<0 then-a else a)):=rfl
@[simp]def MZ (a b:Int):OS [.int a,.int b]=.ok (.int (if b>a then b else a)):=rfl
@[simp]def KS (a b:Int):OR [.int a,.int b]=.ok (.int (if b<a then b else a)):=rfl
@[simp]def YV (a:Int):WM [.int a]=.ok (.int a):=rfl
@[simp]def ZW (a:Bool):WM [.bl a]=.ok (.int (if a then 1 else 0)):=rfl
@[simp]def WS (xs:List D):rQ [.lst xs]=.ok (.tup xs):=rfl
@[simp]def WA (xs:List D):rQ [.tup xs]=.ok (.tup xs):=rfl
@[simp]def YK (xs:List D):sS [.lst xs]=.ok (.lst xs):=rfl
@[simp]def YH (xs:List D):sS [.tup xs]=.ok (.lst xs):=rfl
@[simp]def rX (f g:Ev->R Bool)(ρ:Ev):SF f g ρ=(f ρ).bind λb=>if b=true then g ρ else .ok false:=rfl
@[simp]def ZR (f g:Ev->R Bool)(ρ:Ev):jw f g ρ=(f ρ).bind λb=>if b=true then .ok true else g ρ:=rfl
@[simp]def YA (f:Ev->R Bool)(ρ:Ev):WI f ρ=(f ρ).bind λb=>.ok (!b):=rfl
@[simp]def YF (f g:Ev->R D)(ρ:Ev):ZB f g ρ=((f ρ).bind wA).bind λb=>if b=true then g ρ else .ok (.bl false):=rfl
@[simp]def cq (f g:Ev->R D)(ρ:Ev):tw f g ρ=((f ρ).bind wA).bind λb=>if b=true then .ok (.bl true)else g ρ:=rfl
@[simp]def YN (f:Ev->R D)(ρ:Ev):fj f ρ=((f ρ).bind wA).bind λb=>.ok (.bl (!b)):=rfl
@[simp]def YL (c:Ev->R Bool)(f g:Ev->R D)(ρ:Ev):gk c f g ρ=(c ρ).bind λb=>if b=true then f ρ else g ρ:=rfl
@[simp]def fx (a b:Int):FN (.int a) (.int b)=.ok (.bl (a==b)):=by simp only[FN,E6,u0];rfl
@[simp]def SQ (a b:Int):EJ (.int a) (.int b)=.ok (.bl (!(a==b))):=by simp only[EJ,E6,u0];rfl
@[simp]def RP (a b c d e f:Int):FN (.tup [.int a,.int b,.int c]) (.tup [.int d,.int e,.int f])=.ok (.bl (a==d&&(b==e&&c==f))):=by simp[FN,E6,G3,u0,R3]
@[simp]def yO (a b c d e f:Int):EJ (.tup [.int a,.int b,.int c]) (.tup [.int d,.int e,.int f])=.ok (.bl (!(a==d&&(b==e&&c==f)))):=by simp[EJ,E6,G3,u0,R3]
@[simp]def UH (a:Int):DI "int" (.int a)=true:=rfl
@[simp]def RA (a:Int):DI "bool" (.int a)=false:=rfl
@[simp]def PL (a:List D):DI "tuple" (.tup a)=true:=rfl
@[simp]def TL (a:List D):DI "list" (.lst a)=true:=rfl
@[simp]def OO (a:List D):DI "tuple" (.lst a)=false:=rfl
@[simp]def TK (a:List D):DI "list" (.tup a)=false:=rfl
def dS {α:Type}{xs:List α}{k:Int}(h0:0<=k):fW xs k=xs[k.toNat]?:=by
 unfold fW ON;rw[if_pos h0];by_cases h:k<xs.length
 ·rw[if_pos h];rfl
 ·rw[if_neg h,aCb.mpr (by omega)];rfl
def lG (n:Nat)(xs:List D):Prop:=∀x∈xs,∃i,x=.int i/\bits i<=n
def NA {n:Nat}{ns:List Int}(h:∀x∈ns,bits x<=n):lG n (ns.map D.int):=λx hx=>by obtain⟨i,hi,rfl⟩:=aAp.mp hx;exact⟨i,rfl,h i hi⟩
def nW (g:Int->Int)(xs:List D)(k:Int):D:=match xs[k.toNat]? with
 |some d=>d
 |none=>.int (g k)
def CT (h:lG n xs)(g:Int->Int)(k:Int):∃i,nW g xs k=.int i/\(bits i<=n\/i=g k):=by
 unfold nW;cases e:xs[k.toNat]? with
 |none=>exact⟨_,rfl,.inr rfl⟩
 |some d=>obtain⟨i,rfl,hb⟩:=h d (aAr e);exact⟨i,rfl,.inl hb⟩
def q8 (h1:-((2:Int)^n)<a)(h2:a<(2:Int)^n):bits a<=n:=zG (by
 have e:((2^n:Nat):Int)=(2:Int)^n:=by simp
 omega)
def bits_fdiv (ha:bits a<=n):bits (a.fdiv b)<=n:=PyProof.Rows.bits_fdiv ha
def X0 (h:bits a<=m)(hm:m<=n:=by decide):bits a<=n:=aAx h hm
@[simp]def uj:W9 [.int 3]=.ok [.int 0,.int 1,.int 2]:=rfl
@[simp]def iy:W9 [.int 3,.int 6]=.ok [.int 3,.int 4,.int 5]:=rfl
@[simp]def yk:W9 [.int 4]=.ok [.int 0,.int 1,.int 2,.int 3]:=rfl
@[simp]def xq:W9 [.int 9]=.ok [.int 0,.int 1,.int 2,.int 3,.int 4,.int 5,.int 6,.int 7,.int 8]:=rfl
@[simp]def nw:W9 [.int 12]=.ok [.int 0,.int 1,.int 2,.int 3,.int 4,.int 5,.int 6,.int 7,.int 8,.int 9,.int 10,.int 11]:=rfl
@[simp]def US (xs:List D):kD (.lst xs)=.ok xs:=rfl
@[simp]def BR (xs:List D):AR (.tup xs)=.ok xs:=rfl
def UQ:y7 G ft fe ρ []=.ok []:=rfl
@[simp]def SH (G:D->Ev->R Ev)(ft:Ev->R Bool)(fe:Ev->R D)(ρ:Ev):y7 G ft fe ρ []=.ok []:=rfl
@[simp]def TV (i:Nat)(fe:Ev->R D)(ρ:Ev)(d:D)(ds:List D):y7 (λd ρ=>.ok (ρ.set i (Sl.v d))) (λ_=>.ok true) fe ρ (d::ds)=(fe (ρ.set i (Sl.v d))).bind λr=>(y7 (λd ρ=>.ok (ρ.set i (Sl.v d))) (λ_=>.ok true) fe ρ ds).bind λrs=>.ok (r::rs):=rfl
@[simp]def TM (i:Nat)(ft:Ev->R Bool)(fe:Ev->R D)(ρ:Ev)(d:D)(ds:List D):y7 (λd ρ=>.ok (ρ.set i (Sl.v d))) ft fe ρ (d::ds)=(ft (ρ.set i (Sl.v d))).bind λb=>if b=true then(fe (ρ.set i (Sl.v d))).bind λr=>(y7 (λd ρ=>.ok (ρ.set i (Sl.v d))) ft fe ρ ds).bind λrs=>.ok (r::rs)else y7 (λd ρ=>.ok (ρ.set i (Sl.v d))) ft fe ρ ds:=rfl
@[simp]def YJ (d:D):seen (.v d)=.v d:=rfl
end DL
namespace DL
open PySem L2
def VZ (x:D)(r:List D):O9 (.tup (x::r)) (.int 0)=.ok x:=GM (by rw[dS (by decide)];rfl)
def XC (x y:D)(r:List D):O9 (.tup (x::y::r)) (.int 1)=.ok y:=GM (by rw[dS (by decide)];rfl)
def VN (x y z:D)(r:List D):O9 (.tup (x::y::z::r)) (.int 2)=.ok z:=GM (by rw[dS (by decide)];rfl)
theorem dQ (Iv:Nat->Ev->Prop)(ht:∀n ρ,Iv (n+1) ρ->c ρ=.ok false\/(c ρ=.ok true/\∃ρ2,F ρ=.ok (.nx ρ2)/\Iv n ρ2))(h00:∀ρ,¬Iv 0 ρ):∀n ρ,Iv n ρ->∃m av,P6 c F n ρ=.ok (.nx av)/\Iv m av/\c av=.ok false
 |0,ρ,h=>absurd h (h00 ρ)
 |n+1,ρ,h=>by
  rcases ht n ρ h with e|⟨e,ρ2,e2,h2⟩
  ·exact⟨n+1,ρ,by rw[P6,e];rfl,h,e⟩
  ·obtain⟨m,av,e3,h3,h4⟩:=dQ Iv ht h00 n ρ2 h2;exact⟨m,av,by rw[P6,e];simp only[R.aa0,if_true,e2];exact e3,h3,h4⟩
def DT {Iv:Nat->Ev->Prop}(ht:∀n ρ,Iv (n+1) ρ->c ρ=.ok false\/(c ρ=.ok true/\∃ρ2,F ρ=.ok (.nx ρ2)/\Iv n ρ2))(h0:Iv n ρ)(h2:∀n av,Iv n av->c av=.ok false->N4 (F2 av)=.ok d)(h00:∀ρ,¬Iv 0 ρ:=by(intro ρ;rintro⟨x,y,_,z,_⟩;omega)):
  N4 (B5 (P6 c F n ρ) F2)=.ok d:=by
 obtain⟨m,av,e,h,hc⟩:=dQ Iv ht h00 n ρ h0;rw[e];exact h2 m av h hc
end DL
namespace DL
open PySem PySem.Spec L2
open PyProof.Rows hiding St
variable [Tabs]
section
variable{K:PySem.W.Frag}
def EnvOk.af2 (E:EnvOk K Ha O0 H O σ ρ)(i:Nat)(h:H a=none)(hk:K.lookup a=none)(r:Reps K H O vs xs):
  EnvOk K Ha O0 (upd H a (.lst vs)) (λb=>O b\/b=a) (σ.set i (some (.ref a))) (ρ.set i (.o xs)):=
 E.ad9 i h hk trivial λh0=>⟨a,vs,rfl,.inr rfl,h0,i4,r.ab9 h hk⟩
def EnvOk.disown (E:EnvOk K Ha O0 H O σ ρ)(e:ρ[i]?=some (.o xs)):∃O',EnvOk K Ha O0 H O' σ (ρ.set i (.v (.lst xs)))/\(∀b,O' b->O b):=by obtain⟨a,vs,h1,h2,h3,h4,h5⟩:=E.own i xs e;exact⟨λb=>O b/\b≠a,E.ae1 e trivial h1 (λz=>z) ⟨.ref a,rfl,.lst (N1.of h4) (λz=>z.2 rfl) (h5.sub λ_ z=>z.1)⟩,λb z=>z.1⟩
def EnvOk.write (E:EnvOk K Ha O0 H O σ ρ)(e:ρ[i]?=some (.o xs))(h1:σ[i]?=some (some (V.ref a)))(r:Reps K H O ja ud):
  EnvOk K Ha O0 (upd H a (.lst ja)) O σ (ρ.set i (.o ud))/\Kp H O (upd H a (.lst ja)) O:=by
 obtain⟨a',vs,p1,h2,h3,h4,h5⟩:=E.own i xs e;have ea:a'=a:=by rw[p1]at h1;cases h1;rfl
 subst ea;exact E.ad7 e trivial h1 h4 trivial trivial λ_ _ _=>⟨a',ja,rfl,h2,h3,i4,r.upd h4 trivial h2⟩
end
section
def tF (X:Cx)(f:Ev->R (List D)):TE:=λσ H Q=>∃Ha O0 O ρ,EnvOk X.K Ha O0 H O σ ρ/\match f ρ with
 |.ok ds=>∀vs H1 a,Same H H1->H1 a=none->Reps X.K H1 O vs ds->Q (.ref a) (upd H1 a<|.lst vs)
 |.ex e=>∀H',Same H H'->XW X e H'
 |.bad=>False
def PF (X:Cx)(e:Expr)(f:Ev->R (List D)):Prop:=PE X e (tF X f)
def OV (I:Inv X pins σ H s)(h:H a=some o):X.K.lookup a=none:=by
 cases e:X.K.lookup a with
 |none=>rfl
 |some ob=>have:=(I.bs a ob<|I.ok.mod.kin a ob e).2;rw[h]at this;cases this
def PF.pd (h:PF X e f):PD X e (λρ=>(f ρ).bind λds=>.ok (.lst ds)):=NX h λσ H Q Ha O0 O ρ E q=>⟨Ha,O0,O,ρ,E,by
 dsimp only at q;cases e1:f ρ with
 |ok ds=>rw[e1]at q;intro vs H1 a s1 ha r;exact q _ _ (s1.trans<|i5 ha _) (.lst (N1.of i4) ((E.grow s1).fresh ha) (r.same<|i5 ha _))
 |ex x=>rw[e1]at q;exact q
 |bad=>rw[e1]at q;exact q⟩
def dU (h:xU X es f):PF X (.List es pos) (λρ=>(f ρ).bind λds=>if ds.length<=sizeLine then .ok ds else .bad):=
 NX (JI h) λσ H Q Ha O0 O ρ E q=>⟨Ha,O0,O,ρ,E,by
  dsimp only at q;cases e1:f ρ with
  |ok ds=>
   rw[e1,R.aa0]at q;intro vs H1 s1 r1;by_cases hz:ds.length<=sizeLine
   ·rw[if_pos hz]at q;exact⟨by rw[r1.length];exact hz,λp hp=>q vs H1 p s1 hp r1⟩
   ·rw[if_neg hz]at q;exact aAh q
  |ex x=>rw[e1]at q;exact q
  |bad=>rw[e1]at q;exact q⟩
def fM (i:Nat)(he:PF X e f)(hN:X.N.Nodup)(hi:X.N[i]?=some x:=by rfl)(hx:Loc X.env.scope x:=by first|exact aCt rfl|exact aBy rfl)(hs:swapsWith e (some (.Name x pos')) pos.line X.env=pure false:=by rfl)(hf:X.fn x=true\/X.env.scope.names.lookup x=some .local:=by first|exact .inl rfl|exact .inr rfl|assumption):
  nJ X (.Assign [.Name x pos'] e pos) (λρ=>(f ρ).bind λds=>.ok (.nx (ρ.set i (.o ds)))):=by
 intro Ha O0 pins s σ H D I ⟨O,ρ,E,fk,q⟩;dsimp only at q;refine aEM (C4 (he pins s σ H (λv H2=>∃vs H1 a ds,v=.ref a/\H2=upd H1 a (.lst vs)/\Same H H1/\H1 a=none/\Reps X.K H1 O vs ds/\RS X Ha O0 H O (.ok (.nx (ρ.set i<|.o ds))) D) I ⟨Ha,O0,O,ρ,E,?_⟩) λv s1 ⟨y,H2,I2,r2,vs,H1,a,ds,e1,e2,s1',ha,r,q'⟩=>?_) hs
 ·cases e1:f ρ with
  |ok ds=>rw[e1,R.aa0]at q;exactλvs H1 a s1 ha r=>⟨vs,H1,a,ds,rfl,rfl,s1,ha,r,q⟩
  |ex x=>rw[e1]at q;exactλH' s=>q H' (E.same.trans s)
  |bad=>rw[e1]at q;exact q
 ·subst e1 e2;refine S7 I2 hN hi hx r2 (λs3 I3=>⟨_,_,I3,?_⟩) hf;have hk:=OV I2 (i4 (H:=H1) (a:=a) (o:=.lst vs));have E2:=(E.grow s1').af2 i ha hk r;refine q' _ _ _ E2 (pU I2 _ E2.trk) ?_;exactλb o hb n=>⟨by rw[j7 (t8 (s1' b o hb) ha)];exact s1' b o hb,λz=>z.elim n (t8 (s1' b o hb) ha)⟩
def TW (i:Nat)(ρ:Ev):Ev:=match ρ[i]? with
 |some (.o xs)=>ρ.set i (.v (.lst xs))
 |_=>ρ
def AI (i:Nat){st:Stmt}(h:nJ X st F):nJ X st (λρ=>F (TW i ρ)):=by
 intro Ha O0 pins s σ H D I ⟨O,ρ,E,fk,q⟩;dsimp only at q;unfold TW at q;cases e:ρ[i]? with
 |none=>rw[e]at q;exact h Ha O0 pins s σ H D I ⟨O,ρ,E,fk,q⟩
 |some sl=>
  rw[e]at q;cases sl with
  |x C=>exact h Ha O0 pins s σ H D I ⟨O,ρ,E,fk,q⟩
  |c m φ=>exact h Ha O0 pins s σ H D I ⟨O,ρ,E,fk,q⟩
  |d kvs=>exact h Ha O0 pins s σ H D I ⟨O,ρ,E,fk,q⟩
  |no=>exact h Ha O0 pins s σ H D I ⟨O,ρ,E,fk,q⟩
  |v d=>exact h Ha O0 pins s σ H D I ⟨O,ρ,E,fk,q⟩
  |o xs=>obtain⟨O',E',sub⟩:=E.disown e;exact h Ha O0 pins s σ H D I ⟨O',_,E',λa o hk z=>fk a o hk (sub a z),RS.grow q λb o hb n=>⟨hb,λz=>n (sub b z)⟩⟩
def mW (i:Nat)(ρ:Ev)(d:D):R Out:=match ρ[i]? with
 |some (.o xs)=>if xs.length<sizeLine then .ok (.nx (ρ.set i<|.o (xs++[d])))else .bad
 |_=>.bad
def aF (i:Nat)(he:PD X e f)(hN:X.N[i]?=some x:=by rfl)(hv:sD X.env.scope x:=by first|exact aCt rfl|exact aBy (aCt rfl)|exact aBy (aBy rfl))(hd:(x==("__debug__":Str))=false:=by decide)(gc:(x==("__classdict__":Str))=false:=by decide)(ie:attributeBase (.Name x p) "append" X.env (eval (.Name x p) X.env)=eval (.Name x p) X.env:=by rfl)(wg:((backTo bp (starEach [e] X.env)).all (λx=>!x.1)&&(backToKw bp (keywordEach [] X.env)).all (λx=>x.1.isSome)
   &&decide ([e].length+([]:List Keyword).length+(if([]:List Keyword).isEmpty then 0 else 1)<30))=true:=by rfl) (fm:(apos.endLine==bp.line)=true:=by rfl) (hs:starEach [e] X.env=(false,eval e X.env)::starEach [] X.env:=by rfl) (kh:(backTo bp (starEach [] X.env)).any (·.1)=false:=by rfl) (za:swapsWith (.Call (.Attribute (.Name x p) "append" apos) [e] [] bp) none pos.line X.env=pure false:=by rfl):
  nJ X (.Expr (.Call (.Attribute (.Name x p) "append" apos) [e] [] bp) pos) (λρ=>(f ρ).bind (mW i ρ)):=λHa O0=>
 CM (kC (PJ PySem.F.plainAttrs_list PySem.F.slot_list_append PySem.F.type_list_append oD (O7 hN hv hd gc) (c9 he j4 hs) ie wg fm hs kh) za) λD σ H O ρ E fk q=>by
 cases e1:f ρ with
 |ok d=>
  rw[e1,R.aa0]at q;unfold mW at q;cases e2:ρ[i]? with
  |none=>rw[e2]at q;exact aAh q
  |some sl=>
   rw[e2]at q;cases sl with
   |x C=>exact aAh q
   |c m φ=>exact aAh q
   |d kvs=>exact aAh q
   |no=>exact aAh q
   |v d=>exact aAh q
   |o xs=>
    dsimp only at q;split at q
    ·rename_i hz;obtain⟨a,vs,h1,h2,h3,h4,h5⟩:=E.own i xs e2;refine⟨_,h1,.inl ⟨rfl,vs,N1.of h4⟩,Ha,O0,O,ρ,E,?_⟩;show DJ X H O ((f ρ).bind λd=>(R.ok []).bind λds=>.ok (d::ds)) _;rw[e1];intro us H1 s1 r1;cases r1 with
     |cons r1 rn=>cases rn;have E1:=E.grow s1;refine⟨a,vs,_,rfl,rfl,s1 _ _ h4,by rw[h5.length];exact hz,?_⟩;obtain⟨E2,k2⟩:=E1.write e2 h1 ((h5.same s1).snoc r1);exact q σ _ O E2 fk ((Kp.of s1).trans k2)
    ·exact aAh q
 |ex x=>
  rw[e1]at q;cases e2:ρ[i]? with
  |none=>exact(q H E.same).elim
  |some sl=>exact(q H E.same).elim
 |bad=>rw[e1]at q;exact aAh q
def QS (i:Nat)(ρ:Ev)(d:D):R Out:=match ρ[i]?,d with
 |some (.o xs),.lst ys=>if xs.length+ys.length<=sizeLine then .ok (.nx (ρ.set i<|.o (xs++ys)))else .bad
 |_,_=>.bad
def wQ (i:Nat)(ρ:Ev):R (D×Ev):=match ρ[i]? with
 |some (.o xs)=>match xs[xs.length-1]? with
  |some d=>.ok (d,ρ.set i (.o xs.dropLast))
  |none=>.bad
 |_=>.bad
def MQ (i:Nat)(hN:X.N[i]?=some x:=by rfl)(hv:sD X.env.scope x:=by first|exact aCt rfl|exact aBy (aCt rfl)|exact aBy (aBy rfl))(hd:(x==("__debug__":Str))=false:=by decide)(gc:(x==("__classdict__":Str))=false:=by decide)(ie:attributeBase (.Name x p) "pop" X.env (eval (.Name x p) X.env)=eval (.Name x p) X.env:=by rfl)(fm:(apos.endLine==bp.line)=true:=by rfl)(za:swapsWith (.Call (.Attribute (.Name x p) "pop" apos) [] [] bp) none pos.line X.env=pure false:=by rfl):
  nJ X (.Expr (.Call (.Attribute (.Name x p) "pop" apos) [] [] bp) pos) (λρ=>(wQ i ρ).bind λz=>.ok (.nx z.2)):=λHa O0=>
 CM (kC (ES PySem.F.plainAttrs_list PySem.F.slot_list_pop PySem.F.type_list_pop KI (O7 hN hv hd gc) ie fm) za) λD σ H O ρ E fk q=>by
 unfold wQ at q;cases e2:ρ[i]? with
 |none=>rw[e2]at q;exact aAh q
 |some sl=>
  rw[e2]at q;cases sl with
  |x C=>exact aAh q
  |c m φ=>exact aAh q
  |d kvs=>exact aAh q
  |no=>exact aAh q
  |v d=>exact aAh q
  |o xs=>
   dsimp only at q;cases e3:xs[xs.length-1]? with
   |none=>rw[e3]at q;exact aAh q
   |some d=>rw[e3]at q;obtain⟨a,vs,h1,h2,h3,h4,h5⟩:=E.own i xs e2;obtain⟨v,g1,g2⟩:=h5.get e3;refine⟨_,h1,.inl ⟨rfl,vs,N1.of h4⟩,a,vs,v,rfl,rfl,h4,by rw[h5.length];exact g1,?_⟩;obtain⟨E2,k2⟩:=E.write e2 h1 h5.dropLast;exact q σ _ O E2 fk k2
def wK (j i:Nat)(hND:X.N.Nodup)(ml:i≠j:=by decide)(hN:X.N[i]?=some x:=by rfl)(hy:X.N[j]?=some y:=by rfl)(hv:sD X.env.scope x:=by first|exact aCt rfl|exact aBy (aCt rfl)|exact aBy (aBy rfl))(hd:(x==("__debug__":Str))=false:=by decide)(gc:(x==("__classdict__":Str))=false:=by decide)(ie:attributeBase (.Name x p) "pop" X.env (eval (.Name x p) X.env)=eval (.Name x p) X.env:=by rfl)(fm:(apos.endLine==bp.line)=true:=by rfl)(hly:Loc X.env.scope y:=by first|exact aCt rfl|exact aBy rfl)(za:swapsWith (.Call (.Attribute (.Name x p) "pop" apos) [] [] bp) (some (.Name y py)) pos.line X.env=pure false:=by rfl)(hf:X.fn y=true\/X.env.scope.names.lookup y=some .local:=by first|exact .inl rfl|exact .inr rfl|assumption):
  nJ X (.Assign [.Name y py] (.Call (.Attribute (.Name x p) "pop" apos) [] [] bp) pos) (λρ=>(wQ i ρ).bind λz=>.ok (.nx (z.2.set j (.v z.1)))):=λHa O0=>
 CM (EO hND hy hly (ES PySem.F.plainAttrs_list PySem.F.slot_list_pop PySem.F.type_list_pop KI (O7 hN hv hd gc) ie fm) za hf) λD σ H O ρ E fk q=>by
 unfold wQ at q;cases e2:ρ[i]? with
 |none=>rw[e2]at q;exact aAh q
 |some sl=>
  rw[e2]at q;cases sl with
  |x C=>exact aAh q
  |c m φ=>exact aAh q
  |d kvs=>exact aAh q
  |no=>exact aAh q
  |v d=>exact aAh q
  |o xs=>
   dsimp only at q;cases e3:xs[xs.length-1]? with
   |none=>rw[e3]at q;exact aAh q
   |some d=>rw[e3]at q;obtain⟨a,vs,h1,h2,h3,h4,h5⟩:=E.own i xs e2;obtain⟨v,g1,g2⟩:=h5.get e3;refine⟨_,h1,.inl ⟨rfl,vs,N1.of h4⟩,a,vs,v,rfl,rfl,h4,by rw[h5.length];exact g1,?_⟩;obtain⟨E2,k2⟩:=E.write e2 h1 h5.dropLast;exact q _ _ O (E2.set j<|k2.rep E.trk fk g2) fk k2
def gW {st:Stmt}:nJ X st (λ_=>.bad):=λHa O0=>CM EN λD σ H O ρ E fk q=>q
end
end DL
namespace G
structure V where
 x:Int
 y:Int
 z:Int
deriving DecidableEq
instance:Add V:=⟨λu v=>⟨u.x+v.x,u.y+v.y,u.z+v.z⟩⟩
instance:Sub V:=⟨λu v=>⟨u.x-v.x,u.y-v.y,u.z-v.z⟩⟩
instance:Neg V:=⟨λu=>⟨-u.x,-u.y,-u.z⟩⟩
instance:HMul Int V V:=⟨λk u=>⟨k*u.x,k*u.y,k*u.z⟩⟩
instance:OfNat V 0:=⟨⟨0,0,0⟩⟩
@[simp]def ix (u v:V):(u+v).x=u.x+v.x:=rfl
@[simp]def oq (u v:V):(u+v).y=u.y+v.y:=rfl
@[simp]def nk (u v:V):(u+v).z=u.z+v.z:=rfl
@[simp]def OY (u v:V):(u-v).x=u.x-v.x:=rfl
@[simp]def OM (u v:V):(u-v).y=u.y-v.y:=rfl
@[simp]def PR (u v:V):(u-v).z=u.z-v.z:=rfl
@[simp]def XD (u:V):(-u).x=-u.x:=rfl
@[simp]def WB (u:V):(-u).y=-u.y:=rfl
@[simp]def VG (u:V):(-u).z=-u.z:=rfl
@[simp]def FS (k:Int)(u:V):(k*u).x=k*u.x:=rfl
@[simp]def IP (k:Int)(u:V):(k*u).y=k*u.y:=rfl
@[simp]def KA (k:Int)(u:V):(k*u).z=k*u.z:=rfl
@[simp]def bB:(0:V).x=0:=rfl
@[simp]def aW:(0:V).y=0:=rfl
@[simp]def aS:(0:V).z=0:=rfl
def ext {u v:V}(h1:u.x=v.x)(h2:u.y=v.y)(h3:u.z=v.z):u=v:=by cases u;cases v;simp_all
def kM {u v:V}:u=v↔u.x=v.x/\u.y=v.y/\u.z=v.z:=⟨λh=>by subst h;exact⟨rfl,rfl,rfl⟩,λ⟨a,b,c⟩=>ext a b c⟩
def d8 (u v:V):Int:=u.x*v.x+u.y*v.y+u.z*v.z
def cr (u v:V):V:=⟨u.y*v.z-u.z*v.y,u.z*v.x-u.x*v.z,u.x*v.y-u.y*v.x⟩
def f9 (a u v:V):Int:=d8 a (cr u v)
@[simp]def NF (u v:V):(cr u v).x=u.y*v.z-u.z*v.y:=rfl
@[simp]def MF (u v:V):(cr u v).y=u.z*v.x-u.x*v.z:=rfl
@[simp]def LC (u v:V):(cr u v).z=u.x*v.y-u.y*v.x:=rfl
def BJ (a u v w:V):f9 a u v*w+f9 a v w*u+f9 a w u*v=f9 u v w*a:=by apply ext<;>simp[f9,d8]<;>grind
def PY (f a u v w:V):f9 a u v*d8 f w+f9 a v w*d8 f u+f9 a w u*d8 f v=f9 u v w*d8 f a:=by simp[f9,d8];grind
def j5 (a u v:V):f9 a v u=-f9 a u v:=by simp[f9,d8];grind
def B1 (a u:V):f9 a u u=0:=by simp[f9,d8];grind
def Y0 (a u v w:V):f9 a (u+v) w=f9 a u w+f9 a v w:=by simp[f9,d8];grind
def X1 (a u v w:V):f9 a u (v+w)=f9 a u v+f9 a u w:=by simp[f9,d8];grind
def JW (a u v w:V):f9 a u (v-w)=f9 a u v-f9 a u w:=by simp[f9,d8];grind
def tZ (a:V)(k:Int)(u v:V):f9 a u (k*v)=k*f9 a u v:=by simp[f9,d8];grind
def bE (u v:V):d8 u v=d8 v u:=by simp[d8];grind
def Z1 (f u v:V):d8 f (u+v)=d8 f u+d8 f v:=by simp[d8];grind
def f8 (f u v:V):d8 f (u-v)=d8 f u-d8 f v:=by simp[d8];grind
def u5 (f:V)(k:Int)(v:V):d8 f (k*v)=k*d8 f v:=by simp[d8];grind
def V2 (f:V)(k:Int)(v:V):d8 (k*f) v=k*d8 f v:=by simp[d8];grind
def N8 (f:V):d8 f 0=0:=by simp[d8]
def Q8 (a u v:V):d8 (cr a u) v=f9 a u v:=by simp[f9,d8];grind
def B8 {u:V}(h:u≠0):0<d8 u u:=by
 have h1:u.x≠0\/u.y≠0\/u.z≠0:=by
  by_cases a:u.x=0
  ·by_cases b:u.y=0
   ·by_cases c:u.z=0
    ·exact absurd (ext a b c) h
    ·exact .inr (.inr c)
   ·exact .inr (.inl b)
  ·exact .inl a
 have sq:∀t:Int,0<=t*t:=λt=>by
  rcases Int.le_total 0 t with q|q
  ·exact aDP q q
  ·have:=aDP (aEP q) (aEP q);rwa [aFq]at this
 have sqp:∀t:Int,t≠0->0<t*t:=λt ht=>by
  have:=sq t;have:t*t≠0:=λz=>by rcases aAI.mp z with q|q<;>exact ht q
  omega
 have a:=sq u.x;have b:=sq u.y;have c:=sq u.z;unfold d8;rcases h1 with q|q|q
 ·have:=sqp _ q;omega
 ·have:=sqp _ q;omega
 ·have:=sqp _ q;omega
def C6 (h:n≠0)(hu:d8 n u=0)(hv:d8 n v=0)(hw:d8 n w=0):f9 u v w=0:=by
 have e:f9 u v w*d8 n n=0:=by have:=PY n n u v w;rw[hu,hv,hw]at this;simp at this;omega
 rcases aAI.mp e with q|q
 ·exact q
 ·have:=B8 h;omega
end G
namespace G
def t9 (v:V):(0:Int)*v=0:=ext (by simp) (by simp) (by simp)
def lN (v:V):v+0=v:=ext (by simp) (by simp) (by simp)
def cZ (v:V):0+v=v:=ext (by simp) (by simp) (by simp)
structure Cone (Pos:V->Prop):Prop where
 add:∀{u v},Pos u->Pos v->Pos (u+v)
 mul:∀{k:Int} {u},0<k->Pos u->Pos (k*u)
 irr:¬Pos 0
section
variable{Pos:V->Prop} (C:Cone Pos)
include C
theorem Cone.comb {p q:Int}{u w:V}(hp:0<p)(hq:0<=q)(hw:Pos w)(hu:Pos u):Pos (p*w+q*u):=by
 by_cases h:q=0
 ·subst h;rw[t9,lN];exact C.mul hp hw
 ·exact C.add (C.mul hp hw) (C.mul (by lia) hu)
theorem Cone.sgn {k:Int}{v:V}(hv:Pos v)(h:Pos (k*v)):0<k:=by
 by_cases hk:0<k
 ·exact hk
 ·exfalso;by_cases h0:k=0
  ·subst h0;rw[t9]at h;exact C.irr h
  ·have h1:=C.add h (C.mul (k:=-k) (by lia) hv);have e:k*v+-k*v=0:=ext (by simp;grind) (by simp;grind) (by simp;grind);rw[e]at h1;exact C.irr h1
theorem Cone.tr {a u v w:V}(hu:Pos u)(hv:Pos v)(hw:Pos w)(hf:f9 u v w=0)(h1:0<f9 a u v)(h2:0<=f9 a v w):0<f9 a u w:=by
 refine C.sgn hv (k:=f9 a u w) ?_;have e:f9 a u w*v=f9 a u v*w+f9 a v w*u:=by have h:=BJ a u v w;rw[hf,t9,j5 a u w]at h;have hx:=congrArg V.x h;have hy:=congrArg V.y h;have hz:=congrArg V.z h;simp at hx hy hz;exact ext (by simp;grind) (by simp;grind) (by simp;grind)
 rw[e];exact C.comb h1 h2 hw hu
theorem Cone.tr' {a u v w:V}(hu:Pos u)(hv:Pos v)(hw:Pos w)(hf:f9 u v w=0)(h1:0<=f9 a u v)(h2:0<f9 a v w):0<f9 a u w:=by
 refine C.sgn hv (k:=f9 a u w) ?_;have e:f9 a u w*v=f9 a v w*u+f9 a u v*w:=by have h:=BJ a u v w;rw[hf,t9,j5 a u w]at h;have hx:=congrArg V.x h;have hy:=congrArg V.y h;have hz:=congrArg V.z h;simp at hx hy hz;exact ext (by simp;grind) (by simp;grind) (by simp;grind)
 rw[e];exact C.comb h2 h1 hu hw
end
structure ConeM (a:V)(Pos:V->Prop):Prop extends Cone Pos where
 inv:∀{u} (k:Int),Pos u->Pos (u+k*a)
def ConeM.tr {a:V}{Pos:V->Prop}(C:ConeM a Pos){u v w:V}(hu:Pos u)(hv:Pos v)(hw:Pos w)(h1:0<f9 a u v)(h2:0<=f9 a v w):0<f9 a u w:=by
 refine C.sgn hv (k:=f9 a u w) ?_;have e:f9 a u w*v=(f9 a u v*w+f9 a v w*u)+(-f9 u v w)*a:=by have h:=BJ a u v w;rw[j5 a u w]at h;have hx:=congrArg V.x h;have hy:=congrArg V.y h;have hz:=congrArg V.z h;simp at hx hy hz;exact ext (by simp;grind) (by simp;grind) (by simp;grind)
 rw[e];exact C.inv _ (C.comb h1 h2 hw hu)
def d9 (w:V):Prop:=0<w.x\/(w.x=0/\(0<w.y\/(w.y=0/\0<w.z)))
instance(w:V):Decidable (d9 w):=inferInstanceAs (Decidable<|_\/_)
def A7:Cone d9 where
 add:=λ{u v} h1 h2=>by unfold d9 at*;simp;lia
 mul:=λ{k u} hk h=>by
  unfold d9 at*
  simp;rcases h with h|⟨h,h'|⟨h',h''⟩⟩
  ·exact .inl (aBA hk h)
  ·exact .inr ⟨by rw[h];simp,.inl (aBA hk h')⟩
  ·exact .inr ⟨by rw[h];simp,.inr ⟨by rw[h'];simp,aBA hk h''⟩⟩
 irr:=by unfold d9;simp
def Q1 (w:V):Prop:=d9 (-w)
def yJ:-(0:V)=0:=rfl
def fE:Cone Q1 where
 add:=λ{u v} h1 h2=>by have e:-(u+v)=-u+-v:=ext (by simp;lia) (by simp;lia) (by simp;lia);unfold Q1 at*;rw[e];exact A7.add h1 h2
 mul:=λ{k u} hk h=>by have e:-(k*u)=k*(-u):=ext (by simp;grind) (by simp;grind) (by simp;grind);unfold Q1 at*;rw[e];exact A7.mul hk h
 irr:=by unfold Q1;rw[yJ];exact A7.irr
def NS (w:V):d9 w\/w=0\/Q1 w:=by
 unfold Q1 d9;rw[kM];simp
 lia
end G
namespace DL
open PySem L2
def jE (G:D->Ev->R Ev)(F:Ev->R Out)(d:D)(ρ:Ev):R Out:=match G d ρ with
 |.ok ρ1=>F ρ1
 |_=>.bad
@[simp]def Z6 (i:Nat)(F:Ev->R Out)(d:D)(ρ:Ev):jE (λd ρ=>.ok (ρ.set i (Sl.v d))) F d ρ=F (ρ.set i (.v d)):=rfl
theorem pK (Iv:Ev->Prop):∀{ds:List D} {ρ:Ev},(∀d∈ds,∀ρ,Iv ρ->∃ρ2,jE G F d ρ=.ok (.nx ρ2)/\Iv ρ2)->Iv ρ->∃av,O8 G F ds ρ=.ok (.nx av)/\Iv av
 |[],ρ,_,h=>⟨ρ,rfl,h⟩
 |d::ds,ρ,ht,h=>by
  obtain⟨ρ2,e,h2⟩:=ht d aAX ρ h;obtain⟨av,e',h'⟩:=pK Iv (ds:=ds) (ρ:=ρ2) (λd hd=>ht d (aAd _ hd)) h2;unfold jE at e;cases e1:G d ρ with
  |ok ρ1=>rw[e1]at e;exact⟨av,by rw[O8,e1];dsimp only at e⊢;rw[e];exact e',h'⟩
  |ex x=>rw[e1]at e;cases e
  |bad=>rw[e1]at e;cases e
def KM (Iv:Ev->Prop)(ht:∀d∈ds,∀ρ,Iv ρ->∃ρ2,jE G F d ρ=.ok (.nx ρ2)/\Iv ρ2)(h0:Iv ρ)(h2:∀av,Iv av->N4 (F2 av)=.ok d):
  N4 (B5 (O8 G F ds ρ) F2)=.ok d:=by
 obtain⟨av,e,h⟩:=pK Iv ht h0;rw[e];exact h2 av h
@[simp]def WL (G:D->Ev->R Ev)(F:Ev->R Out)(ρ:Ev):O8 G F [] ρ=.ok (.nx ρ):=rfl
def HQ {α:Type}{a b:α}:(R.ok a=R.ok b)=(a=b):=by simp
end DL
namespace DL
open PySem L2
class Bd (a:Int)(n:outParam Nat):Prop where
 h:bits a<=n
def n6 (h:bits a<=m)(hm:m<=n):bits a<=n:=aAx h hm
section
instance Bd.add [p:Bd a m][q:Bd b n]:Bd (a+b) (m+n+1):=⟨bits_add (n6 p.h<|aDu m n) (n6 q.h<|aFr n m)⟩
instance Bd.sub [p:Bd a m][q:Bd b n]:Bd (a-b) (m+n+1):=⟨bits_sub (n6 p.h<|aDu m n) (n6 q.h<|aFr n m)⟩
instance Bd.mul [p:Bd a m][q:Bd b n]:Bd (a*b) (m+n):=⟨bits_mul p.h q.h⟩
instance Bd.neg [p:Bd a m]:Bd (-a) m:=⟨bits_neg p.h⟩
instance Bd.fdiv [p:Bd a m]:Bd (a.fdiv b) m:=⟨bits_fdiv p.h⟩
end
instance Bd.l0:Bd 0 1:=⟨by decide⟩
instance Bd.l1:Bd 1 1:=⟨by decide⟩
instance Bd.l2:Bd 2 2:=⟨by decide⟩
instance Bd.l3:Bd 3 2:=⟨by decide⟩
instance Bd.l4:Bd 4 3:=⟨by decide⟩
instance Bd.l5:Bd 5 3:=⟨by decide⟩
instance Bd.l6:Bd 6 3:=⟨by decide⟩
instance Bd.l7:Bd 7 3:=⟨by decide⟩
instance Bd.l9:Bd 9 4:=⟨by decide⟩
instance Bd.l10:Bd 10 4:=⟨by decide⟩
abbrev vd (v:G.V):D:=.tup [.int v.x,.int v.y,.int v.z]
def Sz (n:Nat)(v:G.V):Prop:=bits v.x<=n/\bits v.y<=n/\bits v.z<=n
def Sz.mono (h:Sz m v)(hm:m<=n:=by decide):Sz n v:=⟨n6 h.1 hm,n6 h.2.1 hm,n6 h.2.2 hm⟩
def Sz.sub (h:Sz n u)(h':Sz n v):Sz (n+1) (u-v):=⟨bits_sub h.1 h'.1,bits_sub h.2.1 h'.2.1,bits_sub h.2.2 h'.2.2⟩
def Sz.add (h:Sz n u)(h':Sz n v):Sz (n+1) (u+v):=⟨bits_add h.1 h'.1,bits_add h.2.1 h'.2.1,bits_add h.2.2 h'.2.2⟩
def Sz.cr (h:Sz m u)(h':Sz n v):Sz (m+n+1) (G.cr u v):=⟨bits_sub (bits_mul h.2.1 h'.2.2) (bits_mul h.2.2 h'.2.1),bits_sub (bits_mul h.2.2 h'.1) (bits_mul h.1 h'.2.2),bits_sub (bits_mul h.1 h'.2.1) (bits_mul h.2.1 h'.1)⟩
end DL
namespace M
open PySem L2 DL
@[simp]def jq (x0 x1 x2 x3 x4 x5 x6 x7 x8:D):mS (.lst [x0,x1,x2,x3,x4,x5,x6,x7,x8]) (some 0) (some 3)=.ok (.lst [x0,x1,x2]):=rfl
@[simp]def rq (x0 x1 x2 x3 x4 x5 x6 x7 x8:D):mS (.lst [x0,x1,x2,x3,x4,x5,x6,x7,x8]) (some 3) (some 6)=.ok (.lst [x3,x4,x5]):=rfl
@[simp]def kw (x0 x1 x2 x3 x4 x5 x6 x7 x8:D):mS (.lst [x0,x1,x2,x3,x4,x5,x6,x7,x8]) (some 6) (some 9)=.ok (.lst [x6,x7,x8]):=rfl
@[simp]def cw (x0 x1 x2 x3 x4 x5 x6 x7 x8 x9 x10 x11:D):mS (.lst [x0,x1,x2,x3,x4,x5,x6,x7,x8,x9,x10,x11]) (some 0) (some 3)=.ok (.lst [x0,x1,x2]):=rfl
@[simp]def ZT (x0 x1 x2 x3 x4 x5 x6 x7 x8 x9 x10 x11:D):mS (.lst [x0,x1,x2,x3,x4,x5,x6,x7,x8,x9,x10,x11]) (some 3) (some 6)=.ok (.lst [x3,x4,x5]):=rfl
@[simp]def aq (x0 x1 x2 x3 x4 x5 x6 x7 x8 x9 x10 x11:D):mS (.lst [x0,x1,x2,x3,x4,x5,x6,x7,x8,x9,x10,x11]) (some 6) (some 9)=.ok (.lst [x6,x7,x8]):=rfl
@[simp]def dz (x0 x1 x2 x3 x4 x5 x6 x7 x8 x9 x10 x11:D):mS (.lst [x0,x1,x2,x3,x4,x5,x6,x7,x8,x9,x10,x11]) (some 9) (some 12)=.ok (.lst [x9,x10,x11]):=rfl
abbrev pt (a b c:Int):D:=.tup [.int a,.int b,.int c]
abbrev PM (n:Nat)(a b c:Int):Prop:=bits a<=n/\bits b<=n/\bits c<=n
def v1 (k:Int->Int->Int->List D->R D):List D->R D
 |.tup [.int a,.int b,.int c]::ds=>k a b c ds
 |_=>.bad
def v4 (k:Int->Int->Int->Int->List D->R D):List D->R D
 |.tup [.int a,.int b,.int c,.int d]::ds=>k a b c d ds
 |_=>.bad
def KO (k:List D->List D->R D):List D->R D
 |.lst xs::ds=>k xs ds
 |_=>.bad
def XS (k:List D->List D->R D):List D->R D
 |.tup xs::ds=>k xs ds
 |_=>.bad
def rY (q:R D):List D->R D
 |[]=>q
 |_=>.bad
def N6 (h:v1 k ds=.ok r):∃a b c e,ds=.tup [.int a,.int b,.int c]::e/\k a b c e=.ok r:=by
 unfold v1 at h;split at h
 ·exact⟨_,_,_,_,rfl,h⟩
 ·cases h
def OQ (h:v4 k ds=.ok r):∃a b c d e,ds=.tup [.int a,.int b,.int c,.int d]::e/\k a b c d e=.ok r:=by
 unfold v4 at h;split at h
 ·exact⟨_,_,_,_,_,rfl,h⟩
 ·cases h
def pW (h:KO k ds=.ok r):∃xs e,ds=.lst xs::e/\k xs e=.ok r:=by
 unfold KO at h;split at h
 ·exact⟨_,_,rfl,h⟩
 ·cases h
def QN (h:XS k ds=.ok r):∃xs e,ds=.tup xs::e/\k xs e=.ok r:=by
 unfold XS at h;split at h
 ·exact⟨_,_,rfl,h⟩
 ·cases h
def T6 (h:rY q ds=.ok r):ds=[]/\q=.ok r:=by
 unfold rY at h;split at h
 ·exact⟨rfl,h⟩
 ·cases h
def v3 (k:Int->Int->Int->List D->R D):List D->R D
 |.tup (.int a::.int b::.int c::_)::ds=>k a b c ds
 |_=>.bad
def WV (h:v3 k ds=.ok r):∃a b c t e,ds=.tup (.int a::.int b::.int c::t)::e/\k a b c e=.ok r:=by
 unfold v3 at h;split at h
 ·exact⟨_,_,_,_,_,rfl,h⟩
 ·cases h
def u4:List D->R D:=v1 λa b c=>v1 λa' b' c'=>rY (.ok (pt (a'-a) (b'-b)<|c'-c))
def C0:List D->R D:=v1 λa b c=>v1 λd e f=>rY (if PM 20000000 a b c/\PM 20000000 d e f then .ok (pt (b*f-c*e) (c*d-a*f)<|a*e-b*d)else .bad)
def u3:List D->R D:=v3 λa b c=>v1 λd e f=>rY (if PM 50000000 a b c/\PM 50000000 d e f then .ok (.int (a*d+b*e+c*f))else .bad)
@[simp]def SO (P Q:G.V):u4 [vd P,vd Q]=.ok (vd (Q-P)):=rfl
def fD (h1:Sz 20000000 u)(h2:Sz 20000000 v):C0 [vd u,vd v]=.ok (vd (G.cr u v)):=if_pos ⟨h1,h2⟩
def kA (h1:Sz 50000000 u)(h2:Sz 50000000 v):u3 [vd u,vd v]=.ok (.int (G.d8 u v)):=if_pos ⟨h1,h2⟩
def rule (k:Int):Int:=7*k*k+10*k+3
def tq:Int:=10^64
def wj:Int:=10^34
def gy:Int:=tq*wj
def sgn (x:Int):Int:=if 0<x then 1 else if x<0 then-1 else 0
def W8:List D->R D:=v4 λa b c d=>v1 λx y z=>rY (if PM 50000000 a b c/\PM 50000000 x y z then .ok (.int (sgn<|a*x+b*y+c*z-d))else .bad)
def LZ (h1:PM 50000000 a b c)(h2:PM 50000000 x y z):W8 [.tup [.int a,.int b,.int c,.int d],pt x y z]=.ok (.int (sgn (a*x+b*y+c*z-d))):=if_pos ⟨h1,h2⟩
def VJ (i:Nat)(ρ:Ev):Nat:=match ρ[i]? with
 |some (.v (.int b))=>b.natAbs+2
 |_=>0
def sJ (ha:bits a<=n)(hb:bits b<=n):bits (aGi a b)<=n:=by
 refine zG ?_;have h1:=AX ha;have h2:=AX hb;have e:((aGi a b:Nat):Int).natAbs=aGi a b:=by simp
 rw[e];unfold aGi;rcases Nat.eq_zero_or_pos a.natAbs with z|z
 ·rw[z,Nat.gcd_zero_left];exact h2
 ·exact aCC (Nat.gcd_le_left _ z) h1
end M
namespace G
def u7 (v:V):v-v=0:=ext (by simp) (by simp) (by simp)
def cB (a u:V):f9 a u 0=0:=by simp[f9,d8]
def G5 (a u v:V):f9 a u (-v)=-f9 a u v:=by simp[f9,d8];grind
def X8 (a u v:V):f9 a (-u) v=-f9 a u v:=by simp[f9,d8];grind
structure Row (n:V)(Pos:V->Prop)(T:V->Prop):Prop where
 cone:Cone Pos
 nz:n≠0
 pl:∀X Y,T X->T Y->d8 n (X-Y)=0
 tot:∀X Y,T X->T Y->X=Y\/Pos (X-Y)\/Pos (Y-X)
def tx (n:V)(Pos:V->Prop)(a b X:V):Prop:=0<=f9 n (b-a) (X-a)/\(f9 n (b-a) (X-a)=0->(X=a\/Pos (X-a))/\(X=b\/Pos (b-X)))
def turn (n P Q R:V):Int:=f9 n (Q-P) (R-Q)
def U4 (n P:V):List V->List V
 |b::a::r=>if turn n a b P<=0 then U4 n P (a::r)else b::a::r
 |r=>r
def w8 (n:V)(ps:List V):List V:=ps.foldl (λc P=>P::U4 n P c) []
def D1:List V->List (V×V)
 |b::a::r=>(a,b)::D1 (a::r)
 |_=>[]
def pE (n:V):List V->Prop
 |b::a::a'::r=>0<f9 n (a-a') (b-a)/\pE n (a::a'::r)
 |_=>True
def pE.tail (h:pE n (b::r)):pE n r:=by
 match r,h with
 |[],_=>trivial
 |[_],_=>trivial
 |_::_::_,h=>exact h.2
def K8 (h:e∈D1 r):e∈D1 (b::r):=by
 match r,h with
 |a::r,h=>exact aAd _ h
section
variable{n:V} {Pos:V->Prop} {T:V->Prop} (F:Row n Pos T)
include F
structure ChOk (n:V)(Pos:V->Prop)(done:V->Prop)(c:List V):Prop where
 mem:∀X∈c,done X
 ed:∀e∈D1 c,Pos (e.2-e.1)/\∀X,done X->tx n Pos e.1 e.2 X
 bend:pE n c
 last:∀X,done X->∀z,c.getLast?=some z->X=z\/Pos (X-z)
theorem Row.ac5 {done:V->Prop}(hd:∀X,done X->T X)(hx:Pos x)(hn:d8 n x=0):∀(c:List V),(∀X∈c,done X)->(∀e∈D1 c,Pos (e.2-e.1))->pE n c->(∀b a r,c=b::a::r->0<f9 n (b-a) x)->∀e∈D1 c,0<f9 n (e.2-e.1) x
 |[],_,_,_,_,e,he=>by cases he
 |[_],_,_,_,_,e,he=>by cases he
 |[b,a],_,_,_,h,e,he=>by simp[D1]at he;subst he;exact h b a [] rfl
 |b::a::a'::r,hm,hp,hb,h,e,he=>by
  have hba:=h b a _ rfl;rcases aAe.mp he with q|q
  ·subst q;exact hba
  ·refine Row.ac5 hd hx hn (a::a'::r) (λX hX=>hm X (aAd _ hX)) (λe he=>hp e (K8 he)) hb.tail ?_ e q;intro b1 a1 r1 e1;injection e1 with e1 e2;injection e2 with e2 e3;subst e1 e2;have p1:=hp (a',a) (K8 (by simp[D1]));have p2:=hp (a,b) (by simp[D1]);exact F.cone.tr p1 p2 hx (C6 F.nz (F.pl _ _ (hd _ (hm _ (by simp))) (hd _ (hm _ (by simp)))) (F.pl _ _ (hd _ (hm _ (by simp))) (hd _ (hm _ (by simp)))) hn) hb.1 (aBe hba)
theorem Row.weak (hu:Pos u)(hv:Pos v)(hw:Pos w)(pu:d8 n u=0)(pv:d8 n v=0)(pw:d8 n w=0)(h1:0<=f9 n u v)(h2:0<=f9 n v w):0<=f9 n u w:=by
 have hf:=C6 F.nz pu pv pw;by_cases z1:0<f9 n u v
 ·exact aBe (F.cone.tr hu hv hw hf z1 h2)
 ·by_cases z2:0<f9 n v w
  ·exact aBe (F.cone.tr' hu hv hw hf h1 z2)
  ·have e1:f9 n u v=0:=by lia
   have e2:f9 n v w=0:=by lia
   have h:=BJ n u v w;rw[e1,e2,hf,t9,t9,t9,cZ,cZ]at h;by_cases z:f9 n w u=0
   ·rw[j5];lia
   ·exfalso;have e:v=0:=by have hx:=congrArg V.x h;have hy:=congrArg V.y h;have hz:=congrArg V.z h;simp at hx hy hz;exact ext ((aAI.mp hx).resolve_left z) ((aAI.mp hy).resolve_left z) ((aAI.mp hz).resolve_left z)
    rw[e]at hv;exact F.cone.irr hv
theorem Row.ad2 {done:V->Prop}(hd:∀X,done X->T X)(hP:T P)(ar:∀X,done X->Pos (P-X)):∀(c:List V),ChOk n Pos done c->c≠[]->
  (∀X q,c.head?=some q->done X->(X=q\/Pos (X-q))->0<=f9 n (P-q) (X-q))->
  ∃q r,U4 n P c=q::r/\ChOk n Pos done (q::r)/\(∀X,done X->(X=q\/Pos (X-q))->0<=f9 n (P-q) (X-q))/\∀a r',r=a::r'->0<turn n a q P
 |[],_,h,_=>absurd rfl h
 |[b],ok,_,hh=>⟨b,[],rfl,ok,λX hX h=>hh X b rfl hX h,λa r' e=>by cases e⟩
 |b::a::r,ok,_,hh=>by
  by_cases ht:turn n a b P<=0
  ·have e:U4 n P (b::a::r)=U4 n P (a::r):=by rw[U4,if_pos ht]
   rw[e];have db:=ok.mem b (by simp);have da:=ok.mem a (by simp);have eb:=ok.ed (a,b) (by simp[D1]);refine Row.ad2 hd hP ar (a::r) ⟨λX hX=>ok.mem X (aAd _ hX),λe he=>ok.ed e (K8 he),ok.bend.tail,λX hX z hz=>ok.last X hX z (by rw[aAY];exact hz)⟩ (by simp) ?_;intro X q hq hX hXq;have hq':a=q:=aAj hq;subst hq';have hu:Pos (b-a):=eb.1;have hp:Pos (P-b):=ar b db;have qu:Pos (P-a):=ar a da;have pu:d8 n (b-a)=0:=F.pl _ _ (hd _ db) (hd _ da);have pp:d8 n (P-b)=0:=F.pl _ _ hP (hd _ db);have ppa:d8 n (P-a)=0:=F.pl _ _ hP (hd _ da);unfold turn at ht;have hpu:0<=f9 n (P-b) (b-a):=by rw[j5];lia
   rcases F.tot X b (hd X hX) (hd b db)with z|z|z
   ·
    subst z;have e1:P-a=(P-X)+(X-a):=ext (by simp;lia) (by simp;lia) (by simp;lia);rw[e1,Y0,B1];lia
   ·
    have hx:=hh X b rfl hX (.inr z);have px:d8 n (X-b)=0:=F.pl _ _ (hd _ hX) (hd _ db);have hPX:Pos (P-X):=ar X hX;have key:f9 n (P-a) (X-a)*(P-b)=f9 n (P-b) (X-b)*(P-a)+f9 n (P-b) (b-a)*(P-X):=by
     have hr:=BJ n (b-a) (X-b) (P-b);rw[C6 F.nz pu px pp,t9]at hr;have e1:P-a=(b-a)+(P-b):=ext (by simp;lia) (by simp;lia) (by simp;lia);have e2:X-a=(b-a)+(X-b):=ext (by simp;lia) (by simp;lia) (by simp;lia);have e3:P-X=(P-b)-(X-b):=ext (by simp;lia) (by simp;lia) (by simp;lia);rw[e1,e2,e3];generalize b-a=u at*
     generalize X-b=x at*
     generalize P-b=p at*
     rw[Y0,X1,X1,B1];have hx:=congrArg V.x hr;have hy:=congrArg V.y hr;have hz:=congrArg V.z hr;rw[j5 n p x]at hr hx hy hz;simp at hx hy hz;have s1:=j5 n p x;have s2:=j5 n p u;have s3:=j5 n u x;apply ext<;>simp<;>grind
    by_cases zz:0<=f9 n (P-a) (X-a)
    ·exact zz
    ·exfalso;have h1:Pos ((-f9 n (P-a) (X-a))*(P-b)):=F.cone.mul (by lia) hp;have h2:Pos (-f9 n (P-a) (X-a)*(P-b)+(f9 n (P-b) (X-b)*(P-a)+f9 n (P-b) (b-a)*(P-X))):=by
      by_cases y1:f9 n (P-b) (X-b)=0
      ·rw[y1,t9,cZ];by_cases y2:f9 n (P-b) (b-a)=0
       ·rw[y2,t9,lN];exact h1
       ·exact F.cone.add h1 (F.cone.mul (by lia) hPX)
      ·exact F.cone.add h1 (F.cone.comb (by lia) hpu qu hPX)
     rw[<-key]at h2;have e0:-f9 n (P-a) (X-a)*(P-b)+f9 n (P-a) (X-a)*(P-b)=0:=by apply ext<;>simp<;>grind
     rw[e0]at h2;exact F.cone.irr h2
   ·
    rcases hXq with hXa|hXa
    ·subst hXa;rw[u7,cB];exact aCI _
    ·have hl:=(eb.2 X hX).1;have hpu':0<=f9 n (P-a) (b-a):=by have e1:P-a=(P-b)+(b-a):=ext (by simp;lia) (by simp;lia) (by simp;lia);rw[e1,Y0,B1];lia
     exact F.weak qu hu hXa ppa pu (F.pl _ _ (hd _ hX)<|hd _ da) hpu' hl
  ·have e:U4 n P (b::a::r)=b::a::r:=by rw[U4,if_neg ht]
   refine⟨b,a::r,e,ok,λX hX h=>hh X b rfl hX h,λa' r' e'=>?_⟩;injection e' with e1 _;subst e1
   lia
theorem Row.push {done:V->Prop}(hd:∀X,done X->T X)(hP:T P)(ar:∀X,done X->Pos (P-X))(ok:ChOk n Pos done c)(hc:c≠[])(hh:∀X q,c.head?=some q->done X->X=q\/Pos (q-X)):
  ChOk n Pos (λX=>done X\/X=P) (P::U4 n P c):=by
 obtain⟨q,r,e,ng,hq,ht⟩:=F.ad2 hd hP ar c ok hc (λX q hq hX h=>by
  rcases h with h|h
  ·subst h;rw[u7,cB];exact aCI _
  ·exfalso;rcases hh X q hq hX with z|z
   ·subst z;rw[u7]at h;exact F.cone.irr h
   ·have:=F.cone.add h z;have e0:X-q+(q-X)=0:=ext (by simp;lia) (by simp;lia) (by simp;lia);rw[e0]at this;exact F.cone.irr this)
 rw[e];have dq:=ng.mem q (by simp);have hpq:Pos (P-q):=ar q dq;have ppq:d8 n (P-q)=0:=F.pl _ _ hP (hd _ dq);refine⟨λX hX=>?_,λg he=>?_,?_,λX hX z hz=>?_⟩
 ·rcases aAe.mp hX with h|h
  ·exact .inr h
  ·exact .inl (ng.mem X h)
 ·rcases aAe.mp he with h|h
  ·subst h;refine⟨hpq,λX hX=>?_⟩;rcases hX with hX|hX
   ·rcases F.tot X q (hd _ hX) (hd _ dq)with z|z|z
    ·subst z;exact⟨by rw[u7,cB];exact aCI _,λ_=>⟨.inl rfl,.inr hpq⟩⟩
    ·exact⟨hq X hX (.inr z),λ_=>⟨.inr z,.inr (ar X hX)⟩⟩
    ·
     have:0<f9 n (P-q) (X-q):=by
      match r,ht,ng with
      |[],_,ng=>
       rcases ng.last X hX q rfl with y|y
       ·subst y;rw[u7]at z;exact absurd z F.cone.irr
       ·exfalso;have:=F.cone.add y z;have e0:X-q+(q-X)=0:=ext (by simp;lia) (by simp;lia) (by simp;lia);rw[e0]at this;exact F.cone.irr this
      |a::r',ht,ng=>
       have h1:=ht a r' rfl;unfold turn at h1;have da:=ng.mem a (by simp);have ea:=ng.ed (a,q) (by simp[D1]);have hl:=(ea.2 X hX).1;have e1:X-a=(q-a)-(q-X):=ext (by simp;lia) (by simp;lia) (by simp;lia);dsimp only at hl;rw[e1,JW,B1]at hl;have ji:0<=f9 n (q-X) (q-a):=by rw[j5];lia
       have:=F.cone.tr' (a:=n) z ea.1 hpq (C6 F.nz (F.pl _ _ (hd _ dq)<|hd _ hX) (F.pl _ _ (hd _ dq)<|hd _ da) ppq) ji h1;have e2:X-q=-(q-X):=ext (by simp;lia) (by simp;lia) (by simp;lia);rw[e2,G5,j5];lia
     exact⟨aBe this,λz=>by dsimp only at z;lia⟩
   ·subst hX;exact⟨by rw[B1];exact aCI _,λ_=>⟨.inr hpq,.inl rfl⟩⟩
  ·
   have hed:=ng.ed g h;refine⟨hed.1,λX hX=>?_⟩;rcases hX with hX|hX
   ·exact hed.2 X hX
   ·subst hX;have h1:=F.ac5 hd hpq ppq (q::r) ng.mem (λe he=>(ng.ed e he).1) ng.bend (λb a r' e'=>by injection e' with e1 e2;subst e1;exact ht a r' e2) g h
    have h2:=(hed.2 q dq).1;have:0<f9 n (g.2-g.1) (X-g.1):=by have e1:X-g.1=(q-g.1)+(X-q):=ext (by simp;lia) (by simp;lia) (by simp;lia);rw[e1,X1];lia
    exact⟨aBe this,λz=>by lia⟩
 ·match r,ht,ng with
  |[],_,_=>trivial
  |a::r',ht,ng=>exact⟨ht a r' rfl,ng.bend⟩
 ·rcases hX with hX|hX
  ·exact ng.last X hX z (by rw[aAY]at hz;exact hz)
  ·subst hX;have hz':(q::r).getLast?=some z:=by rw[aAY]at hz;exact hz
   exact .inr (ar z<|ng.mem z<|aEd hz')
end
end G
namespace G
section
variable{n:V} {Pos:V->Prop} {T:V->Prop} (F:Row n Pos T)
include F
theorem ChOk.congr {done done':V->Prop}(ok:ChOk n Pos done c)(h:∀X,done X↔done' X):ChOk n Pos done' c:=
 ⟨λX hX=>(h X).mp (ok.mem X hX),λe he=>⟨(ok.ed e he).1,λX hX=>(ok.ed e he).2 X ((h X).mpr hX)⟩,ok.bend,λX hX=>ok.last X ((h X).mpr hX)⟩
theorem Row.fold:∀(rest:List V) (done:V->Prop) (c:List V),ChOk n Pos done c->c≠[]->(∀X q,c.head?=some q->done X->X=q\/Pos (q-X))->(∀X,done X->T X)->(∀X∈rest,T X)->
  (∀X Y,done X->Y∈rest->Pos (Y-X))->rest.Pairwise (λa b=>Pos (b-a))->
  ChOk n Pos (λX=>done X\/X∈rest) (rest.foldl (λc P=>P::U4 n P c) c)/\rest.foldl (λc P=>P::U4 n P c) c≠[]/\(∀X q,(rest.foldl (λc P=>P::U4 n P c) c).head?=some q->(done X\/X∈rest)->X=q\/Pos (q-X))
 |[],done,c,ok,hc,hh,hd,ht,ar,hs=>⟨ChOk.congr F ok λX=>by simp,hc,λX q hq hX=>by
   rcases hX with hX|hX
   ·exact hh X q hq hX
   ·cases hX⟩
 |P::rest,done,c,ok,hc,hh,hd,ht,ar,hs=>by
  have hP:=ht P (by simp);have ng:=F.push hd hP (λX hX=>ar X P hX (by simp)) ok hc hh;have lh:=aAw.mp hs;obtain⟨h1,h2,h3⟩:=Row.fold rest (λX=>done X\/X=P) (P::U4 n P c) ng (by simp) (λX q hq hX=>by
    have hq':P=q:=aAj hq;subst hq';rcases hX with hX|hX
    ·exact .inr (ar X P hX (by simp))
    ·exact .inl hX) (λX hX=>by
    rcases hX with hX|hX
    ·exact hd X hX
    ·subst hX;exact hP) (λX hX=>ht X (aAd _ hX)) (λX Y hX hY=>by
    rcases hX with hX|hX
    ·exact ar X Y hX (aAd _ hY)
    ·subst hX;exact lh.1 Y hY) lh.2
  have e:∀X,((done X\/X=P)\/X∈rest)↔(done X\/X∈P::rest):=λX=>by simp[or_assoc]
  exact⟨ChOk.congr F h1 e,h2,λX q hq hX=>h3 X q hq ((e X).mpr hX)⟩
theorem Row.ac9 (bf:ps≠[])(ht:∀X∈ps,T X)(hs:ps.Pairwise (λa b=>Pos (b-a))):
  ChOk n Pos (λX=>X∈ps) (w8 n ps)/\w8 n ps≠[]/\(∀X q,(w8 n ps).head?=some q->X∈ps->X=q\/Pos (q-X)):=by
 match ps,bf with
 |p::rest,_=>
  have lh:=aAw.mp hs;have ok:ChOk n Pos (λX=>X=p) [p]:=⟨λX hX=>by simpa using hX,λe he=>by simp[D1]at he,trivial,λX hX z hz=>by simp at hz;subst hz;exact .inl hX⟩
  obtain⟨h1,h2,h3⟩:=F.fold rest (λX=>X=p) [p] ok (by simp) (λX q hq hX=>by have hq':p=q:=aAj hq;subst hq';exact .inl hX) (λX hX=>by subst hX;exact ht _ (by simp)) (λX hX=>ht X (aAd _ hX)) (λX Y hX hY=>by subst hX;exact lh.1 Y hY) lh.2
  have e:∀X,(X=p\/X∈rest)↔X∈p::rest:=λX=>by simp
  refine⟨ChOk.congr F h1 e,h2,λX q hq hX=>h3 X q hq ((e X).mpr hX)⟩
end
def j6 (n:V)(ts:List V):List V:=(w8 n ts).reverse.dropLast++(w8 n ts.reverse).reverse.dropLast
def o9:List V->List (V×V)
 |a::b::r=>(a,b)::o9 (b::r)
 |_=>[]
theorem jB:∀(l:List V) (a b:V),o9 (l++[a]++[b])=o9 (l++[a])++[(a,b)]
 |[],a,b=>rfl
 |[x],a,b=>rfl
 |x::y::l,a,b=>by have:=jB (y::l) a b;simp only[aBm,o9]at this⊢;rw[this]
theorem cR:∀c:List V,o9 c.reverse=(D1 c).reverse
 |[]=>rfl
 |[_]=>rfl
 |b::a::r=>by
  have ih:=cR (a::r);rw[aAO,aAO]at*
  rw[jB,ih,D1,aAO]
theorem jF:∀(l:List V) (a:V) (m:List V),o9 (l++a::m)=o9 (l++[a])++o9 (a::m)
 |[],a,m=>by cases m<;>rfl
 |[x],a,m=>rfl
 |x::y::l,a,m=>by have:=jF (y::l) a m;simp only[aBm,o9]at this⊢;rw[this]
def S6 (l:List V):List (V×V):=l.zip (l.tail++l.take 1)
theorem lI:∀(l:List V) (z:V),l.zip (l.tail++[z])=o9 (l++[z])
 |[],z=>rfl
 |[a],z=>rfl
 |a::b::r,z=>by have:=lI (b::r) z;simp only[List.tail_cons,aBm,o9,aBO]at this⊢;rw[this]
def T4:S6 (a::l)=o9 (a::l++[a]):=lI (a::l) a
def ER (h1:w8 n ts=M::c)(h2:w8 n ts.reverse=m::d)(h3:(M::c).getLast?=some m)(h4:(m::d).getLast?=some M)(hc:c≠[]):
  S6 (j6 n ts)=(D1 (w8 n ts)).reverse++(D1 (w8 n ts.reverse)).reverse:=by
 rw[<-cR,<-cR];unfold j6;rw[h1,h2,aAO,aAO,aBB,aBB];have e1:∃c',c.reverse=m::c':=by
  have:c.getLast?=some m:=by
   match c,hc with
   |x::c,_=>rw[aAY]at h3;exact h3
  rw[<-aEB]at this;match hh:c.reverse,this with
  |x::r,this=>exact⟨r,by rw[show x=m from aAj this]⟩
 obtain⟨c',e1⟩:=e1;have e2:∃d',d.reverse++[m]=M::d':=by
  have:(m::d).reverse.head?=some M:=by rw[aEB];exact h4
  rw[aAO]at this;match hh:d.reverse++[m],this with
  |x::r,this=>exact⟨r,by rw[show x=M from aAj this]⟩
 obtain⟨d',e2⟩:=e2;have e3:c.reverse++d.reverse=m::(c'++d.reverse):=by rw[e1];rfl
 rw[e3,T4];have e4:m::(c'++d.reverse)++[m]=c.reverse++(d.reverse++[m]):=by rw[e1];simp
 rw[e4,e2,jF]
end G
namespace G
def o7 (a b:V):-(a-b)=b-a:=ext (by simp;lia) (by simp;lia) (by simp;lia)
def u8:Q1 (a-b)↔d9 (b-a):=by unfold Q1;rw[o7]
def M5 (h:d9 (a-a)):False:=by rw[u7]at h;exact A7.irr h
def v5 (h:d9 (a-b))(h':d9 (b-a)):False:=by have:=A7.add h h';have e0:a-b+(b-a)=0:=ext (by simp;lia) (by simp;lia) (by simp;lia);rw[e0]at this;exact A7.irr this
def V0 (a b:V):a=b\/d9 (a-b)\/d9 (b-a):=by
 rcases NS (a-b)with h|h|h
 ·exact .inr (.inl h)
 ·refine .inl (ext ?_ ?_ ?_)
  ·have:=congrArg V.x h;simp at this;lia
  ·have:=congrArg V.y h;simp at this;lia
  ·have:=congrArg V.z h;simp at this;lia
 ·exact .inr (.inr (u8.mp h))
def YI (P Q X:V):Prop:=(d9 (Q-P)->(X=P\/d9 (X-P))/\(X=Q\/d9 (Q-X)))/\(d9 (P-Q)->(X=P\/d9 (P-X))/\(X=Q\/d9 (X-Q)))
structure EdgeOf (n:V)(T:V->Prop)(P Q:V):Prop where
 p:T P
 q:T Q
 ne:P≠Q
 left:∀X,T X->0<=f9 n (Q-P) (X-P)
 btw:∀X,T X->f9 n (Q-P) (X-P)=0->YI P Q X
section
variable{n:V} {T:V->Prop}
def EdgeOf.next (h:EdgeOf n T P Q)(h':EdgeOf n T P R):Q=R:=by
 have h1:=h.left R h'.q;have h2:=h'.left Q h.q;rw[j5]at h2;have z1:f9 n (Q-P) (R-P)=0:=by lia
 have z2:f9 n (R-P) (Q-P)=0:=by rw[j5];lia
 have b1:=h.btw R h'.q z1;have b2:=h'.btw Q h.q z2;rcases V0 Q P with e|e|e
 ·exact absurd e.symm h.ne
 ·have c1:=b1.1 e;have c2:d9 (R-P):=c1.1.resolve_left (aCm h'.ne);rcases c1.2 with q|q
  ·exact q.symm
  ·rcases(b2.1 c2).2 with q'|q'
   ·exact q'
   ·exact(v5 q q').elim
 ·have c1:=b1.2 e;have c2:d9 (P-R):=c1.1.resolve_left (aCm h'.ne);rcases c1.2 with q|q
  ·exact q.symm
  ·rcases(b2.2 c2).2 with q'|q'
   ·exact q'
   ·exact(v5 q q').elim
def lJ (n P Q X:V):f9 n (Q-P) (X-P)=f9 n (Q-P) (X-Q):=by have e:X-P=(X-Q)+(Q-P):=ext (by simp;lia) (by simp;lia) (by simp;lia);rw[e,X1,B1];lia
end
theorem xY {Pos:V->Prop}(X:V):∀(c:List V),(∀Y∈c,X=Y\/Pos (X-Y)\/Pos (Y-X))->(∀q,c.head?=some q->X=q\/Pos (q-X))->(∀z,c.getLast?=some z->X=z\/Pos (X-z))->c≠[]->
  (∀u,Pos u->Pos (-u)->False)->X∈c\/∃a b,(a,b)∈D1 c/\Pos (X-a)/\Pos (b-X)
 |[],_,_,_,h,_=>absurd rfl h
 |[q],_,h1,h2,_,as=>by
  rcases h1 q rfl with e|e
  ·exact .inl (by simp[e])
  ·rcases h2 q rfl with e'|e'
   ·exact .inl (by simp[e'])
   ·exact(as _ e (by rw[o7];exact e')).elim
 |b::a::r,ht,h1,h2,_,as=>by
  rcases h1 b rfl with e|e
  ·exact .inl (by simp[e])
  ·rcases ht a (by simp)with y|y|y
   ·exact .inl (by simp[y])
   ·exact .inr ⟨a,b,by simp[D1],y,e⟩
   ·rcases xY X (a::r) (λY hY=>ht Y (aAd _ hY)) (λq hq=>by have:a=q:=aAj hq;subst this;exact .inr y) (λz hz=>h2 z (by rw[aAY];exact hz)) (by simp) as with h|⟨a',b',h,h'⟩
    ·exact .inl (aAd _ h)
    ·exact .inr ⟨a',b',K8 h,h'⟩
def Row.ad3 {Pos:V->Prop}{T:V->Prop}(F:Row n Pos T)(ha:T a)(hb:T b)(hP:T P)(hQ:T Q)(h1:Pos (P-a))(h2:Pos (b-P))(h3:Pos (Q-P))(h4:0<=f9 n (b-a) (P-a))(h5:0<f9 n (Q-P) (a-P))(h6:0<=f9 n (Q-P) (b-P)):False:=by
 have e1:f9 n (Q-P) (a-P)=f9 n (P-a) (Q-P):=by have e:a-P=-(P-a):=(o7 _ _).symm;rw[e,G5,j5];lia
 rw[e1]at h5;have:=F.cone.tr h1 h3 h2 (C6 F.nz (F.pl _ _ hP ha) (F.pl _ _ hQ hP)<|F.pl _ _ hb hP) h5 h6;have e2:b-a=(b-P)+(P-a):=ext (by simp;lia) (by simp;lia) (by simp;lia);rw[e2,Y0,B1,j5]at h4
 lia
structure Sheet (n:V)(ts:List V):Prop where
 nz:n≠0
 pl:∀X∈ts,∀Y∈ts,d8 n (X-Y)=0
 ord:ts.Pairwise (λa b=>d9 (b-a))
 two:∃X∈ts,∃Y∈ts,X≠Y
section
variable{n:V} {ts:List V} (S:Sheet n ts)
include S
theorem Sheet.row:Row n d9 (λX=>X∈ts):=⟨A7,S.nz,λX Y hX hY=>S.pl X hX Y hY,λX Y _ _=>V0 X Y⟩
theorem Sheet.ae6:Row n Q1 (λX=>X∈ts):=⟨fE,S.nz,λX Y hX hY=>S.pl X hX Y hY,λX Y _ _=>by
 rcases V0 X Y with h|h|h
 ·exact .inl h
 ·exact .inr (.inr (u8.mpr h))
 ·exact .inr (.inl (u8.mpr h))⟩
theorem Sheet.ne:ts≠[]:=by obtain⟨X,hX,_⟩:=S.two;intro e;rw[e]at hX;cases hX
theorem Sheet.ab2:ChOk n d9 (λX=>X∈ts) (w8 n ts)/\w8 n ts≠[]/\(∀X q,(w8 n ts).head?=some q->X∈ts->X=q\/d9 (q-X)):=
 S.row.ac9 S.ne (λ_ h=>h) S.ord
theorem Sheet.ab3:ChOk n Q1 (λX=>X∈ts) (w8 n ts.reverse)/\w8 n ts.reverse≠[]/\(∀X q,(w8 n ts.reverse).head?=some q->X∈ts->X=q\/Q1 (q-X)):=by
 have h:=S.ae6.ac9 (ps:=ts.reverse) (by simpa using S.ne) (λX h=>by simpa using h) (by rw[aDV];exact S.ord.imp λh=>u8.mpr h)
 obtain⟨h1,h2,h3⟩:=h;exact⟨ChOk.congr S.ae6 h1 λX=>by simp,h2,λX q hq hX=>h3 X q hq (by simpa using hX)⟩
theorem Sheet.ae9 (h:(a,b)∈D1 (w8 n ts))(ha:a∈ts)(hb:b∈ts):EdgeOf n (λX=>X∈ts) a b/\d9 (b-a):=by obtain⟨e1,e2⟩:=S.ab2.1.ed _ h;dsimp only at e1 e2;refine⟨⟨ha,hb,λe=>by subst e;exact M5 e1,λX hX=>(e2 X hX).1,λX hX z=>⟨λ_=>(e2 X hX).2 z,λy=>(v5 e1 y).elim⟩⟩,e1⟩
theorem Sheet.ae7 (h:(a,b)∈D1 (w8 n ts.reverse))(ha:a∈ts)(hb:b∈ts):EdgeOf n (λX=>X∈ts) a b/\d9 (a-b):=by obtain⟨e1,e2⟩:=S.ab3.1.ed _ h;dsimp only at e1 e2;have e1':=u8.mp e1;refine⟨⟨ha,hb,λe=>by subst e;exact M5 e1',λX hX=>(e2 X hX).1,λX hX z=>⟨λy=>(v5 e1' y).elim,λ_=>?_⟩⟩,e1'⟩;obtain⟨q1,q2⟩:=(e2 X hX).2 z;exact⟨q1.imp id u8.mp,q2.imp id u8.mp⟩
theorem S1 (h:(a,b)∈D1 c):a∈c/\b∈c:=by
 induction c with
 |nil=>cases h
 |cons x c ih=>
  match c,h,ih with
  |[],h,_=>cases h
  |y::r,h,ih=>
   rcases aAe.mp h with e|e
   ·cases e;simp
   ·have:=ih e;exact⟨aAd _ this.1,aAd _ this.2⟩
theorem Sheet.ends:∃m M c d,m∈ts/\M∈ts/\d9 (M-m)/\(∀X∈ts,X=m\/d9 (X-m))/\(∀X∈ts,X=M\/d9 (M-X))/\w8 n ts=M::c/\w8 n ts.reverse=m::d/\(M::c).getLast?=some m/\(m::d).getLast?=some M/\c≠[]/\d≠[]:=by
 obtain⟨o1,n1,h1⟩:=S.ab2;obtain⟨o2,n2,h2⟩:=S.ab3;obtain⟨M,c,e1⟩:=aEu n1;obtain⟨m,d,e2⟩:=aEu n2;have hM:M∈ts:=o1.mem M (by rw[e1];simp);have hm:m∈ts:=o2.mem m (by rw[e2];simp);have lM:∀X∈ts,X=M\/d9 (M-X):=λX hX=>h1 X M (by rw[e1];rfl) hX;have lm:∀X∈ts,X=m\/d9 (X-m):=λX hX=>(h2 X m (by rw[e2];rfl) hX).imp id u8.mp;obtain⟨z,hz⟩:∃z,(M::c).getLast?=some z:=by simp[aEC]
 obtain⟨y,hy⟩:∃z,(m::d).getLast?=some z:=by simp[aEC]
 have zm:z=m:=by
  have zt:z∈ts:=o1.mem z (by rw[e1];exact aEd hz);rcases o1.last m hm z (by rw[e1];exact hz)with e|e
  ·exact e.symm
  ·rcases lm z zt with e'|e'
   ·exact e'
   ·exact(v5 e e').elim
 have yM:y=M:=by
  have yt:y∈ts:=o2.mem y (by rw[e2];exact aEd hy);rcases o2.last M hM y (by rw[e2];exact hy)with e|e
  ·exact e.symm
  ·rcases lM y yt with e'|e'
   ·exact e'
   ·exact(v5 (u8.mp e) e').elim
 subst zm yM;have mM:d9 (y-z):=by
  obtain⟨X,hX,Y,hY,ne⟩:=S.two;rcases lm y hM with e|e
  ·exfalso;subst e;have k:∀W∈ts,W=y:=λW hW=>by
    rcases lm W hW with e|e
    ·exact e
    ·rcases lM W hW with e'|e'
     ·exact e'
     ·exact(v5 e e').elim
   exact ne ((k X hX).trans (k Y hY).symm)
  ·exact e
 refine⟨z,y,c,d,hm,hM,mM,lm,lM,e1,e2,hz,hy,λe=>?_,λe=>?_⟩
 ·subst e;have:y=z:=by simpa using hz
  subst this;exact M5 mM
 ·subst e;have:z=y:=by simpa using hy
  subst this;exact M5 mM
theorem Sheet.pair (h:(P,Q)∈S6 (j6 n ts)):EdgeOf n (λX=>X∈ts) P Q:=by
 obtain⟨m,M,c,d,hm,hM,mM,lm,lM,e1,e2,h3,h4,hc,hd⟩:=S.ends;rw[ER e1 e2 h3 h4 hc,aAS,aCS,aCS]at h;rcases h with h|h
 ·have:=S1 S h;exact(S.ae9 h (S.ab2.1.mem _ this.1)<|S.ab2.1.mem _ this.2).1
 ·have:=S1 S h;exact(S.ae7 h (S.ab3.1.mem _ this.1)<|S.ab3.1.mem _ this.2).1
theorem cA (h:P∈l):∃Q,(P,Q)∈S6 l:=by
 obtain⟨i,hi,e⟩:=aBt h;have hl:l.length=(l.tail++l.take 1).length:=by
  match l,hi with
  |a::l,_=>simp
 refine⟨(l.tail++l.take 1)[i]'(by lia),?_⟩;unfold S6;refine List.mem_of_getElem (i:=i) (h:=by rw[List.length_zip];lia) ?_;rw[List.getElem_zip,e]
theorem Sheet.ac2 (h:EdgeOf n (λX=>X∈ts) P Q):P∈j6 n ts:=by
 obtain⟨m,M,c,d,hm,hM,mM,lm,lM,e1,e2,h3,h4,hc,hd⟩:=S.ends;obtain⟨o1,n1,t1⟩:=S.ab2;obtain⟨o2,n2,t2⟩:=S.ab3;unfold j6;rw[aAS,e1,e2,aAO,aAO,aBB,aBB,aCS,aCS];rcases V0 Q P with e|e|e
 ·exact absurd e.symm h.ne
 ·
  left;rcases xY (Pos:=d9) P (w8 n ts) (λY _=>V0 P Y) (λq hq=>t1 P q hq h.p) (λz hz=>o1.last P h.p z hz) n1 (λu a b=>by have:=A7.add a b;have e0:u+-u=0:=ext (by simp;lia) (by simp;lia) (by simp;lia);rw[e0]at this;exact A7.irr this)with r|⟨a,b,r,r1,r2⟩
  ·rw[e1]at r;rcases aAe.mp r with q|q
   ·subst q;rcases lM Q h.q with y|y
    ·exact absurd y.symm h.ne
    ·exact(v5 e y).elim
   ·exact q
  ·exfalso;have mm:=S1 S r;have ta:=o1.mem _ mm.1;have tb:=o1.mem _ mm.2;have z5:=h.left a ta;have z5':f9 n (Q-P) (a-P)≠0:=λz=>by
    rcases((h.btw a ta z).1 e).1 with y|y
    ·subst y;exact M5 r1
    ·exact v5 r1 y
   exact S.row.ad3 ta tb h.p h.q r1 r2 e ((o1.ed _ r).2 P h.p).1 (by lia) (h.left b tb)
 ·right;rcases xY (Pos:=Q1) P (w8 n ts.reverse) (λY _=>S.ae6.tot P Y h.p (by rename_i hY;exact o2.mem Y hY)) (λq hq=>t2 P q hq h.p) (λz hz=>o2.last P h.p z hz) n2 (λu a b=>by have:=fE.add a b;have e0:u+-u=0:=ext (by simp;lia) (by simp;lia) (by simp;lia);rw[e0]at this;exact fE.irr this)with r|⟨a,b,r,r1,r2⟩
  ·rw[e2]at r;rcases aAe.mp r with q|q
   ·subst q;rcases lm Q h.q with y|y
    ·exact absurd y.symm h.ne
    ·exact(v5 e y).elim
   ·exact q
  ·exfalso;have mm:=S1 S r;have ta:=o2.mem _ mm.1;have tb:=o2.mem _ mm.2;have z5:=h.left a ta;have r1':=u8.mp r1;have z5':f9 n (Q-P) (a-P)≠0:=λz=>by
    rcases((h.btw a ta z).2 e).1 with y|y
    ·subst y;exact M5 r1'
    ·exact v5 r1' y
   exact S.ae6.ad3 ta tb h.p h.q r1 r2 (u8.mpr e) ((o2.ed _ r).2 P h.p).1 (by lia) (h.left b tb)
theorem Sheet.aa1:(P,Q)∈S6 (j6 n ts)↔EdgeOf n (λX=>X∈ts) P Q:=by
 refine⟨S.pair,λh=>?_⟩;obtain⟨R,hR⟩:=cA S (S.ac2 h);have:=(S.pair hR).next h
 subst this;exact hR
end
end G
namespace G
theorem J7 {Pos:V->Prop}(C:Cone Pos):∀(c:List V),(∀e∈D1 c,Pos (e.2-e.1))->c.Pairwise (λb a=>Pos (b-a))
 |[],_=>aGh
 |[x],_=>aDF _ _
 |b::a::r,h=>by
  have ih:=J7 C (a::r) (λe he=>h e (K8 he));have h0:=h (a,b) (by simp[D1]);refine aAw.mpr ⟨λy hy=>?_,ih⟩;rcases aAe.mp hy with e|e
  ·subst e;exact h0
  ·have:=(aAw.mp ih).1 y e;have s:=C.add h0 this;have e0:b-a+(a-y)=b-y:=ext (by simp;lia) (by simp;lia) (by simp;lia);dsimp only at s
   rwa [e0]at s
theorem gK:∀{h:V} {c:List V} {X:V},X∈c->∃b,(X,b)∈D1 (h::c)
 |h,[],X,hX=>by cases hX
 |h,a::r,X,hX=>by
  rcases aAe.mp hX with e|e
  ·subst e;exact⟨h,by simp[D1]⟩
  ·obtain⟨b,hb⟩:=gK (h:=a) e;exact⟨b,K8 hb⟩
section
variable{n:V} {ts:List V} (S:Sheet n ts)
include S
theorem Sheet.aa5 (h:X∈j6 n ts):X∈ts:=by obtain⟨Q,hQ⟩:=cA S h;exact(S.pair hQ).p
theorem Sheet.aa4:(j6 n ts).Nodup:=by
 obtain⟨m,M,c,d,hm,hM,mM,lm,lM,e1,e2,h3,h4,hc,hd⟩:=S.ends;obtain⟨o1,n1,t1⟩:=S.ab2;obtain⟨o2,n2,t2⟩:=S.ab3;unfold j6;rw[e1,e2,aAO,aAO,aBB,aBB];have p1:=J7 A7 (w8 n ts) λe he=>(o1.ed e he).1;have p2:=J7 fE (w8 n ts.reverse) λe he=>(o2.ed e he).1;rw[e1]at p1;rw[e2]at p2;have q1:=(aAw.mp p1).2;have q2:=(aAw.mp p2).2;rw[aCN];refine⟨?_,?_,?_⟩
 ·rw[aBV,aDV];exact q1.imp λ{a b} h e=>by subst e;exact M5 h
 ·rw[aBV,aDV];exact q2.imp λ{a b} h e=>by subst e;exact M5 (u8.mp h)
 ·intro x hx y hy e;subst e;rw[aCS]at hx hy;obtain⟨b,hb⟩:=gK (h:=M) hx;obtain⟨b',ma⟩:=gK (h:=m) hy;rw[<-e1]at hb;rw[<-e2]at ma;have m1:=S1 S hb;have m2:=S1 S ma;obtain⟨g1,l1⟩:=S.ae9 hb (o1.mem _ m1.1) (o1.mem _ m1.2);obtain⟨g2,l2⟩:=S.ae7 ma (o2.mem _ m2.1) (o2.mem _ m2.2);have:=g1.next g2;subst this;exact v5 l1 l2
theorem Sheet.ab4:∃m r,j6 n ts=m::r/\m∈ts/\∀X∈ts,X=m\/d9 (X-m):=by
 obtain⟨m,M,c,d,hm,hM,mM,lm,lM,e1,e2,h3,h4,hc,hd⟩:=S.ends;have e3:∃c',c.reverse=m::c':=by
  have:c.getLast?=some m:=by
   match c,hc with
   |x::c,_=>rw[aAY]at h3;exact h3
  rw[<-aEB]at this;match hh:c.reverse,this with
  |x::r,this=>exact⟨r,by rw[show x=m from aAj this]⟩
 obtain⟨c',e3⟩:=e3;refine⟨m,c'++d.reverse,?_,hm,lm⟩;unfold j6;rw[e1,e2,aAO,aAO,aBB,aBB,e3];rfl
theorem zC (h:(P,Q)∈S6 l):P∈l/\Q∈l:=by
 have h':=aDC h;refine⟨h'.1,?_⟩;match l,h'.2 with
 |a::r,z=>simpa[or_comm]using z
theorem Sheet.strict (h:EdgeOf n (λX=>X∈ts) P Q)(hX:X∈j6 n ts)(h1:X≠P)(h2:X≠Q):0<f9 n (Q-P) (X-P):=by
 have tX:=S.aa5 hX;have h0:=h.left X tX;by_cases z:f9 n (Q-P) (X-P)=0
 ·exfalso;have b:=h.btw X tX z;obtain⟨Y,hY⟩:=cA S hX;have g:=S.pair hY;have l1:=g.left P h.p;have l2:=g.left Q h.q;rcases V0 Q P with e|e|e
  ·exact h.ne e.symm
  ·have b1:=b.1 e;have c1:=b1.1.resolve_left h1;have c2:=b1.2.resolve_left h2;have zz:f9 n (X-P) (Q-X)=0:=by have e1:Q-P=(Q-X)+(X-P):=ext (by simp;lia) (by simp;lia) (by simp;lia);rw[e1,Y0,B1,j5]at z;lia
   have l1':0<=f9 n (X-P) (Y-X):=by have e1:P-X=-(X-P):=(o7 _ _).symm;rw[e1,G5]at l1;rw[j5];lia
   rcases V0 Y X with y|y|y
   ·exact g.ne y.symm
   ·have w1:=S.row.weak c1 y c2 (S.pl _ tX _ h.p) (S.pl _ g.q _ tX) (S.pl _ h.q _ tX) l1' l2;by_cases p1:0<f9 n (X-P) (Y-X)
    ·have:=A7.tr c1 y c2 (C6 S.nz (S.pl _ tX _ h.p) (S.pl _ g.q _ tX)<|S.pl _ h.q _ tX) p1 l2
     lia
    ·have z1:f9 n (Y-X) (P-X)=0:=by have e1:P-X=-(X-P):=(o7 _ _).symm;rw[e1,G5,j5];lia
     rcases((g.btw P h.p z1).1 y).1 with k|k
     ·exact h1 k.symm
     ·exact v5 k c1
   ·have y':d9 (X-Y):=y;have m1:0<=f9 n (X-Y) (X-P):=by have e1:Y-X=-(X-Y):=(o7 _ _).symm;rw[e1,G5,j5]at l1';lia
    have m2:0<=f9 n (Q-X) (X-Y):=by have e1:Y-X=-(X-Y):=(o7 _ _).symm;rw[e1,X8,j5]at l2;lia
    by_cases p1:0<f9 n (Q-X) (X-Y)
    ·have:=A7.tr c2 y' c1 (C6 S.nz (S.pl _ h.q _ tX) (S.pl _ tX _ g.q)<|S.pl _ tX _ h.p) p1 m1;rw[j5]at this;lia
    ·have z1:f9 n (Y-X) (Q-X)=0:=by have e1:Y-X=-(X-Y):=(o7 _ _).symm;rw[e1,X8,j5];lia
     rcases((g.btw Q h.q z1).2 y').1 with k|k
     ·exact h2 k.symm
     ·exact v5 k c2
  ·have b1:=b.2 e;have c1:=b1.1.resolve_left h1;have c2:=b1.2.resolve_left h2;have zz:f9 n (P-X) (X-Q)=0:=by have e1:Q-P=-((P-X)+(X-Q)):=ext (by simp;lia) (by simp;lia) (by simp;lia);have e2:X-P=-(P-X):=(o7 _ _).symm;rw[e1,e2,X8,G5,Y0,B1,j5]at z;lia
   rcases V0 Y X with y|y|y
   ·exact g.ne y.symm
   ·
    have m2:0<=f9 n (X-Q) (Y-X):=by have e1:Q-X=-(X-Q):=(o7 _ _).symm;rw[e1,G5,j5]at l2;lia
    by_cases p1:0<f9 n (X-Q) (Y-X)
    ·have:=A7.tr c2 y c1 (C6 S.nz (S.pl _ tX _ h.q) (S.pl _ g.q _ tX)<|S.pl _ h.p _ tX) p1 l1;rw[j5]at this;lia
    ·have z1:f9 n (Y-X) (Q-X)=0:=by have e1:Q-X=-(X-Q):=(o7 _ _).symm;rw[e1,G5,j5];lia
     rcases((g.btw Q h.q z1).1 y).1 with k|k
     ·exact h2 k.symm
     ·exact v5 k c2
   ·have y':d9 (X-Y):=y;have m1:0<=f9 n (P-X) (X-Y):=by have e1:Y-X=-(X-Y):=(o7 _ _).symm;rw[e1,X8,j5]at l1;lia
    have m2:0<=f9 n (X-Y) (X-Q):=by have e1:Y-X=-(X-Y):=(o7 _ _).symm;have e2:Q-X=-(X-Q):=(o7 _ _).symm;rw[e1,e2,X8,G5]at l2;lia
    by_cases p1:0<f9 n (P-X) (X-Y)
    ·have:=A7.tr c1 y' c2 (C6 S.nz (S.pl _ h.p _ tX) (S.pl _ tX _ g.q)<|S.pl _ tX _ h.q) p1 m2
     lia
    ·have z1:f9 n (Y-X) (P-X)=0:=by have e1:Y-X=-(X-Y):=(o7 _ _).symm;rw[e1,X8,j5];lia
     rcases((g.btw P h.p z1).2 y').1 with k|k
     ·exact h1 k.symm
     ·exact v5 k c1
 ·lia
end
end G
namespace G
def fG {a:V}(h:a≠0):a.x≠0\/a.y≠0\/a.z≠0:=by
 by_cases p:a.x=0
 ·by_cases q:a.y=0
  ·by_cases r:a.z=0
   ·exact absurd (ext p q r) h
   ·exact .inr (.inr r)
  ·exact .inr (.inl q)
 ·exact .inl p
def D2 {a w:V}(ha:a≠0)(h:cr a w=0):∃k m:Int,0<k/\k*w=m*a:=by
 have h1:=congrArg V.x h;have h2:=congrArg V.y h;have h3:=congrArg V.z h;simp at h1 h2 h3;have key:∀k m:Int,k≠0->k*w=m*a->∃k m:Int,0<k/\k*w=m*a:=λk m hk e=>by
  by_cases p:0<k
  ·exact⟨k,m,p,e⟩
  ·refine⟨-k,-m,by lia,?_⟩;have q1:=congrArg V.x e;have q2:=congrArg V.y e;have q3:=congrArg V.z e;simp at q1 q2 q3;apply ext<;>simp<;>grind
 rcases fG ha with p|p|p
 ·exact key a.x w.x p (by apply ext<;>simp<;>grind)
 ·exact key a.y w.y p (by apply ext<;>simp<;>grind)
 ·exact key a.z w.z p (by apply ext<;>simp<;>grind)
def ConeM.ad0 {Pos:V->Prop}(C:ConeM a Pos)(ha:a≠0)(hw:Pos w):cr a w≠0:=λh=>by
 obtain⟨k,m,hk,e⟩:=D2 ha h;have h1:=C.inv (-m) (C.mul hk hw);rw[e]at h1;have e0:m*a+-m*a=0:=by apply ext<;>simp<;>grind
 rw[e0]at h1;exact C.irr h1
def D8 (a A:V):List V->V->V->V×V
 |[],up,out=>(up,out)
 |P::Ps,up,out=>if up=0\/0<d8 up (P-A)then D8 a A Ps (cr a (P-A)) P else D8 a A Ps up out
def KW (a A:V)(Pos:V->Prop)(seen:V->Prop)(up out:V):Prop:=
 (up=0/\∀P,seen P->cr a (P-A)=0)\/(seen out/\Pos (out-A)/\up=cr a (out-A)/\∀P,seen P->f9 a (out-A) (P-A)<=0)
def fU (h:cr a w=0)(u:V):f9 a u w=0:=by
 have e:f9 a u w=-d8 (cr a w) u:=by simp[f9,d8];grind
 rw[e,h];simp[d8]
theorem nT {Pos:V->Prop}(C:ConeM a Pos)(ha:a≠0):∀(pts:List V) (seen:V->Prop) (up out:V),KW a A Pos seen up out->(∀P,seen P->Pos (P-A)\/cr a (P-A)=0)->(∀P∈pts,Pos (P-A)\/cr a (P-A)=0)->
  KW a A Pos (λP=>seen P\/P∈pts) (D8 a A pts up out).1 (D8 a A pts up out).2
 |[],seen,up,out,h,_,_=>by
  show KW a A Pos _ up out;rcases h with⟨h1,h2⟩|⟨h1,h2,h3,h4⟩
  ·exact .inl ⟨h1,λP hP=>h2 P (by simpa using hP)⟩
  ·exact .inr ⟨.inl h1,h2,h3,λP hP=>h4 P (by simpa using hP)⟩
 |Q::pts,seen,up,out,h,hs,hp=>by
  have hQ:=hp Q (by simp);have stp:KW a A Pos (λP=>seen P\/P=Q) (if up=0\/0<d8 up (Q-A)then(cr a<|Q-A)else up) (if up=0\/0<d8 up (Q-A)then Q else out):=by
   rcases h with⟨h1,h2⟩|⟨h1,h2,h3,h4⟩
   ·rw[if_pos (.inl h1),if_pos (.inl h1)];by_cases z:cr a (Q-A)=0
    ·exact .inl ⟨z,λP hP=>by
      rcases hP with hP|hP
      ·exact h2 P hP
      ·subst hP;exact z⟩
    ·refine .inr ⟨.inr rfl,hQ.resolve_right z,rfl,λP hP=>?_⟩;rcases hP with hP|hP
     ·rw[fU (h2 P hP)];exact aCI _
     ·subst hP;rw[B1];exact aCI _
   ·have bf:up≠0:=by rw[h3];exact C.ad0 ha h2
    have ed:d8 up (Q-A)=f9 a (out-A) (Q-A):=by rw[h3,Q8]
    by_cases z:0<d8 up (Q-A)
    ·rw[if_pos (.inr z),if_pos (.inr z)];have hq:Pos (Q-A):=by
      rcases hQ with q|q
      ·exact q
      ·rw[ed,fU q]at z;lia
     refine .inr ⟨.inr rfl,hq,rfl,λP hP=>?_⟩;rcases hP with hP|hP
     ·by_cases zz:f9 a (Q-A) (P-A)<=0
      ·exact zz
      ·exfalso;have hP':Pos (P-A):=by
        rcases hs P hP with q|q
        ·exact q
        ·rw[fU q]at zz;lia
       have:=C.tr h2 hq hP' (by rw[<-ed];exact z) (by lia);have:=h4 P hP
       lia
     ·subst hP;rw[B1];exact aCI _
    ·rw[if_neg (by rintro(q|q);exact bf q;exact z q),if_neg (by rintro(q|q);exact bf q;exact z q)];refine .inr ⟨.inl h1,h2,h3,λP hP=>?_⟩;rcases hP with hP|hP
     ·exact h4 P hP
     ·subst hP;rw[<-ed];lia
  have r:=nT C ha pts (λP=>seen P\/P=Q) _ _ stp (λP hP=>by
   rcases hP with hP|hP
   ·exact hs P hP
   ·subst hP;exact hQ) (λP hP=>hp P (aAd _ hP))
  have e:D8 a A (Q::pts) up out=D8 a A pts (if up=0\/0<d8 up (Q-A)then(cr a<|Q-A)else up) (if up=0\/0<d8 up (Q-A)then Q else out):=by rw[D8];split<;>rfl
  rw[e];have ee:(λP=>(seen P\/P=Q)\/P∈pts)=(λP=>seen P\/P∈Q::pts):=by funext P;simp[or_assoc]
  rw[<-ee];exact r
def EU {Pos:V->Prop}(C:ConeM a Pos)(ha:a≠0)(hp:∀P∈pts,Pos (P-A)\/cr a (P-A)=0)(hx:∃P∈pts,Pos (P-A)):
  (D8 a A pts 0 A).2∈pts/\Pos ((D8 a A pts 0 A).2-A)/\∀P∈pts,f9 a ((D8 a A pts 0 A).2-A) (P-A)<=0:=by
 have h:=nT C ha pts (λ_=>False) 0 A (.inl ⟨rfl,λ_ h=>h.elim⟩) (λ_ h=>h.elim) hp;rcases h with⟨h1,h2⟩|⟨h1,h2,h3,h4⟩
 ·obtain⟨P,hP,hq⟩:=hx;exact absurd (h2 P<|.inr hP) (C.ad0 ha hq)
 ·exact⟨by simpa using h1,h2,λP hP=>h4 P (.inr hP)⟩
def u9 (v:V):Nat:=Nat.gcd (Nat.gcd v.x.natAbs v.y.natAbs) v.z.natAbs
def gT (v:V)(g:Int):V:=⟨v.x/g,v.y/g,v.z/g⟩
def aN (n:V):Prop:=u9 n=1
def kU (k:Int)(v:V):u9 (k*v)=k.natAbs*u9 v:=by unfold u9;simp[Int.natAbs_mul,Nat.gcd_mul_left]
def CN (h:u9 v=0):v=0:=by unfold u9 at h;have h1:=Nat.gcd_eq_zero_iff.mp h;have h2:=Nat.gcd_eq_zero_iff.mp h1.1;exact ext (aED.mp h2.1) (aED.mp h2.2) (aED.mp h1.2)
def KB (v:V):(u9 v:Int)∣v.x/\(u9 v:Int)∣v.y/\(u9 v:Int)∣v.z:=by
 unfold u9;refine⟨?_,?_,?_⟩
 ·exact aEE.mpr (Nat.dvd_trans (aFe _ _)<|aFe _ _)
 ·exact aEE.mpr (Nat.dvd_trans (aFe _ _)<|Nat.gcd_dvd_right _ _)
 ·exact aEE.mpr (Nat.gcd_dvd_right _ _)
def iU (h:c≠0):0<(u9 c:Int)/\c=(u9 c:Int)*gT c (u9 c)/\aN (gT c (u9 c)):=by
 have hg:u9 c≠0:=λz=>h (CN z);have hp:0<(u9 c:Int):=by lia
 obtain⟨d1,d2,d3⟩:=KB c;have e:c=(u9 c:Int)*gT c (u9 c):=by
  apply ext
  ·show _=_*(c.x/_);rw[aEe d1]
  ·show _=_*(c.y/_);rw[aEe d2]
  ·show _=_*(c.z/_);rw[aEe d3]
 refine⟨hp,e,?_⟩;have:=congrArg u9 e;rw[kU]at this;simp only[Int.natAbs_natCast]at this;unfold aN;have h2:u9 c*1=u9 c*u9 (gT c<|u9 c):=by lia
 exact(Nat.eq_of_mul_eq_mul_left (by lia) h2).symm
def aN.ne (h:aN n):n≠0:=λe=>by subst e;unfold aN at h;exact absurd h (by decide)
def zM {n m:V}{k l:Int}(hn:aN n)(hm:aN m)(hk:0<k)(hl:0<l)(e:k*n=l*m):n=m:=by
 have:=congrArg u9 e;rw[kU,kU,hn,hm]at this;have ekl:k=l:=by lia
 subst ekl;have h1:=congrArg V.x e;have h2:=congrArg V.y e;have h3:=congrArg V.z e;simp at h1 h2 h3;exact ext (aDp (by lia) h1) (aDp (by lia) h2) (aDp (by lia) h3)
def j1 (P Q R:V):V×Int:=let n:=gT (cr (Q-P)<|R-P) (u9<|cr (Q-P)<|R-P);(n,d8 n P)
structure IsFace (pts:List V)(n:V)(d:Int):Prop where
 prim:aN n
 sup:∀X∈pts,d8 n X<=d
 three:∃A∈pts,∃B∈pts,∃C∈pts,d8 n A=d/\d8 n B=d/\d8 n C=d/\cr (B-A) (C-A)≠0
def R1 (hu:d8 n u=0)(hv:d8 n v=0):cr n (cr u v)=0:=by simp[d8]at hu hv;apply ext<;>simp<;>grind
def qG (hc:c≠0)(h1:cr n c=0)(h2:cr m c=0):cr n m=0:=by
 have s1:cr c n=0:=by have:=congrArg V.x h1;have:=congrArg V.y h1;have:=congrArg V.z h1;simp at*;apply ext<;>simp<;>grind
 have s2:cr c m=0:=by have:=congrArg V.x h2;have:=congrArg V.y h2;have:=congrArg V.z h2;simp at*;apply ext<;>simp<;>grind
 obtain⟨k,p,hk,e1⟩:=D2 hc s1;obtain⟨l,q,hl,e2⟩:=D2 hc s2;have e:(k*l)*cr n m=0:=by
  have:(k*l)*cr n m=cr (k*n) (l*m):=by apply ext<;>simp<;>grind
  rw[this,e1,e2];apply ext<;>simp<;>grind
 have yv:k*l≠0:=λz=>by rcases aAI.mp z with q|q<;>lia
 have h1:=congrArg V.x e;have h2:=congrArg V.y e;have h3:=congrArg V.z e;simp only[FS,IP,KA,bB,aW,aS]at h1 h2 h3;exact ext ((aAI.mp h1).resolve_left yv) ((aAI.mp h2).resolve_left yv) ((aAI.mp h3).resolve_left yv)
def kE {pts:List V}{n m:V}{d e:Int}(hn:aN n)(hm:aN m)(sn:∀X∈pts,d8 n X<=d)(sm:∀X∈pts,d8 m X<=e){A B C Z:V}(hA:d8 n A=d)(hB:d8 n B=d)(hC:d8 n C=d)(hA':d8 m A=e)(hB':d8 m B=e)(hC':d8 m C=e)
  (hc:cr (B-A) (C-A)≠0) (hZ:Z∈pts) (hz:d8 n Z<d):n=m/\d=e:=by
 have n1:cr n (cr (B-A)<|C-A)=0:=R1 (by rw[f8];lia) (by rw[f8];lia);have m1:cr m (cr (B-A)<|C-A)=0:=R1 (by rw[f8];lia) (by rw[f8];lia);have p:=qG hc m1 n1;obtain⟨k,l,hk,e1⟩:=D2 hm.ne p;have hl:0<l:=by
  have q:=congrArg (λv=>d8 v (Z-A)) e1;rw[V2,V2]at q;have q1:d8 n (Z-A)<0:=by rw[f8];lia
  have q2:d8 m (Z-A)<=0:=by rw[f8];have:=sm Z hZ;lia
  have q3:k*d8 n (Z-A)<0:=aBG hk q1;by_cases z:0<l
  ·exact z
  ·exfalso;have:0<=l*d8 m (Z-A):=by
    have:=aDP (show 0<=-l by lia) (show 0<=-d8 m (Z-A)by lia)
    rwa [aFq]at this
   lia
 have e2:=zM hn hm hk hl e1;subst e2;exact⟨rfl,by lia⟩
end G
namespace G
def b8 (A B:V)(pts:List V):V×Int:=j1 A B (D8 (B-A) A pts 0 A).2
def v7 (n:V)(d:Int)(pts:List V):List V:=pts.filter λX=>decide (d8 n X=d)
def c8:X∈v7 n d pts↔X∈pts/\d8 n X=d:=by simp[v7]
def mE (h:cr (Q-P) (R-P)≠0):∃g:Int,0<g/\cr (Q-P) (R-P)=g*(j1 P Q R).1/\aN (j1 P Q R).1/\(j1 P Q R).2=d8 (j1 P Q R).1 P:=by obtain⟨h1,h2,h3⟩:=iU h;exact⟨_,h1,h2,h3,rfl⟩
def T5 {Pos:V->Prop}(C:ConeM (B-A) Pos)(hAB:B-A≠0)(hp:∀P∈pts,Pos (P-A)\/cr (B-A) (P-A)=0)(hx:∃P∈pts,Pos (P-A)):
  ∃(out:V) (g:Int),out∈pts/\Pos (out-A)/\0<g/\cr (B-A) (out-A)=g*(b8 A B pts).1/\aN (b8 A B pts).1/\(b8 A B pts).2=d8 (b8 A B pts).1 A/\
   (∀P∈pts,d8 (b8 A B pts).1 P<=(b8 A B pts).2)/\d8 (b8 A B pts).1 B=(b8 A B pts).2/\d8 (b8 A B pts).1 out=(b8 A B pts).2/\
   (∀P∈pts,d8 (b8 A B pts).1 P=(b8 A B pts).2->f9 (B-A) (out-A) (P-A)=0):=by
 obtain⟨h1,h2,h3⟩:=EU C hAB hp hx;have hc:=C.ad0 hAB h2;obtain⟨g,g0,ge,gp,gd⟩:=mE hc;have key:∀w:V,g*d8 (b8 A B pts).1 w=f9 (B-A) ((D8 (B-A) A pts 0 A).2-A) w:=λw=>by have:d8 (cr (B-A)<|(D8 (B-A) A pts 0 A).2-A) w=f9 (B-A) ((D8 (B-A) A pts 0 A).2-A) w:=Q8 _ _ _;rw[<-this,ge,V2];rfl
 have eA:(b8 A B pts).2=d8 (b8 A B pts).1 A:=gd;have z0:∀w:V,f9 (B-A) ((D8 (B-A) A pts 0 A).2-A) w=0->d8 (b8 A B pts).1 w=0:=λw hw=>by have:=key w;rw[hw]at this;exact(aAI.mp this).resolve_left (by lia)
 refine⟨_,g,h1,h2,g0,ge,gp,gd,λP hP=>?_,?_,?_,λP hP e=>?_⟩
 ·have h:=h3 P hP;rw[<-key]at h;have:d8 (b8 A B pts).1 (P-A)<=0:=by
   by_cases z:d8 (b8 A B pts).1 (P-A)<=0
   ·exact z
   ·have:=aBA g0 (show 0<d8 (b8 A B pts).1 (P-A)by lia)
    lia
  rw[f8]at this
  lia
 ·have:=z0 (B-A) (by simp[f9,d8];grind);rw[f8]at this;lia
 ·have:=z0 ((D8 (B-A) A pts 0 A).2-A) (B1 _ _);rw[f8]at this;lia
 ·rw[<-key,f8];have:d8 (b8 A B pts).1 P-d8 (b8 A B pts).1 A=0:=by lia
  rw[this];simp
def vG {Pos:V->Prop}(C:ConeM a Pos)(ha:a≠0)(ho:Pos o)(hw:Pos w)(h:f9 a o w=0):0<d8 (cr a o) (cr a w):=by
 by_cases z:0<d8 (cr a o) (cr a w)
 ·exact z
 ·exfalso;have bf:=C.ad0 ha ho;have ue:=B8 bf;have h1:Pos (d8 (cr a o) (cr a o)*w+(-d8 (cr a o) (cr a w))*o):=C.comb ue (by lia) hw ho;refine C.ad0 ha h1 ?_;have hx:cr (cr a o) (cr a w)=f9 a o w*a:=by simp[f9,d8];apply ext<;>simp<;>grind
  rw[h,t9]at hx;have e1:cr a (d8 (cr a o) (cr a o)*w+(-d8 (cr a o) (cr a w))*o)=d8 (cr a o) (cr a o)*cr a w+(-d8 (cr a o) (cr a w))*cr a o:=by apply ext<;>simp<;>grind
  rw[e1];have e2:∀p q:V,d8 p p*q+(-d8 p q)*p=cr p (cr q p):=λp q=>by simp[d8];apply ext<;>simp<;>grind
  rw[e2];have e3:cr (cr a w) (cr a o)=0:=by have q1:=congrArg V.x hx;have q2:=congrArg V.y hx;have q3:=congrArg V.z hx;simp only[NF,MF,LC,bB,aW,aS]at q1 q2 q3;apply ext<;>simp only[NF,MF,LC,bB,aW,aS]<;>grind
  rw[e3];apply ext<;>simp
def YI.symm (h:YI P Q X):YI Q P X:=⟨λa=>⟨(h.2 a).2,(h.2 a).1⟩,λa=>⟨(h.1 a).2,(h.1 a).1⟩⟩
def oK (hn:n≠0)(hab:d8 n (a-b)=0):ConeM (a-b) (λw=>d8 n w<0\/(d8 n w=0/\0<f9 n (b-a) w))where
 add:=λ{u v} h1 h2=>by
  rw[Z1,X1]
  lia
 mul:=λ{k u} hk h=>by
  rw[u5,tZ];rcases h with h|⟨h,h'⟩
  ·exact .inl (aBG hk h)
  ·exact .inr ⟨by rw[h];simp,aBA hk h'⟩
 irr:=by rw[N8,cB];lia
 inv:=λ{u} k h=>by
  have e:f9 n (b-a) (a-b)=0:=by have:a-b=-(b-a):=(o7 _ _).symm;rw[this,G5,B1];rfl
  rw[Z1,X1,u5,tZ,hab,e];simpa using h
def dA (hn:n≠0)(hu:d8 n u=0)(hw:d8 n w=0)(h:f9 n u w=0):cr u w=0:=by
 have h1:cr n (cr u w)=0:=R1 hu hw;obtain⟨k,m,hk,e⟩:=D2 hn h1;have q:=congrArg (d8 n) e;rw[u5,u5]at q;have:d8 n (cr u w)=0:=h;rw[this]at q;have hm:m=0:=by
  have:=B8 hn;have q':m*d8 n n=0:=by lia
  rcases aAI.mp q' with z|z
  ·exact z
  ·lia
 rw[hm,t9]at e;have q1:=congrArg V.x e;have q2:=congrArg V.y e;have q3:=congrArg V.z e;simp only[FS,IP,KA,bB,aW,aS]at q1 q2 q3;exact ext ((aAI.mp q1).resolve_left (by lia)) ((aAI.mp q2).resolve_left (by lia)) ((aAI.mp q3).resolve_left (by lia))
def sT (h:cr u w=0):cr (-u) w=0:=by have q1:=congrArg V.x h;have q2:=congrArg V.y h;have q3:=congrArg V.z h;simp only[NF,MF,LC,bB,aW,aS]at q1 q2 q3;apply ext<;>simp<;>grind
def oT (hn:n≠0)(hs:∀X∈pts,d8 n X<=d)(hz:∃Z∈pts,d8 n Z<d)(h:EdgeOf n (λX=>X∈v7 n d pts) a b):
  IsFace pts (b8 b a pts).1 (b8 b a pts).2/\EdgeOf (b8 b a pts).1 (λX=>X∈v7 (b8 b a pts).1 (b8 b a pts).2 pts) b a:=by
 obtain⟨pa,da⟩:=c8.mp h.p;obtain⟨pb,db⟩:=c8.mp h.q;have hab:d8 n (a-b)=0:=by rw[f8];lia
 have hba:d8 n (b-a)=0:=by rw[f8];lia
 have C:=oK (n:=n) hn hab;have bf:a-b≠0:=λe=>h.ne (by have q1:=congrArg V.x e;have q2:=congrArg V.y e;have q3:=congrArg V.z e;simp at q1 q2 q3;exact ext (by lia) (by lia) (by lia))
 have hp:∀P∈pts,(d8 n (P-b)<0\/(d8 n (P-b)=0/\0<f9 n (b-a) (P-b)))\/cr (a-b) (P-b)=0:=λP hP=>by
  have h1:=hs P hP;by_cases z:d8 n P<d
  ·exact .inl (.inl (by rw[f8];lia))
  ·have e:d8 n P=d:=by lia
   have tP:P∈v7 n d pts:=c8.mpr ⟨hP,e⟩;have l:=h.left P tP;rw[lJ]at l;have e0:d8 n (P-b)=0:=by rw[f8];lia
   by_cases y:0<f9 n (b-a) (P-b)
   ·exact .inl (.inr ⟨e0,y⟩)
   ·have y0:f9 n (b-a) (P-b)=0:=by lia
    have:=sT (dA hn hba e0 y0);rw[o7]at this;exact .inr this
 obtain⟨Z,hZ,hz⟩:=hz;obtain⟨out,g,o1,o2,g0,ge,gp,gd,sup,sB,sO,sP⟩:=T5 C bf hp ⟨Z,hZ,.inl (by rw[f8];lia)⟩;refine⟨⟨gp,sup,b,pb,a,pa,out,o1,gd.symm,sB,sO,C.ad0 bf o2⟩,⟨c8.mpr ⟨pb,gd.symm⟩,c8.mpr ⟨pa,sB⟩,λe=>h.ne e.symm,λX hX=>?_,λX hX e=>?_⟩⟩
 ·obtain⟨pX,eX⟩:=c8.mp hX;have z:=sP X pX eX;have e1:g*f9 (b8 b a pts).1 (a-b) (X-b)=d8 (cr (a-b)<|out-b) (cr (a-b)<|X-b):=by rw[ge];unfold f9;rw[V2]
  have:0<=d8 (cr (a-b)<|out-b) (cr (a-b)<|X-b):=by
   rcases hp X pX with q|q
   ·exact aBe (vG C bf o2 q z)
   ·rw[q,N8];exact aCI _
  rw[<-e1]at this;by_cases zz:0<=f9 (b8 b a pts).1 (a-b) (X-b)
  ·exact zz
  ·have:=aBG g0 (show f9 (b8 b a pts).1 (a-b) (X-b)<0 by lia)
   lia
 ·obtain⟨pX,eX⟩:=c8.mp hX;have z:=sP X pX eX;have e1:g*f9 (b8 b a pts).1 (a-b) (X-b)=d8 (cr (a-b)<|out-b) (cr (a-b)<|X-b):=by rw[ge];unfold f9;rw[V2]
  rw[e]at e1;rcases hp X pX with q|q
  ·have:=vG C bf o2 q z;rw[<-e1]at this;simp at this
  ·
   have dX:d8 n X=d:=by obtain⟨k,m,hk,e⟩:=D2 bf q;have q:=congrArg (d8 n) e;rw[u5,u5,hab]at q;have:d8 n (X-b)=0:=(aAI.mp (show k*d8 n (X-b)=0 by lia)).resolve_left (by lia);rw[f8]at this;lia
   refine(h.btw X (c8.mpr ⟨pX,dX⟩) ?_).symm;rw[lJ];have:cr (b-a) (X-b)=0:=by
    have:=sT q
    rwa [o7]at this
   unfold f9;rw[this,N8]
end G
namespace G
def y9:List V->Option V
 |[]=>none
 |w::ws=>if w≠0 then some w else y9 ws
def p7 (h:y9 ws=some w):w∈ws/\w≠0:=by
 induction ws with
 |nil=>cases h
 |cons v ws ih=>
  unfold y9 at h;split at h
  ·rename_i hv;cases h;exact⟨by simp,hv⟩
  ·have:=ih h;exact⟨aAd _ this.1,this.2⟩
def K5 (h:y9 ws=none):∀w∈ws,w=0:=by
 induction ws with
 |nil=>intro w hw;cases hw
 |cons v ws ih=>
  unfold y9 at h;split at h
  ·cases h
  ·rename_i hv;intro w hw;rcases aAe.mp hw with e|e
   ·subst e;exact Decidable.not_not.mp hv
   ·exact ih h w e
def G4:List V->Nat
 |[]=>0
 |p::ps=>
  let ways:=(p::ps).map (· -p)
  match y9 ways with
  |none=>0
  |some along=>match y9 (ways.map<|cr along)with
   |none=>1
   |some up=>if ways.any (λw=>decide (d8 up w≠0))then 3 else 2
def n4 (pts:List V):Prop:=∃A∈pts,∃B∈pts,∃C∈pts,∃D∈pts,f9 (B-A) (C-A) (D-A)≠0
def pF (h:G4 pts=3):n4 pts:=by
 match pts,h with
 |p::ps,h=>
  unfold G4 at h;dsimp only at h;split at h
  ·cases h
  ·rename_i along h1;split at h
   ·cases h
   ·rename_i up h2;split at h
    ·rename_i h3;obtain⟨m1,n1⟩:=p7 h1;obtain⟨m2,n2⟩:=p7 h2;obtain⟨w2,m2,e2⟩:=aAp.mp m2;rw[aDZ]at h3;obtain⟨w3,m3,e3⟩:=h3;obtain⟨B,hB,eB⟩:=aAp.mp m1;obtain⟨C,hC,eC⟩:=aAp.mp m2;obtain⟨D,hD,eD⟩:=aAp.mp m3;refine⟨p,by simp,B,hB,C,hC,D,hD,?_⟩;rw[eB,eC,eD];have e3':d8 up w3≠0:=by simpa using e3
     rw[<-e2,Q8]at e3';exact e3'
    ·cases h
def GU (h:G4 pts≠3):¬n4 pts:=by
 rintro⟨A,hA,B,hB,C,hC,D,hD,hd⟩;match pts,h,hA,hB,hC,hD with
 |p::ps,h,hA,hB,hC,hD=>
  unfold G4 at h;dsimp only at h;have mm:∀X∈p::ps,X-p∈(p::ps).map (· -p):=λX hX=>aAp.mpr ⟨X,hX,rfl⟩;have fin:∀n:V,n≠0->(∀X∈p::ps,d8 n (X-p)=0)->False:=λn hn hz=>by
   have q:∀X∈p::ps,d8 n (X-A)=0:=λX hX=>by have h1:=hz X hX;have h2:=hz A hA;rw[f8]at*;lia
   exact hd (C6 hn (q B hB) (q C hC)<|q D hD)
  split at h
  ·rename_i h1;have z:=K5 h1;refine fin ⟨1,0,0⟩ (λe=>by have:=congrArg V.x e;simp at this) λX hX=>?_;rw[z _ (mm X hX)];exact N8 _
  ·rename_i along h1;obtain⟨m1,n1⟩:=p7 h1;split at h
   ·rename_i h2;have z:=K5 h2;have z':∀X∈p::ps,cr along (X-p)=0:=λX hX=>z _ (aAp.mpr ⟨_,mm X hX,rfl⟩);obtain⟨u,hu,bu⟩:∃u:V,cr along u≠0/\True:=by
     rcases fG n1 with q|q|q
     ·exact⟨⟨0,1,0⟩,λe=>q (by have:=congrArg V.z e;simpa using this),trivial⟩
     ·exact⟨⟨1,0,0⟩,λe=>q (by have:=congrArg V.z e;simpa using this),trivial⟩
     ·exact⟨⟨0,1,0⟩,λe=>q (by have:=congrArg V.x e;simpa using this),trivial⟩
    refine fin (cr along u) hu λX hX=>?_;rw[Q8,fU (z' X hX)]
   ·rename_i up h2;obtain⟨m2,n2⟩:=p7 h2;split at h
    ·exact h rfl
    ·rename_i h3;refine fin up n2 λX hX=>?_;by_cases z:d8 up (X-p)=0
     ·exact z
     ·exact absurd (aDZ.mpr ⟨X-p,mm X hX,by simpa using z⟩) h3
def ID (h:G4 pts<2):∀X∈pts,∀Y∈pts,∀Z∈pts,cr (Y-X) (Z-X)=0:=by
 match pts,h with
 |[],_=>intro X hX;cases hX
 |p::ps,h=>
  unfold G4 at h;dsimp only at h;have mm:∀X∈p::ps,X-p∈(p::ps).map (· -p):=λX hX=>aAp.mpr ⟨X,hX,rfl⟩;intro X hX Y hY Z hZ;split at h
  ·rename_i h1;have z:=K5 h1;have e:∀W∈p::ps,W=p:=λW hW=>by have:=z _ (mm W hW);have q1:=congrArg V.x this;have q2:=congrArg V.y this;have q3:=congrArg V.z this;simp at q1 q2 q3;exact ext (by lia) (by lia) (by lia)
   rw[e X hX,e Y hY,u7];apply ext<;>simp
  ·rename_i along h1;obtain⟨m1,n1⟩:=p7 h1;split at h
   ·rename_i h2;have z:=K5 h2;have z':∀X∈p::ps,cr along (X-p)=0:=λX hX=>z _ (aAp.mpr ⟨_,mm X hX,rfl⟩);have k:∀U∈p::ps,∀W∈p::ps,cr (U-W) along=0:=λU hU W hW=>by have q1:=z' U hU;have q2:=z' W hW;have a1:=congrArg V.x q1;have a2:=congrArg V.y q1;have a3:=congrArg V.z q1;have b1:=congrArg V.x q2;have b2:=congrArg V.y q2;have b3:=congrArg V.z q2;simp at a1 a2 a3 b1 b2 b3;apply ext<;>simp<;>grind
    exact qG n1 (k Y hY X hX) (k Z hZ X hX)
   ·split at h<;>lia
def DM (h:2<=G4 pts):∃X∈pts,∃Y∈pts,∃Z∈pts,cr (Y-X) (Z-X)≠0:=by
 match pts,h with
 |[],h=>exact absurd h (by simp[G4])
 |p::ps,h=>
  unfold G4 at h;dsimp only at h;split at h
  ·lia
  ·rename_i along h1;obtain⟨m1,n1⟩:=p7 h1;split at h
   ·lia
   ·rename_i up h2;obtain⟨m2,n2⟩:=p7 h2;obtain⟨w2,m2,e2⟩:=aAp.mp m2;obtain⟨B,hB,eB⟩:=aAp.mp m1;obtain⟨C,hC,eC⟩:=aAp.mp m2;exact⟨p,by simp,B,hB,C,hC,by rw[eB,eC,e2];exact n2⟩
def n4.off (h:n4 pts)(hn:n≠0):∃Z∈pts,d8 n Z≠d:=by
 obtain⟨A,hA,B,hB,C,hC,D,hD,hd⟩:=h;by_cases a:d8 n A=d
 ·by_cases b:d8 n B=d
  ·by_cases c:d8 n C=d
   ·by_cases e:d8 n D=d
    ·exact absurd (C6 hn (by rw[f8];lia) (by rw[f8];lia) (by rw[f8];lia)) hd
    ·exact⟨D,hD,e⟩
   ·exact⟨C,hC,c⟩
  ·exact⟨B,hB,b⟩
 ·exact⟨A,hA,a⟩
def n4.below (h:n4 pts)(hn:n≠0)(hs:∀X∈pts,d8 n X<=d):∃Z∈pts,d8 n Z<d:=by obtain⟨Z,hZ,e⟩:=h.off (d:=d) hn;exact⟨Z,hZ,by have:=hs Z hZ;lia⟩
def kk:V:=⟨0,0,1⟩
def d6 (m:V)(pts:List V):V×V:=
 let u:=b8 m (m+kk) pts
 let touched:=v7 u.1 u.2 pts
 if G4 touched=2 then(m,m+kk)else(touched.getD 0 0,touched.getD 1 0)
def zA:ConeM kk (λw=>0<w.x\/(w.x=0/\0<w.y))where
 add:=λ{u v} h1 h2=>by simp;lia
 mul:=λ{k u} hk h=>by
  simp;rcases h with h|⟨h,h'⟩
  ·exact .inl (aBA hk h)
  ·exact .inr ⟨by rw[h];simp,aBA hk h'⟩
 irr:=by simp
 inv:=λ{u} k h=>by simpa[kk]using h
def yI (h:d8 n a=0):ConeM a (λw=>d8 n w<0)where
 add:=λ{u v} h1 h2=>by rw[Z1];lia
 mul:=λ{k u} hk h=>by rw[u5];exact aBG hk h
 irr:=by rw[N8];lia
 inv:=λ{u} k h'=>by rw[Z1,u5,h];simpa using h'
def J2 (m k:V):m+k-m=k:=ext (by simp;lia) (by simp;lia) (by simp;lia)
def kS (hs:n4 pts)(ho:pts.Pairwise (λa b=>d9 (b-a)))(hm:m∈pts)(hl:∀X∈pts,X=m\/d9 (X-m)):
  IsFace pts (b8 (d6 m pts).1 (d6 m pts).2 pts).1 (b8 (d6 m pts).1 (d6 m pts).2 pts).2:=by
 have C:ConeM (m+kk-m) (λw=>0<w.x\/(w.x=0/\0<w.y)):=by rw[J2];exact zA
 have bf:m+kk-m≠0:=by rw[J2];intro e;have:=congrArg V.z e;simp[kk]at this
 have hp:∀P∈pts,(0<(P-m).x\/((P-m).x=0/\0<(P-m).y))\/cr (m+kk-m) (P-m)=0:=λP hP=>by
  rw[J2];rcases hl P hP with e|e
  ·right;subst e;rw[u7];apply ext<;>simp
  ·unfold d9 at e;rcases e with e|⟨e1,e|⟨e2,e3⟩⟩
   ·exact .inl (.inl e)
   ·exact .inl (.inr ⟨e1,e⟩)
   ·right;apply ext
    ·simp[kk];simp at e2;lia
    ·simp[kk];simp at e1;lia
    ·simp[kk]
 have hx:∃P∈pts,0<(P-m).x\/((P-m).x=0/\0<(P-m).y):=by
  by_cases z:∃P∈pts,0<(P-m).x\/((P-m).x=0/\0<(P-m).y)
  ·exact z
  ·exfalso;obtain⟨Z,hZ,e⟩:=hs.off (n:=⟨1,0,0⟩) (d:=m.x) (λe=>by have:=congrArg V.x e;simp at this);have w:=(hp Z hZ).resolve_left λq=>z ⟨Z,hZ,q⟩;rw[J2]at w;have:=congrArg V.y w;simp[kk]at this;simp[d8]at e
   lia
 obtain⟨out,g,o1,o2,g0,ge,gp,gd,sup,sB,sO,sP⟩:=T5 C bf hp hx;have tm:m∈v7 (b8 m (m+kk) pts).1 (b8 m (m+kk) pts).2 pts:=c8.mpr ⟨hm,gd.symm⟩;have to:out∈v7 (b8 m (m+kk) pts).1 (b8 m (m+kk) pts).2 pts:=c8.mpr ⟨o1,sO⟩;have hmo:m≠out:=λe=>by subst e;rw[u7]at o2;simp at o2
 by_cases h2:G4 (v7 (b8 m (m+kk) pts).1 (b8 m (m+kk) pts).2 pts)=2
 ·have e:d6 m pts=(m,m+kk):=by unfold d6;simp only[h2,if_true]
  rw[e];obtain⟨X,hX,Y,hY,Z,hZ,hc⟩:=DM (pts:=v7 (b8 m (m+kk) pts).1 (b8 m (m+kk) pts).2 pts) (by lia);have hX:=c8.mp hX;have hY:=c8.mp hY;have hZ:=c8.mp hZ;exact⟨gp,sup,X,hX.1,Y,hY.1,Z,hZ.1,hX.2,hY.2,hZ.2,hc⟩
 ·
  have h1:G4 (v7 (b8 m (m+kk) pts).1 (b8 m (m+kk) pts).2 pts)≠3:=λz=>by obtain⟨A,hA,B,hB,C,hC,D,hD,hd⟩:=pF z;have hA:=c8.mp hA;have hB:=c8.mp hB;have hC:=c8.mp hC;have hD:=c8.mp hD;exact hd (C6 gp.ne (by rw[f8];lia) (by rw[f8];lia) (by rw[f8];lia))
  have ar:G4 (v7 (b8 m (m+kk) pts).1 (b8 m (m+kk) pts).2 pts)<2:=by
   have:G4 (v7 (b8 m (m+kk) pts).1 (b8 m (m+kk) pts).2 pts)<=3:=by
    generalize v7 (b8 m (m+kk) pts).1 (b8 m (m+kk) pts).2 pts=t;unfold G4;split
    ·lia
    ·dsimp only;split
     ·lia
     ·split
      ·lia
      ·split<;>lia
   lia
  have line:=ID ar;have e:d6 m pts=((v7 (b8 m (m+kk) pts).1 (b8 m (m+kk) pts).2 pts).getD 0 0,(v7 (b8 m (m+kk) pts).1 (b8 m (m+kk) pts).2 pts).getD 1 0):=by unfold d6;simp only[h2,if_false]
  rw[e];have ord:(v7 (b8 m (m+kk) pts).1 (b8 m (m+kk) pts).2 pts).Pairwise (λa b=>d9 (b-a)):=aFF _ ho;have onm:∀X,X∈v7 (b8 m (m+kk) pts).1 (b8 m (m+kk) pts).2 pts↔X∈pts/\d8 (b8 m (m+kk) pts).1 X=(b8 m (m+kk) pts).2:=λX=>c8;generalize v7 (b8 m (m+kk) pts).1 (b8 m (m+kk) pts).2 pts=t at*
  match t,tm,to with
  |[],tm,_=>cases tm
  |[x],tm,to=>simp at tm to;exact absurd (tm.trans to.symm) hmo
  |x::y::r,tm,to=>
   dsimp only[List.getD_cons_zero,List.getD_cons_succ];have hxy:d9 (y-x):=(aAw.mp ord).1 y (by simp);have ox:=(onm x).mp (by simp);have oy:=(onm y).mp (by simp);have zw:y-x≠0:=λz=>by rw[z]at hxy;exact A7.irr hxy
   have na:d8 (b8 m (m+kk) pts).1 (y-x)=0:=by rw[f8];lia
   have C2:=yI na;obtain⟨Z,hZ,hz⟩:=hs.below gp.ne sup;obtain⟨out2,g2,p1,p2,p0,pe,pp,pd,sup2,sB2,sO2,sP2⟩:=T5 C2 zw (pts:=pts) (λP hP=>by
    have:=sup P hP;by_cases q:d8 (b8 m (m+kk) pts).1 P<(b8 m (m+kk) pts).2
    ·exact .inl (by rw[f8];lia)
    ·exact .inr (line x (by simp) y (by simp) P ((onm P).mpr ⟨hP,by lia⟩))) ⟨Z,hZ,by rw[f8];lia⟩
   exact⟨pp,sup2,x,ox.1,y,oy.1,out2,p1,pd.symm,sB2,sO2,C2.ad0 zw p2⟩
end G
namespace DL
open PySem PySem.Spec L2
open PyProof.Rows hiding St
section
def OT:List D->Option (List Int)
 |[]=>some []
 |.int i::r=>(OT r).map (i::·)
 |_=>none
def tj:List D->R D
 |[.lst xs]=>match OT xs with
  |some ns=>.ok (.int ns.sum)
  |none=>.bad
 |_=>.bad
variable [Tabs]in
end
theorem oI (Iv:List D->Ev->Prop)(ht:∀d ds ρ,Iv (d::ds) ρ->∃ρ2,jE G F d ρ=.ok (.nx ρ2)/\Iv ds ρ2):∀{ds:List D} {ρ:Ev},Iv ds ρ->∃av,O8 G F ds ρ=.ok (.nx av)/\Iv [] av
 |[],ρ,h=>⟨ρ,rfl,h⟩
 |d::ds,ρ,h=>by
  obtain⟨ρ2,e,h2⟩:=ht d ds ρ h;obtain⟨av,e',h'⟩:=oI Iv ht h2;unfold jE at e;cases e1:G d ρ with
  |ok ρ1=>rw[e1]at e;exact⟨av,by rw[O8,e1];dsimp only at e⊢;rw[e];exact e',h'⟩
  |ex x=>rw[e1]at e;cases e
  |bad=>rw[e1]at e;cases e
def fR (Iv:List D->Ev->Prop)(ht:∀d ds ρ,Iv (d::ds) ρ->∃ρ2,jE G F d ρ=.ok (.nx ρ2)/\Iv ds ρ2)(h0:Iv ds ρ)(h2:∀av,Iv [] av->N4 (F2 av)=.ok d):
  N4 (B5 (O8 G F ds ρ) F2)=.ok d:=by
 obtain⟨av,e,h⟩:=oI Iv ht h0;rw[e];exact h2 av h
def uC {Post:Ev->Prop}(Iv:Nat->Ev->Prop)(ht:∀n ρ,Iv (n+1) ρ->c ρ=.ok false\/(c ρ=.ok true/\∃ρ2,F ρ=.ok (.nx ρ2)/\Iv n ρ2))(h00:∀ρ,¬Iv 0 ρ)(h0:Iv n ρ)(hp:∀m av,Iv m av->c av=.ok false->Post av):∃ρ2,P6 c F n ρ=.ok (.nx ρ2)/\Post ρ2:=by obtain⟨m,av,e,h,hc⟩:=dQ Iv ht h00 n ρ h0;exact⟨av,e,hp m av h hc⟩
end DL
namespace M
open PySem L2 DL
abbrev uE (n:G.V)(d:Int):D:=.tup [.int n.x,.int n.y,.int n.z,.int d]
def B4:List D->R D
 |[.tup [.int a,.int b,.int c]]=>.ok (.int (G.u9 ⟨a,b,c⟩))
 |_=>.bad
def yT (v:G.V):B4 [vd v]=.ok (.int (G.u9 v)):=rfl
def nj (P Q R:G.V):Prop:=Sz 1000 P/\Sz 1000 Q/\Sz 1000 R
open Classical in
def Q0:List D->R D:=v1 λa b c=>v1 λd e f=>v1 λg h i=>rY (
 if nj ⟨a,b,c⟩ ⟨d,e,f⟩ ⟨g,h,i⟩/\G.cr ((⟨d,e,f⟩:G.V)-⟨a,b,c⟩) ((⟨g,h,i⟩:G.V)-⟨a,b,c⟩)≠0 then .ok (uE (G.j1 ⟨a,b,c⟩ ⟨d,e,f⟩ ⟨g,h,i⟩).1 (G.j1 ⟨a,b,c⟩ ⟨d,e,f⟩ ⟨g,h,i⟩).2)else .bad)
def JA {P Q R:G.V}(h:nj P Q R)(hc:G.cr (Q-P) (R-P)≠0):Q0 [vd P,vd Q,vd R]=.ok (uE (G.j1 P Q R).1 (G.j1 P Q R).2):=if_pos ⟨h,hc⟩
def DX (h:Sz n v):bits (G.u9 v:Nat)<=n:=by
 have e:((G.u9 v:Nat):Int)=aGi (aGi v.x v.y:Nat) v.z:=by simp[G.u9,aGi]
 rw[e];exact sJ (sJ h.1 h.2.1) h.2.2
def kT {a g:Int}(h:0<g):a.fdiv g=a/g:=aEv a (aBe h)
end M
namespace ST
open PySem PySem.SetTable
def BK (xs:Array Nat):Prop:=∀(i k:Nat) (hi:i<xs.size) (hk:k<xs.size),i<k->xs[i]<xs[k]
theorem qX (xs:Array Nat)(j:Nat)(ha:BK xs):∀(fuel lo hi:Nat),lo<=hi->hi<=xs.size->hi-lo<=fuel->(∀i (h:i<xs.size),i<lo->xs[i]<j)->(∀i (h:i<xs.size),hi<=i->j<=xs[i])->
  below.go xs j fuel lo hi<=xs.size/\(∀i (h:i<xs.size),i<below.go xs j fuel lo hi->xs[i]<j)/\(∀i (h:i<xs.size),below.go xs j fuel lo hi<=i->j<=xs[i])
 |0,lo,hi,h1,h2,h3,h4,h5=>by
  have:lo=hi:=by lia
  subst this;unfold below.go;exact⟨h2,h4,h5⟩
 |fuel+1,lo,hi,h1,h2,h3,h4,h5=>by
  unfold below.go;by_cases ar:lo<hi
  ·rw[if_pos ar];have hm:(lo+hi)/2<xs.size:=by lia
   have e:xs.getD ((lo+hi)/2) j=xs[(lo+hi)/2]:=by simp[aEQ,hm]
   dsimp only;rw[e];by_cases hc:xs[(lo+hi)/2]<j
   ·rw[if_pos hc];refine qX xs j ha fuel _ _ (by lia) h2 (by lia) (λi h ib=>?_) h5;by_cases q:i=(lo+hi)/2
    ·subst q;exact hc
    ·exact aGk (ha i _ h hm (by lia)) hc
   ·rw[if_neg hc];refine qX xs j ha fuel _ _ (by lia) (by lia) (by lia) h4 (λi h ib=>?_);by_cases q:i=(lo+hi)/2
    ·subst q;lia
    ·have:=ha _ i hm h (by lia);lia
  ·rw[if_neg ar];have:lo=hi:=by lia
   subst this;exact⟨h2,h4,h5⟩
def Y7 (ha:BK xs)(j:Nat):below xs j<=xs.size/\(∀i (h:i<xs.size),i<below xs j->xs[i]<j)/\(∀i (h:i<xs.size),below xs j<=i->j<=xs[i]):=
 qX xs j ha xs.size 0 xs.size (aAW _) (aAg _) (by lia) (λi h hi=>by lia) (λi h hi=>by lia)
def FM (ha:BK xs)(h:xs[i]?=some j):below xs j=i:=by
 obtain⟨hi,e⟩:=aBW.mp h;obtain⟨b1,b2,b3⟩:=Y7 ha j;rcases Nat.lt_trichotomy (below xs j) i with q|q|q
 ·have hb:below xs j<xs.size:=by lia
  have h1:=b3 _ hb (aAg _);have h2:=ha _ _ hb hi q
  lia
 ·exact q
 ·have:=b2 i hi q;lia
structure Tab (t:SetTable):Prop where
 asc:BK t.place
 le:∀j∈t.place.toList,j<=t.mask
 nod:t.dummies=#[]
def J4 (T:Tab t)(h:t.place[i]?=some j):t.slot j=.live i:=by unfold slot;rw[FM T.asc h];dsimp only;rw[h];simp
def wI (T:Tab t)(h:j∉t.place.toList):t.slot j=.empty:=by
 unfold slot;have h1:¬(t.place[below t.place j]?==some j)=true:=λz=>h (by have:=beq_iff_eq.mp z;obtain⟨hi,e⟩:=aBW.mp this;rw[<-e];simp)
 dsimp only;rw[if_neg h1,T.nod];rw[if_neg (by unfold has;simp)]
def yD (T:Tab t)(j:Nat):(t.slot j=.empty/\j∉t.place.toList)\/∃i,t.slot j=.live i/\t.place[i]?=some j:=by
 by_cases h:j∈t.place.toList
 ·obtain⟨i,hi,e⟩:=aBt h;have:t.place[i]?=some j:=by rw[<-aAA,aAk hi,e]
  exact .inr ⟨i,J4 T this,this⟩
 ·exact .inl ⟨wI T h,h⟩
def KQ (mask:Nat)(p:Probe):Probe:=if p.more>0 then{p with j:=p.j+1,more:=p.more-1}else{p with j:=(leap mask p.i p.perturb).1,more:=runEnd mask (leap mask p.i p.perturb).1-(leap mask p.i p.perturb).1,i:=(leap mask p.i p.perturb).1,perturb:=(leap mask p.i p.perturb).2}
def mK (t:SetTable)(p:Probe):t.advance p=KQ t.mask p:=rfl
def start (mask:Nat)(h:Int):Probe:={j:=bits h%(mask+1),more:=runEnd mask (bits h%(mask+1))-bits h%(mask+1),i:=bits h%(mask+1),perturb:=bits h,dummy:=none}
def WO (t:SetTable)(h:Int):t.probeStart h=start t.mask h:=rfl
def l8 (mask:Nat)(h:Int):Nat->Probe
 |0=>start mask h
 |n+1=>KQ mask (l8 mask h n)
theorem kQ (mask:Nat)(h:Int):∀n,(l8 mask h n).dummy=none
 |0=>rfl
 |n+1=>by have:=kQ mask h n;show(KQ mask _).dummy=none;unfold KQ;split<;>exact this
def B9 (mask:Nat)(h:Int):Nat->Nat×Nat
 |0=>(bits h%(mask+1),bits h)
 |k+1=>leap mask (B9 mask h k).1 (B9 mask h k).2
def len (mask i:Nat):Nat:=runEnd mask i-i
def RJ (mask i:Nat):len mask i<=9:=by unfold len runEnd;split<;>lia
def off (mask:Nat)(h:Int):Nat->Nat
 |0=>0
 |k+1=>off mask h k+len mask (B9 mask h k).1+1
theorem FP (mask:Nat)(h:Int):∀k,off mask h k<=10*k
 |0=>aAg _
 |k+1=>by have:=FP mask h k;have:=RJ mask (B9 mask h k).1;show off mask h k+_+1<=_;lia
theorem T8 (mask:Nat)(h:Int):∀k r,r<=len mask (B9 mask h k).1->
  l8 mask h (off mask h k+r)={j:=(B9 mask h k).1+r,more:=len mask (B9 mask h k).1-r,i:=(B9 mask h k).1,perturb:=(B9 mask h k).2,dummy:=none}
 |0,0,_=>rfl
 |0,r+1,hr=>by
  have ih:=T8 mask h 0 r (by lia);have e:off mask h 0+(r+1)=(off mask h 0+r)+1:=by lia
  rw[e,l8,ih];unfold KQ;rw[if_pos (show len mask (B9 mask h 0).1-r>0 by lia)];simp
  lia
 |k+1,0,_=>by have ih:=T8 mask h k (len mask (B9 mask h k).1) (aAg _);have e:off mask h (k+1)+0=(off mask h k+len mask (B9 mask h k).1)+1:=rfl;rw[e,l8,ih];unfold KQ;rw[if_neg (by simp)];simp[B9,len]
 |k+1,r+1,hr=>by
  have ih:=T8 mask h (k+1) r (by lia);have e:off mask h (k+1)+(r+1)=(off mask h (k+1)+r)+1:=by lia
  rw[e,l8,ih];unfold KQ;rw[if_pos (show len mask (B9 mask h<|k+1).1-r>0 by lia)];simp
  lia
def JY (mask:Nat)(h:Int)(k:Nat):(l8 mask h (off mask h k)).j=(B9 mask h k).1:=by have:=T8 mask h k 0 (aAW _);rw[Nat.add_zero]at this;rw[this];rfl
theorem fB (mask:Nat)(h:Int):∀k,(B9 mask h k).2<2^64/32^k+1
 |0=>by
  show bits h<_;unfold bits;have:=Int.emod_lt_of_pos h (show(0:Int)<2^64 by decide)
  lia
 |k+1=>by
  have ih:=fB mask h k;show(B9 mask h k).2/32<_;have e:∀N,N/32^(k+1)=N/32^k/32:=λN=>by rw[Nat.div_div_eq_div_mul];rfl
  rw[e]
  lia
theorem pA (mask:Nat)(h:Int):∀k,(B9 mask h (13+k)).2=0
 |0=>by have:=fB mask h 13;simp at this;exact this
 |k+1=>by have:=pA mask h k;show(B9 mask h<|13+k).2/32=0;rw[this]
def aj (m:Nat)(i:Nat):Nat:=(i*5+1)%m
def C9 (m:Nat):Nat->Nat->Nat
 |0,i=>i
 |n+1,i=>aj m (C9 m n i)
theorem lP (mask:Nat)(h:Int):∀k,(B9 mask h (13+k)).1=C9 (mask+1) k (B9 mask h 13).1
 |0=>rfl
 |k+1=>by have ih:=lP mask h k;show((B9 mask h<|13+k).1*5+1+(B9 mask h<|13+k).2/32)%(mask+1)=_;rw[pA,ih];rfl
theorem fS (m:Nat):∀a b i,C9 m (a+b) i=C9 m a (C9 m b i)
 |0,b,i=>by rw[aFs];rfl
 |a+1,b,i=>by rw[show a+1+b=(a+b)+1 by lia];show aj m _=aj m _;rw[fS m a b i]
def jU (m:Nat):Prop:=C9 m m 0=0/\∀j<m,∃n<m,C9 m n 0=j
def nU (F:jU m)(hi:i<m)(hj:j<m):∃n<m,C9 m n i=j:=by
 obtain⟨a,ha,ea⟩:=F.2 i hi;obtain⟨b,hb,eb⟩:=F.2 j hj;by_cases h:a<=b
 ·exact⟨b-a,by lia,by rw[<-ea,<-fS,show b-a+a=b by lia,eb]⟩
 ·refine⟨b+(m-a),by lia,?_⟩;rw[<-ea,<-fS,show b+(m-a)+a=b+m by lia,fS,F.1,eb]
instance(m:Nat):Decidable (jU m):=inferInstanceAs (Decidable<|_/\_)
def XE:jU 8:=by decide+kernel
def TQ:jU 32:=by decide+kernel
def MH:jU 128:=by decide+kernel
theorem zO (mask:Nat)(h:Int):∀k,(B9 mask h k).1<mask+1
 |0=>aER _ (by lia)
 |k+1=>aER _ (by lia)
def yN {mask:Nat}(F:jU (mask+1))(h:Int){j:Nat}(hj:j<=mask):∃n,n<=10*(mask+14)/\(l8 mask h n).j=j:=by
 obtain⟨k,hk,e⟩:=nU F (zO mask h 13) (show j<mask+1 by lia);refine⟨off mask h (13+k),?_,?_⟩
 ·have:=FP mask h (13+k);lia
 ·rw[JY,lP,e]
end ST
namespace ST
open PySem PySem.SetTable
def pV {α β:Type}{l:List α}{m:List β}{p:Nat}{a:α×β}(h:a∈(l.take p).zip (m.take p)):a∈l.zip m:=by
 obtain⟨i,hi⟩:=aDf.mp h;rw[aBp]at hi;refine aAr (i:=i) ?_;rw[aBp];have q:∀{γ:Type} {l:List γ} {c:γ},(l.take p)[i]?=some c->l[i]?=some c:=λ{γ l c} h=>by
  rw[List.getElem?_take]at h;split at h
  ·exact h
  ·cases h
 exact⟨q hi.1,q hi.2⟩
def pQ {α β:Type}{l:List α}{m:List β}{p:Nat}{a:α×β}(h:a∈(l.drop p).zip (m.drop p)):a∈l.zip m:=by obtain⟨i,hi⟩:=aDf.mp h;rw[aBp,List.getElem?_drop,List.getElem?_drop]at hi;refine aAr (i:=p+i) ?_;rw[aBp];exact hi
theorem zP (mask:Nat)(h:Int):∀n,(l8 mask h n).j+(l8 mask h n).more<=mask
 |0=>by have:=aER (bits h) (show 0<mask+1 by lia);show bits h%(mask+1)+(runEnd mask (bits h%(mask+1))-bits h%(mask+1))<=mask;unfold runEnd;split<;>lia
 |n+1=>by
  have ih:=zP mask h n;show(KQ mask<|l8 mask h n).j+(KQ mask<|l8 mask h n).more<=mask;unfold KQ;split
  ·dsimp only;lia
  ·dsimp only;have:(leap mask (l8 mask h n).i (l8 mask h n).perturb).1<mask+1:=aER _ (by lia);unfold runEnd;split<;>lia
def qP (mask:Nat)(h:Int)(n:Nat):(l8 mask h n).j<=mask:=by have:=zP mask h n;lia
theorem M4 {α:Type}[DecidableEq α]:∀{l m:List α},l.Nodup->(∀x∈l,x∈m)->l.length<=m.length
 |[],_,_,_=>aAW _
 |x::l,m,h,hs=>by
  have hx:=hs x (by simp);have h':=aAK.mp h;have:=M4 (l:=l) (m:=m.erase x) h'.2 (λy hy=>by
   have ne:y≠x:=λe=>by subst e;exact h'.1 hy
   exact(aFG ne).mpr (hs y<|aAd _ hy))
  rw[aES hx]at this;have:0<m.length:=aDL hx;simp only[aAt]
  lia
def BM {t:SetTable}(h:t.place.size<=t.mask):∃j≤t.mask,j∉t.place.toList:=by
 by_cases z:∃j≤t.mask,j∉t.place.toList
 ·exact z
 ·exfalso;have:=M4 (l:=aBb (t.mask+1)) (m:=t.place.toList) List.nodup_range (λj hj=>by
   by_cases q:j∈t.place.toList
   ·exact q
   ·exact absurd ⟨j,by have:=aBE.mp hj;lia,q⟩ z)
  simp at this
  lia
theorem least {P:Nat->Prop}[DecidablePred P]:∀n,P n->∃m≤n,P m/\∀k<m,¬P k
 |0,h=>⟨0,aAg _,h,λk hk=>by lia⟩
 |n+1,h=>by
  by_cases z:∃k≤n,P k
  ·obtain⟨k,hk,hp⟩:=z;obtain⟨m,h1,h2,h3⟩:=least k hp;exact⟨m,by lia,h2,h3⟩
  ·exact⟨n+1,aAg _,h,λk hk hp=>z ⟨k,by lia,hp⟩⟩
termination_by n=>n
def R9 (t:SetTable)(h:Int)(n0:Nat):Prop:=n0<=10*(t.mask+14)/\(l8 t.mask h n0).j∉t.place.toList/\∀m<n0,(l8 t.mask h m).j∈t.place.toList
def yP {t:SetTable}(F:jU (t.mask+1))(hs:t.place.size<=t.mask)(h:Int):∃n0,R9 t h n0:=by obtain⟨j,hj,hn⟩:=BM hs;obtain⟨n,h1,h2⟩:=yN F h hj;obtain⟨m,h3,h4,h5⟩:=least (P:=λn=>(l8 t.mask h n).j∉t.place.toList) n (by rw[h2];exact hn);exact⟨m,by lia,h4,λk hk=>by have:=h5 k hk;simpa using this⟩
theorem tM (T:Tab t)(hashAt:Nat->Int)(h:Int)(hf:R9 t h n0):∀(fuel n:Nat),n<=n0->n0-n<fuel->
  ∃n',n<=n'/\n'<=n0/\(∀m,n<=m->m<n'->∃i,t.place[i]?=some (l8 t.mask h m).j/\hashAt i≠h)/\
   ((n'=n0/\probe.go t hashAt h fuel (l8 t.mask h n)=some (.empty (l8 t.mask h n0).j none))\/
    (n'<n0/\∃i,t.place[i]?=some (l8 t.mask h n').j/\hashAt i=h/\probe.go t hashAt h fuel (l8 t.mask h n)=some (.candidate (l8 t.mask h n').j i (l8 t.mask h (n'+1)))))
 |0,n,_,h2=>by lia
 |fuel+1,n,h1,h2=>by
  unfold probe.go;rcases yD T (l8 t.mask h n).j with⟨e,hn⟩|⟨i,e,hi⟩
  ·have:n=n0:=by
     by_cases q:n<n0
     ·exact absurd (hf.2.2 n q) hn
     ·lia
   subst this;refine⟨n,aAg _,aAg _,λm a b=>by lia,.inl ⟨rfl,?_⟩⟩;rw[e];dsimp only;rw[kQ]
  ·have bf:n≠n0:=λq=>by subst q;refine hf.2.1 ?_;rw[<-aAA]at hi;exact aAr hi
   rw[e];dsimp only;by_cases hh:hashAt i=h
   · refine⟨n,aAg _,by lia,λm a b=>by lia,.inr ⟨by lia,i,hi,hh,?_⟩⟩
     rw[if_pos (by simpa using hh),mK];rfl
   · rw[if_neg (by simpa using hh),mK]
     obtain⟨n',a1,a2,a3,a4⟩:=tM T hashAt h hf fuel (n+1) (by lia) (by lia);refine⟨n',by lia,a2,λm b1 b2=>?_,a4⟩;by_cases q:m=n
     ·subst q;exact⟨i,hi,hh⟩
     ·exact a3 m (by lia) b2
def GI (T:Tab t)(hashAt:Nat->Int)(h:Int)(hf:R9 t h n0)(n:Nat)(h1:n<=n0):
  ∃n',n<=n'/\n'<=n0/\(∀m,n<=m->m<n'->∃i,t.place[i]?=some (l8 t.mask h m).j/\hashAt i≠h)/\
   ((n'=n0/\t.probe hashAt h (l8 t.mask h n)=some (.empty (l8 t.mask h n0).j none))\/
    (n'<n0/\∃i,t.place[i]?=some (l8 t.mask h n').j/\hashAt i=h/\t.probe hashAt h (l8 t.mask h n)=some (.candidate (l8 t.mask h n').j i (l8 t.mask h (n'+1))))):=
 tM T hashAt h hf _ n h1 (by have:=hf.1;unfold turns;lia)
def Reach (mask:Nat)(occ:Nat->Prop)(h:Int)(j:Nat):Prop:=∃n,(l8 mask h n).j=j/\∀m<n,occ (l8 mask h m).j
def Reach.mono {mask:Nat}{o o':Nat->Prop}{h:Int}{j:Nat}(r:Reach mask o h j)(i:∀k,o k->o' k):Reach mask o' h j:=by obtain⟨n,e,q⟩:=r;exact⟨n,e,λm hm=>i _ (q m hm)⟩
def Reach.before (hf:R9 t h n0)(hj:j∈t.place.toList)(r:Reach t.mask (λk=>k∈t.place.toList) h j):∃n<n0,(l8 t.mask h n).j=j:=by
 obtain⟨n,e,q⟩:=r;refine⟨n,?_,e⟩;by_cases z:n<n0
 ·exact z
 ·exfalso;by_cases y:n=n0
  ·subst y;exact hf.2.1 (by rw[e];exact hj)
  ·exact hf.2.1 (q n0 (by lia))
def cO {α:Type}(xs:Array α)(p:Nat)(x:α):(insertAt xs p x).toList=xs.toList.take p++x::xs.toList.drop p:=by
 unfold insertAt;simp[Array.toList_extract,List.extract_eq_drop_take];have:xs.size-p=(xs.toList.drop p).length:=by simp
 rw[this,List.take_length]
def uL (t:SetTable)(es:List (Int×Value)):List (Nat×Int×Value):=t.place.toList.zip es
structure SOk (t:SetTable)(es:List (Int×Value)):Prop where
 tab:Tab t
 full:jU (t.mask+1)
 len:t.place.size=es.length
 room:t.place.size<=t.mask
 reach:∀e∈uL t es,Reach t.mask (λk=>k∈t.place.toList) e.2.1 e.1
def OH {t:SetTable}{es:List (Int×Value)}(hl:t.place.size=es.length){i:Nat}{e:Int×Value}(h:es[i]?=some e):∃j,t.place[i]?=some j/\(j,e)∈uL t es:=by
 have hi:i<es.length:=(aAy.mp h).1;have ib:i<t.place.toList.length:=by simpa[hl]using hi
 refine⟨t.place.toList[i],by rw[<-aAA,aAk ib],?_⟩;unfold uL;refine aAr (i:=i) ?_;rw[aBp];exact⟨aAk ib,h⟩
def UC {t:SetTable}{es:List (Int×Value)}(S:SOk t es){h:Int}{x:Value}{n0:Nat}(hf:R9 t h n0)(hr:t.place.size+1<=t.mask):
  SOk (t.put (l8 t.mask h n0).j).1 (es.take (t.put (l8 t.mask h n0).j).2++(h,x)::es.drop (t.put (l8 t.mask h n0).j).2):=by
 have hj:=qP t.mask h n0;obtain⟨b1,b2,b3⟩:=Y7 S.tab.asc (l8 t.mask h n0).j;generalize hJ:(l8 t.mask h n0).j=J at*
 have hf2:J∉t.place.toList:=by rw[<-hJ];exact hf.2.1
 have ep:(t.put J).2=below t.place J:=rfl;have em:(t.put J).1.mask=t.mask:=rfl;have epl:(t.put J).1.place=insertAt t.place (below t.place J) J:=rfl;have lpl:=cO t.place (below t.place J) J;have mem:∀k,k∈(t.put J).1.place.toList↔k∈t.place.toList\/k=J:=λk=>by
  rw[epl,lpl,aAS,aAe];constructor
  ·rintro(q|q|q)
   ·exact .inl (aFH q)
   ·exact .inr q
   ·exact .inl (aFI q)
  ·rintro(q|q)
   ·rw[<-aFt (below t.place J) t.place.toList,aAS]at q;rcases q with q|q
    ·exact .inl q
    ·exact .inr (.inr q)
   ·exact .inr (.inl q)
 have ir:(t.put J).1.place.size=t.place.size+1:=by
  rw[<-aAU,epl,lpl,aAz,aBj,aAt,aDs,aAU]
  lia
 refine⟨⟨?_,λj vf=>?_,?_⟩,S.full,?_,by rw[ir];exact hr,λe he=>?_⟩
 ·
  have asc:t.place.toList.Pairwise (· <·):=by rw[aCc];intro i j hi hj ml;simpa using S.tab.asc i j (by simpa using hi) (by simpa using hj) ml
  have lt1:∀a∈t.place.toList.take (below t.place J),a<J:=λa ha=>by
   obtain⟨i,hi,e⟩:=aBt ha;rw[aBj]at hi;rw[List.getElem_take]at e;have:=b2 i (by simp at hi;lia) (by lia);simp at e
   lia
  have gt1:∀a∈t.place.toList.drop (below t.place J),J<a:=λa ha=>by
   obtain⟨i,hi,e⟩:=aBt ha;rw[aDs]at hi;rw[List.getElem_drop]at e;have h1:=b3 (below t.place J+i) (by simp at hi;lia) (by lia);simp at e;have h2:J≠a:=λq=>hf2 (by rw[q];exact aFI ha)
   lia
  have pw:(t.put J).1.place.toList.Pairwise (· <·):=by
   rw[epl,lpl,List.pairwise_append];refine⟨asc.sublist (List.take_sublist _ _),aAw.mpr ⟨gt1,asc.sublist (List.drop_sublist _ _)⟩,λa ha b hb=>?_⟩;rcases aAe.mp hb with q|q
   ·subst q;exact lt1 a ha
   ·exact aGk (lt1 a ha) (gt1 b q)
  intro i k hi hk hik;have:=aCc.mp pw i k (by simpa using hi) (by simpa using hk) hik;simpa using this
 ·rcases(mem j).mp vf with q|q
  ·exact S.tab.le j q
  ·subst q;exact hj
 ·show(if has t.dummies J then _ else t.dummies)=#[];rw[S.tab.nod,if_neg (by unfold has;simp)]
 ·rw[ir,ep,aAz,aBj,aAt,aDs];have:=S.len
  lia
 ·have ye:e∈uL t es\/e=(J,h,x):=by
   unfold uL at he;rw[epl,lpl,ep]at he;rw[List.zip_append (by rw[aBj,aBj,aAU,S.len])]at he;rcases aAS.mp he with q|q
   ·left;unfold uL;exact pV q
   ·rw[aBO]at q;rcases aAe.mp q with q|q
    ·exact .inr q
    ·left;unfold uL;exact pQ q
  rcases ye with q|q
  ·exact(S.reach e q).mono λk hk=>(mem k).mpr (.inl hk)
  ·subst q;exact⟨n0,hJ,λm hm=>(mem _).mpr (.inl (hf.2.2 m hm))⟩
end ST
namespace ST
open PySem PySem.SetTable
def N0 (owner:Array (Option Nat))(j:Nat):Prop:=(owner.getD j<|some 0).isNone=false
theorem pI {mask:Nat}(h:Int)(owner:Array (Option Nat)):∀(fuel k:Nat),(∃kk,k<=kk/\kk<k+fuel/\¬N0 owner (B9 mask h kk).1)->
  ∃n,off mask h k<=n/\layClean.free mask owner fuel (B9 mask h k).1 (B9 mask h k).2=some (l8 mask h n).j/\¬N0 owner (l8 mask h n).j/\∀m,off mask h k<=m->m<n->N0 owner (l8 mask h m).j
 |0,k,⟨kk,h1,h2,_⟩=>by lia
 |fuel+1,k,⟨kk,h1,h2,h3⟩=>by
  have eL:runEnd mask (B9 mask h k).1+1-(B9 mask h k).1=len mask (B9 mask h k).1+1:=by unfold len runEnd;split<;>lia
  unfold layClean.free;rw[eL];cases e:(aBb<|len mask (B9 mask h k).1+1).find? λr=>(owner.getD ((B9 mask h k).1+r)<|some 0).isNone with
  |some r=>
   have q:=List.find?_some e;have hr:r<len mask (B9 mask h k).1+1:=aBE.mp (List.mem_of_find?_eq_some e);have ej:(l8 mask h<|off mask h k+r).j=(B9 mask h k).1+r:=by rw[T8 mask h k r (by lia)]
   refine⟨off mask h k+r,by lia,by rw[ej],by rw[ej];unfold N0;rw[q];simp,λm a b=>?_⟩;have em:(l8 mask h m).j=(B9 mask h k).1+(m-off mask h k):=by have:=T8 mask h k (m-off mask h k) (by lia);rw[show off mask h k+(m-off mask h k)=m by lia]at this;rw[this]
   rw[em];unfold N0;rw[List.find?_range_eq_some]at e;have:=e.2.2 (m-off mask h k) (by lia);simpa using this
  |none=>
   have all:∀r<len mask (B9 mask h k).1+1,N0 owner ((B9 mask h k).1+r):=λr hr=>by have:=List.find?_eq_none.mp e r (aBE.mpr hr);unfold N0;exact Bool.not_eq_true _▸this
   have hk:kk≠k:=λq=>by subst q;have:=all 0 (by lia);rw[Nat.add_zero]at this;exact h3 this
   obtain⟨n,a1,a2,a3,a4⟩:=pI h owner fuel (k+1) ⟨kk,by lia,by lia,h3⟩;have eo:off mask h (k+1)=off mask h k+len mask (B9 mask h k).1+1:=rfl;refine⟨n,by lia,a2,a3,λm b1 b2=>?_⟩;by_cases q:off mask h (k+1)<=m
   ·exact a4 m q b2
   ·have em:(l8 mask h m).j=(B9 mask h k).1+(m-off mask h k):=by have:=T8 mask h k (m-off mask h k) (by lia);rw[show off mask h k+(m-off mask h k)=m by lia]at this;rw[this]
    rw[em];exact all _ (by lia)
def kH {mask:Nat}(F:jU (mask+1))(h:Int)(owner:Array (Option Nat)){j:Nat}(hj:j<=mask)(hn:¬N0 owner j):
  ∃n,layClean.free mask owner (turns mask) (aDG h%(mask+1)) (aDG h)=some (l8 mask h n).j/\¬N0 owner (l8 mask h n).j/\∀m<n,N0 owner (l8 mask h m).j:=by
 obtain⟨k,hk,e⟩:=nU F (zO mask h 13) (show j<mask+1 by lia);obtain⟨n,a1,a2,a3,a4⟩:=pI h owner (turns mask) 0 ⟨13+k,aAW _,by unfold turns;lia,by rw[lP,e];exact hn⟩;exact⟨n,a2,a3,λm hm=>a4 m (aAW _) hm⟩
structure Laid (mask:Nat)(hs:List Int)(owner:Array (Option Nat))(k:Nat):Prop where
 size:owner.size=mask+1
 lt:∀(j i:Nat),owner[j]?=some (some i)->i<k
 inj:∀(j j' i:Nat),owner[j]?=some (some i)->owner[j']?=some (some i)->j=j'
 sur:∀i<k,∃j:Nat,owner[j]?=some (some i)
 reach:∀(j i:Nat) (h:Int),owner[j]?=some (some i)->hs[i]?=some h->Reach mask (λl=>∃i,owner[l]?=some (some i)) h j
def gZ {owner:Array (Option Nat)}{mask j:Nat}(hs:owner.size=mask+1)(hj:j<=mask):N0 owner j↔∃i,owner[j]?=some (some i):=by
 unfold N0;have ar:j<owner.size:=by lia
 have e:owner.getD j (some 0)=owner[j]:=by simp[aEQ,ar]
 rw[e,aAE ar];cases owner[j]with
 |none=>simp
 |some i=>simp
def Laid.room {mask k:Nat}{hs:List Int}{owner:Array (Option Nat)}(L:Laid mask hs owner k)(hk:k<=mask):∃j≤mask,¬N0 owner j:=by
 by_cases z:∃j≤mask,¬N0 owner j
 ·exact z
 ·exfalso;have all:∀j≤mask,∃i,owner[j]?=some (some i):=λj hj=>by
   by_cases q:N0 owner j
   ·exact(gZ L.size hj).mp q
   ·exact absurd ⟨j,hj,q⟩ z
  have key:∀n,n<=mask+1->∃l:List Nat,l.length=n/\l.Nodup/\(∀i∈l,i<k)/\∀i∈l,∃j<n,owner[j]?=some (some i):=λn=>by
   induction n with
   |zero=>exactλ_=>⟨[],rfl,aCU,by simp,by simp⟩
   |succ n ih=>
    intro hn;obtain⟨l,h1,h2,h3,h4⟩:=ih (by lia);obtain⟨i,hi⟩:=all n (by lia);refine⟨i::l,by simp[h1],aAK.mpr ⟨λq=>?_,h2⟩,λx hx=>?_,λx hx=>?_⟩
    ·obtain⟨j,hj,e⟩:=h4 i q;have:=L.inj j n i e hi
     lia
    ·rcases aAe.mp hx with q|q
     ·subst q;exact L.lt _ _ hi
     ·exact h3 x q
    ·rcases aAe.mp hx with q|q
     ·subst q;exact⟨n,by lia,hi⟩
     ·obtain⟨j,hj,e⟩:=h4 x q;exact⟨j,by lia,e⟩
  obtain⟨l,h1,h2,h3,_⟩:=key (mask+1) (aAg _);have:=M4 (m:=aBb k) h2 (λx hx=>aBE.mpr (h3 x hx));simp at this
  lia
def wO (mask:Nat)(hs:List Int):Laid mask hs (aEm (mask+1) none) 0:=by
 have no:∀(j i:Nat),(aEm (mask+1) (none:Option Nat))[j]?=some (some i)->False:=λj i h=>by rw[Array.getElem?_replicate]at h;split at h<;>cases h
 exact⟨by simp,λj i h=>(no j i h).elim,λj j' i h=>(no j i h).elim,λi hi=>by lia,λj i _ h=>(no j i h).elim⟩
def Laid.step {mask k:Nat}{hs:List Int}{owner:Array (Option Nat)}(L:Laid mask hs owner k){h:Int}(hk:hs[k]?=some h){n:Nat}(h2:¬N0 owner (l8 mask h n).j)(h3:∀m<n,N0 owner (l8 mask h m).j):
  Laid mask hs (owner.setIfInBounds (l8 mask h n).j (some k)) (k+1):=by
 have hJ:=qP mask h n;have hJ':(l8 mask h n).j<owner.size:=by rw[L.size];lia
 have get:∀(j i:Nat),(owner.setIfInBounds (l8 mask h n).j (some k))[j]?=some (some i)↔(j=(l8 mask h n).j/\i=k)\/(j≠(l8 mask h n).j/\owner[j]?=some (some i)):=λj i=>by
  rw[Array.getElem?_setIfInBounds];by_cases q:(l8 mask h n).j=j
  ·rw[if_pos q,if_pos hJ'];simp[q,eq_comm]
  ·rw[if_neg q];constructor
   ·intro z;exact .inr ⟨λy=>q y.symm,z⟩
   ·rintro(⟨z,_⟩|⟨_,z⟩)
    ·exact absurd z.symm q
    ·exact z
 have fr:∀i,owner[(l8 mask h n).j]?≠some (some i):=λi z=>h2 ((gZ L.size hJ).mpr ⟨i,z⟩);have grow:∀l:Nat,(∃i:Nat,owner[l]?=some (some i))->∃i:Nat,(owner.setIfInBounds (l8 mask h n).j (some k))[l]?=some (some i):=λl hl=>by
  obtain⟨i,z⟩:=hl;by_cases q:l=(l8 mask h n).j
  ·exact⟨k,(get l k).mpr (.inl ⟨q,rfl⟩)⟩
  ·exact⟨i,(get l i).mpr (.inr ⟨q,z⟩)⟩
 refine⟨by simp[L.size],λj i z=>?_,λj j' i z z'=>?_,λi hi=>?_,λj i h' z e=>?_⟩
 ·rcases(get j i).mp z with⟨_,q⟩|⟨_,q⟩
  ·lia
  ·have:=L.lt j i q;lia
 ·rcases(get j i).mp z with⟨q1,q2⟩|⟨q1,q2⟩
  ·rcases(get j' i).mp z' with⟨r1,r2⟩|⟨r1,r2⟩
   ·rw[q1,r1]
   ·subst q2;have:=L.lt _ _ r2;lia
  ·rcases(get j' i).mp z' with⟨r1,r2⟩|⟨r1,r2⟩
   ·subst r2;have:=L.lt _ _ q2;lia
   ·exact L.inj j j' i q2 r2
 ·by_cases q:i=k
  ·subst q;exact⟨_,(get _ _).mpr (.inl ⟨rfl,rfl⟩)⟩
  ·obtain⟨j,z⟩:=L.sur i (by lia);exact⟨j,(get j i).mpr (.inr ⟨λy=>by subst y;exact fr i z,z⟩)⟩
 ·rcases(get j i).mp z with⟨q1,q2⟩|⟨q1,q2⟩
  ·subst q1 q2;have:h'=h:=aAj (e.symm.trans hk);subst this;exact⟨n,rfl,λm hm=>grow _ ((gZ L.size<|qP mask h' m).mp (h3 m hm))⟩
  ·exact(L.reach j i h' q2 e).mono grow
def uM {mask:Nat}(F:jU (mask+1))(hs:Array Int)(hl:hs.size<=mask):∃owner,layClean mask hs=some owner/\Laid mask hs.toList owner hs.size:=by
 have go:∀(post pre:List Int) (owner:Array (Option Nat)),hs.toList=pre++post->Laid mask hs.toList owner pre.length->
   ∃nh,post.foldl (λacc h=>do
    let(owner,k)<-acc
    let j<-layClean.free mask owner (turns mask) (aDG h%(mask+1)) (aDG h)
    pure (owner.setIfInBounds j (some k),k+1)) (some (owner,pre.length))=some (nh,hs.size)/\Laid mask hs.toList nh hs.size:=λpost=>by
  induction post with
  |nil=>
   intro pre owner e L;have:pre.length=hs.size:=by rw[<-aAU,e];simp
   exact⟨owner,by rw[List.foldl_nil,this],by rw[<-this];exact L⟩
  |cons h post ih=>
   intro pre owner e L;have hlen:pre.length<hs.size:=by rw[<-aAU,e];simp
   obtain⟨j,hj,hn⟩:=L.room (by lia);obtain⟨n,f1,f2,f3⟩:=kH F h owner hj hn;have hk:hs.toList[pre.length]?=some h:=by rw[e];simp
   have L':=L.step hk f2 f3;rw[aEj];have e2:hs.toList=(pre++[h])++post:=by rw[e];simp
   obtain⟨nh,g1,g2⟩:=ih (pre++[h]) _ e2 (by rw[aAz];exact L');refine⟨nh,?_,g2⟩;rw[<-g1];congr 1;simp[f1]
 obtain⟨owner,h1,h2⟩:=go hs.toList [] (aEm (mask+1) none) rfl (wO mask hs.toList);refine⟨owner,?_,h2⟩;unfold layClean;rw[<-Array.foldl_toList];have yb:aGe (λacc h=>do
    let(owner,k)<-acc
    let j<-layClean.free mask owner (turns mask) (aDG h%(mask+1)) (aDG h)
    pure (owner.setIfInBounds j (some k),k+1)) (some (aEm (mask+1) none,0)) hs.toList=some (owner,hs.size):=h1
 rw[yb];rfl
end ST
namespace ST
open PySem PySem.SetTable
def D6 (mask:Nat)(owner:Array (Option Nat)):List (Nat×Nat):=(aBb<|mask+1).filterMap λj=>(owner.getD j none).map (j,·)
def M8 {mask:Nat}{owner:Array (Option Nat)}(hs:owner.size=mask+1){j i:Nat}:(j,i)∈D6 mask owner↔owner[j]?=some (some i):=by
 unfold D6;rw[aBC];constructor
 ·rintro⟨l,hl,e⟩;have ji:l<owner.size:=by rw[hs];exact aBE.mp hl
  have eg:owner.getD l none=owner[l]:=by simp[aEQ,ji]
  rw[eg,aDM]at e;obtain⟨i',e1,e2⟩:=e;cases e2;rw[aAE ji,e1]
 ·intro e;obtain⟨hl,e1⟩:=aBW.mp e;have eg:owner.getD j none=owner[j]:=by simp[aEQ,hl]
  exact⟨j,aBE.mpr (by lia),by rw[eg,e1];rfl⟩
def sN (mask:Nat)(owner:Array (Option Nat)):((D6 mask owner).map (·.1)).Pairwise (· <·):=by unfold D6;rw[aBN];have:(aBb<|mask+1).Pairwise (· <·):=List.pairwise_lt_range;refine List.Pairwise.filterMap _ (R:=(· <·)) ?_ this;intro a a' ar b hb b' ma;rw[aDM]at hb ma;obtain⟨_,_,rfl⟩:=hb;obtain⟨_,_,rfl⟩:=ma;exact ar
def GA {mask finger moves:Nat}{led plain:Bool}(F:jU (mask+1))(es:Array (Int×Value))(hl:es.size<=mask):
  ∃t' order,laid mask finger moves led plain (es.map (·.1))=some (t',order)/\(order.filterMap (es[·]?)).size=es.size/\(order.filterMap (es[·]?)).toList.Perm es.toList/\SOk t' (order.filterMap (es[·]?)).toList/\
   t'.mask=mask/\t'.dummies=#[]/\t'.led=led/\t'.plain=plain/\t'.moves=moves:=by
 obtain⟨owner,h1,L⟩:=uM F (es.map (·.1)) (by simpa using hl);have hk:(es.map (·.1)).size=es.size:=by simp
 rw[hk]at L;refine⟨{mask,place:=((D6 mask owner).map (·.1)).toArray,dummies:=#[],finger,led,moves,plain},((D6 mask owner).map (·.2)).toArray,?_,?_⟩
 ·unfold laid;rw[h1];rfl
 have nd1:(D6 mask owner).Nodup:=by have:=sN mask owner;rw[aBN]at this;exact aBV.mpr (this.imp λ{a b} h e=>by subst e;exact aAZ _ h)
 have ndo:((D6 mask owner).map (·.2)).Nodup:=by rw[aBV,aBN];refine List.Pairwise.imp_of_mem (R:=(· ≠·)) ?_ (aBV.mp nd1);rintro⟨j,i⟩ ⟨j',i'⟩ ha hb bf e;dsimp only at e;subst e;have:=L.inj j j' i ((M8 L.size).mp ha) ((M8 L.size).mp hb);subst this;exact bf rfl
 have po:((D6 mask owner).map (·.2)).Perm (aBb es.size):=by
  rw[aDm ndo List.nodup_range];intro i;rw[aBE,aAp];constructor
  ·rintro⟨⟨j,i'⟩,h,rfl⟩;exact L.lt _ _ ((M8 L.size).mp h)
  ·intro hi;obtain⟨j,hj⟩:=L.sur i hi;exact⟨(j,i),(M8 L.size).mpr hj,rfl⟩
 have ee:(((D6 mask owner).map (·.2)).toArray.filterMap (es[·]?)).toList=(D6 mask owner).filterMap (λx=>es[x.2]?):=by rw[Array.toList_filterMap,aCW];rfl
 have pe:((D6 mask owner).filterMap (λx=>es[x.2]?)).Perm es.toList:=by
  have h2:(D6 mask owner).filterMap (λx=>es[x.2]?)=((D6 mask owner).map (·.2)).filterMap (λi=>es[i]?):=by rw[aCW];rfl
  rw[h2];refine(po.filterMap _).trans (List.Perm.of_eq ?_);apply aET;intro i;have:(aBb es.size).filterMap (λi=>es[i]?)=es.toList:=by
   have q:∀l:List (Int×Value),(aBb l.length).filterMap (λi=>l[i]?)=l:=λl=>by
    induction l with
    |nil=>rfl
    |cons a l ih=>
     rw[aAt,aFl,aBY];simp only[aCQ];rw[aCW];have:((λi=>(a::l)[i]?)∘Nat.succ)=λi=>l[i]?:=by funext i;simp
     rw[this,ih]
   have:=q es.toList;simpa using this
  rw[this]
 have zp:∀l:List (Nat×Nat),(∀x∈l,x.2<es.size)->(l.map (·.1)).zip (l.filterMap<|λx=>es[x.2]?)=l.filterMap (λx=>es[x.2]?.map (x.1,·))/\(l.filterMap<|λx=>es[x.2]?).length=l.length:=λl=>by
  induction l with
  |nil=>intro _;exact⟨rfl,rfl⟩
  |cons x l ih=>intro h;obtain⟨i1,i2⟩:=ih (λy hy=>h y (aAd _ hy));have hx:=h x (by simp);have e:es[x.2]?=some es[x.2]:=aAE hx;rw[aAs,aBY,e];dsimp only;rw[aBY,e];dsimp only[Option.map_some];rw[aBO,i1];exact⟨rfl,by simp[i2]⟩
 obtain⟨z1,z2⟩:=zp (D6 mask owner) (λx hx=>L.lt x.1 x.2 ((M8 L.size).mp hx));have ir:(D6 mask owner).length=es.size:=by have:=po.length_eq;simpa using this
 rw[ee];refine⟨by rw[<-aAU,ee,z2,ir],pe,⟨⟨?_,λj hj=>?_,rfl⟩,F,?_,?_,λe he=>?_⟩,rfl,rfl,rfl,rfl,rfl⟩
 ·intro i k hi hk hik;have:=aCc.mp (sN mask owner) i k (by simpa using hi) (by simpa using hk) hik;simpa using this
 ·have vf:j∈(D6 mask owner).map (·.1):=by simpa using hj
  obtain⟨⟨j',i⟩,h,rfl⟩:=aAp.mp vf;have:=(aBW.mp<|(M8 L.size).mp h).1;rw[L.size]at this;show j'<=mask
  lia
 ·rw[z2];simp
 ·simp only[aAm,aAl,ir];exact hl
 ·unfold uL at he;dsimp only at he;rw[z1,aBC]at he;obtain⟨⟨j,i⟩,h,e1⟩:=he;rw[aDM]at e1;obtain⟨⟨hh,v⟩,e2,rfl⟩:=e1;have ho:=(M8 L.size).mp h;have:=L.reach j i hh ho (by rw[aAA,Array.getElem?_map,e2];rfl);refine this.mono λl ⟨i',ib⟩=>?_;show l∈(D6 mask owner).map (·.1);exact aAp.mpr ⟨(l,i'),(M8 L.size).mpr ib,rfl⟩
end ST
namespace DL
open PySem PySem.Spec L2
open PyProof.Rows hiding St
variable [Tabs]
mutual
inductive HV (h:Heap):Value->D->Prop
 |int (i:Int) (t:Tok):HV h (.int i t) (.int i)
 |tup {a:Addr} {items:Array Value} {ds:List D} (p:IsTup h a items) (r:HVs h items.toList ds):HV h (.ref a) (.tup ds)
inductive HVs (h:Heap):List Value->List D->Prop
 |nil:HVs h [] []
 |cons {v:Value} {d:D} {vs:List Value} {ds:List D} (r:HV h v d) (t:HVs h vs ds):HVs h (v::vs) (d::ds)
end
mutual
def mU:D->Bool
 |.int _=>true
 |.tup xs=>cU xs
 |_=>false
def cU:List D->Bool
 |[]=>true
 |x::xs=>mU x&&cU xs
end
theorem cV:∀xs:List D,rO xs=xs.map m9
 |[]=>rfl
 |x::xs=>by rw[rO,cV xs];rfl
section
mutual
theorem HV.keeps (k:∀b o,h.get? b=some o->o.cls=.type "tuple"->h'.get? b=some o):∀{v:Value} {d:D},HV h v d->HV h' v d
 |_,_,.int i t=>.int i t
 |_,_,.tup p r=>.tup (by obtain⟨o,e,c,n,d⟩:=p;exact⟨o,k _ _ e c,c,n,d⟩) (HVs.keeps k r)
theorem HVs.keeps (k:∀b o,h.get? b=some o->o.cls=.type "tuple"->h'.get? b=some o):∀{v:List Value} {d:List D},HVs h v d->HVs h' v d
 |_,_,.nil=>.nil
 |_,_,.cons r t=>.cons (HV.keeps k r) (HVs.keeps k t)
end
mutual
theorem HV.inj:∀{v:Value} {d d':D},HV h v d->HV h v d'->d=d'
 |_,_,_,.int i t,.int _ _=>rfl
 |_,_,_,.tup p r,.tup p' r'=>by obtain⟨o,e,c,n,dd⟩:=p;obtain⟨o',e',c',n',zc⟩:=p';rw[e]at e';cases e';rw[dd]at zc;injection zc with q _;subst q;rw[HVs.inj r r']
theorem HVs.inj:∀{v:List Value} {d d':List D},HVs h v d->HVs h v d'->d=d'
 |_,_,_,.nil,.nil=>rfl
 |_,_,_,.cons r t,.cons r' t'=>by rw[HV.inj r r',HVs.inj t t']
end
theorem HVs.length:∀{v:List Value} {d:List D},HVs h v d->v.length=d.length
 |_,_,.nil=>rfl
 |_,_,.cons _ t=>by simp[HVs.length t]
end
section
variable{prog:Program} {w:World}
def PH (prog:Program)(w:World)(h:Heap)(v:Value)(d:D):Prop:=∀(A:Around) (E:C5) (s:Shared) (Q:Int->Shared->Prop),s.heap=h->A.units+8*E6 d<cLine->(∀tk,s.toks<=tk->Q (m9 d) {s with toks:=tk})->wpAny (model prog w) A (pyHash v) Q E s
mutual
theorem OK:∀{v:Value} {d:D},HV h v d->PH prog w h v d
 |_,_,.int i t=>λA E s Q hs hu q=>by exact(intKind prog w).pyHash (k:=i) (intKind_is _ _ _ _) (q _<|Nat.le_succ _)
 |_,_,.tup (a:=a) (items:=items) (ds:=ds) p r=>λA E s Q hs hu q=>by
  have fs:=FT r;subst hs;obtain⟨o,ho,hc,n,hd⟩:=p;have hT:s.TypeIs (.ref a) "tuple":=⟨o,ho,hc⟩;have hu0:A.units<cLine:=by lia
  rw[E6]at hu;unfold pyHash;first|unfold pyHashByItsType|skip
  first|refine aAa (wpAny_cRoomFor_or (.inr hu0) ?_)|skip
  refine aAa (aBl hT PySem.F.slot_tuple_hash.lookup ?_);show wpAny _ _ (if(some (aDj "tuple.__hash__")==some Value.none)=true then _ else _) Q E s;rw[if_neg (by rw[aFf];exact aAL)];refine aAa (aBl hT PySem.F.slot_tuple_hash.lookup ?_);show wpAny _ _ (callSpecialIfBoundUnlessNone? (.ref a) "__hash__" _>>=_) Q E s;refine aAa (aCZ hT PySem.F.slot_tuple_hash<|aBk PySem.F.slot_tuple_hash hT PySem.F.entry_tuple_hash ?_ (PySem.F.args_tuple_hash_1 _));show wpAny _ _ (aDl (.ref a)>>=_) _ _ s;refine aAa (wpAny_tupleItemsOf ho hd ?_);refine aAa ?_;rw[<-aCl];refine aCn _
   (λrest (b:Array Int) s'=>∃done left tk,ds=done++left/\Paired (PH prog w s.heap) rest left/\b.toList=done.map m9/\s.toks<=tk/\s'={s with toks:=tk})
   _ ?_ ?_ _ _ ⟨[],ds,s.toks,rfl,fs,rfl,aAg _,rfl⟩
  ·rintro x rest b s' ⟨done,left,tk,e1,hl,hb,xc,rfl⟩;cases hl with
   |@cons _ d _ left' h1 ji=>
    refine aAa (h1 _ _ _ _ rfl ?_ λyf htk'=>?_)
    ·have:E6 d<=G3 ds:=by rw[e1];exact qL (j:=done.length) (by simp)
     rw[t7];lia
    first
     |exact aAb ⟨done++[d],left',yf,by simp[e1],ji,by simp[hb],by(have:tk<=yf:=htk');lia,rfl⟩
     |exact aAa (aAb (aAb ⟨done++[d],left',yf,by simp[e1],ji,by simp[hb],by(have:tk<=yf:=htk';lia),rfl⟩))
  ·rintro b s' ⟨done,left,tk,e1,hl,hb,xc,rfl⟩;cases hl;rw[aBr]at e1;subst e1;show wpAny _ _ (retInt<|aAH b.toList) _ _ _;rw[hb];refine wpAny_ret_mkInt ?_;show wpAny _ _ (if(decide (-(2:Int)^63<=aAH (ds.map m9))&&decide (aAH (ds.map m9)<2^63))=true then _ else _) Q E _;have q':=q (tk+1) (by lia);rw[m9,cV]at q';unfold reduceHash at q';by_cases hr:(decide (-(2:Int)^63<=aAH (ds.map m9))&&decide (aAH (ds.map m9)<2^63))=true
   ·rw[if_pos hr];rw[if_pos hr]at q';exact aAb q'
   ·rw[if_neg hr];rw[if_neg hr]at q';exact aAa (aDz<|aAb q')
theorem FT:∀{v:List Value} {d:List D},HVs h v d->Paired (PH prog w h) v d
 |_,_,.nil=>.nil
 |_,_,.cons r t=>.cons (OK r) (FT t)
end
mutual
theorem AG:∀{v u:Value} {d e:D} {A:Around},HV s.heap v d->HV s.heap u e->A.units+E6 d<cLine->SeqAt.EqAt A s v u (u0 d e)
 |_,_,_,_,A,.int i t,.int j t',_=>by simp only[u0];exact aEz _ _ _ _
 |_,_,_,_,A,.int i t,.tup p r,hu=>by simp only[u0];exact aFD _ _ p (by lia)
 |_,_,_,_,A,.tup p r,.int j t',hu=>by simp only[u0];exact aFE _ _ p (by lia)
 |_,_,_,_,A,.tup (a:=a) (ds:=ds) p r,.tup (a:=a') (ds:=cb) p' r',hu=>by
  by_cases e:a=a'
  ·subst e;have:=HV.inj (.tup p r) (.tup p' r');rw[this,T0];exact aDE _
  ·simp only[u0];rw[E6]at hu;exact aEA e (iG (by simpa using p) (by simpa using p') r.length r'.length (by lia) (GE r r' (by rw[t7];lia))).1
theorem GE:∀{vs us:List Value} {ds es:List D} {A:Around},HVs s.heap vs ds->HVs s.heap us es->A.in1.units+G3 ds<cLine->kG A s vs us ds es
 |_,_,_,_,A,.nil,_,_=>λj u w h1 h2=>by simp at h1
 |_,_,_,_,A,.cons r t,.nil,_=>λj u w h1 h2=>by simp at h2
 |_,_,_,_,A,.cons (d:=d) (ds:=ds) r t,.cons (d:=d') (ds:=cb) r' t',hu=>λj u w h1 h2=>by
  rw[G3]at hu;match j,h1,h2 with
  |0,h1,h2=>simp only[aCQ,aGf]at h1 h2;subst h1 h2;exact AG r r' (by lia)
  |j+1,h1,h2=>simp only[aFa]at h1 h2;exact GE t t' (by lia) j u w h1 h2
end
mutual
theorem fN:∀{d e:D},mU d=true->mU e=true->u0 d e=true->d=e
 |.int i,.int j,_,_,h=>by simp[u0]at h;rw[h]
 |.tup xs,.tup ys,h1,h2,h=>by rw[mU]at h1 h2;rw[u0]at h;rw[tT h1 h2 h]
 |.int _,.tup _,_,_,h=>by simp[u0]at h
 |.tup _,.int _,_,_,h=>by simp[u0]at h
 |.non,_,h,_,_=>by simp[mU]at h
 |.bl _,_,h,_,_=>by simp[mU]at h
 |.str _,_,h,_,_=>by simp[mU]at h
 |.lst _,_,h,_,_=>by simp[mU]at h
 |_,.non,_,h,_=>by simp[mU]at h
 |_,.bl _,_,h,_=>by simp[mU]at h
 |_,.str _,_,h,_=>by simp[mU]at h
 |_,.lst _,_,h,_=>by simp[mU]at h
theorem tT:∀{d e:List D},cU d=true->cU e=true->R3 d e=true->d=e
 |[],[],_,_,_=>rfl
 |[],_::_,_,_,h=>by simp[R3]at h
 |_::_,[],_,_,h=>by simp[R3]at h
 |x::xs,y::ys,h1,h2,h=>by rw[cU,aAF]at h1 h2;rw[R3,aAF]at h;rw[fN h1.1 h2.1 h.1,tT h1.2 h2.2 h.2]
end
mutual
theorem HV.ok:∀{v:Value} {d:D},HV h v d->mU d=true
 |_,_,.int i t=>rfl
 |_,_,.tup p r=>by rw[mU];exact HVs.ok r
theorem HVs.ok:∀{v:List Value} {d:List D},HVs h v d->cU d=true
 |_,_,.nil=>rfl
 |_,_,.cons r t=>by rw[cU,HV.ok r,HVs.ok t];rfl
end
mutual
theorem fT:∀{v:Value} {d:D} (k:Nat),HV h v d->E6 d<k->∀(M:Model) (A:Around) (E:C5) (s:Shared) (Q:rZ),s.heap=h->Q true s->wpAny M A (eqIsQuiet k v) Q E s
 |_,_,k,.int i t,_=>λM A E s Q hs q=>by unfold eqIsQuiet;exact aAb q
 |_,_,k,.tup (a:=a) (items:=items) (ds:=ds) p r,hk=>λM A E s Q hs q=>by
  subst hs;obtain⟨o,ho,hc,n,hd⟩:=p;have hT:s.TypeIs (.ref a) "tuple":=⟨o,ho,hc⟩;match k,hk with
  |k+1,hk=>
   rw[E6]at hk;unfold eqIsQuiet;refine aAa (aBl hT PySem.F.slot_tuple_eq.lookup ?_);show wpAny _ _ (isInstance (.ref a) (.type "tuple")>>=_) _ _ s;refine aAa (aDv hT isSubtype_tuple_tuple ?_);simp only[aDk,aAq,if_false];refine aAa (aBH ho hd ?_);refine aAa ?_;show wpAny _ _ (forIn items _ _) _ _ s;rw[<-aCl];refine aCn _ (λrest r s'=>r.1=none/\s'=s/\∃cb,HVs s.heap rest cb/\G3 cb<k) _ ?_ ?_ _ _ ⟨rfl,rfl,ds,r,by lia⟩
   ·rintro v rest r s' ⟨hr,rfl,cb,hv,hdp⟩;cases hv with
    |@cons _ d _ rg hv ht=>rw[G3]at hdp;refine aAa (fT k hv (by lia) M A E s' _ rfl ?_);simp only[aDk,aAq,if_false];exact aAb ⟨rfl,rfl,rg,ht,by lia⟩
   ·rintro⟨r1,r2⟩ s' ⟨hr,rfl,_⟩;simp only at hr;subst hr;exact aAb q
end
mutual
theorem dJ:∀{v:Value} {d:D} (k:Nat),HV h v d->E6 d<k->∀(M:Model) (A:Around) (E:C5) (s:Shared) (Q:rZ),s.heap=h->Q false s->wpAny M A (ofAClassStatement k v) Q E s
 |_,_,k,.int i t,_=>λM A E s Q hs q=>by unfold ofAClassStatement;exact aAb q
 |_,_,k,.tup (a:=a) (items:=items) (ds:=ds) p r,hk=>λM A E s Q hs q=>by
  subst hs;obtain⟨o,ho,hc,n,hd⟩:=p;have hT:s.TypeIs (.ref a) "tuple":=⟨o,ho,hc⟩;match k,hk with
  |k+1,hk=>
   rw[E6]at hk;unfold ofAClassStatement;refine aAa (aDy hT ?_);dsimp only;rw[if_pos (by decide)];refine aAa (aAb ?_);simp only[aDk,aAq,if_false];refine aAa (aBH ho hd ?_);dsimp only;refine aAa ?_;show wpAny _ _ (forIn items _ _) _ _ s;rw[<-aCl];refine aCn _ (λrest r s'=>r.1=none/\s'=s/\∃cb,HVs s.heap rest cb/\G3 cb<k) _ ?_ ?_ _ _ ⟨rfl,rfl,ds,r,by lia⟩
   ·rintro v rest r s' ⟨hr,rfl,cb,hv,hdp⟩;cases hv with
    |@cons _ d _ rg hv ht=>rw[G3]at hdp;refine aAa (dJ k hv (by lia) M A E s' _ rfl ?_);simp only[aAq,if_false];exact aAb ⟨rfl,rfl,rg,ht,by lia⟩
   ·rintro⟨r1,r2⟩ s' ⟨hr,rfl,_⟩;simp only at hr;subst hr;exact aAb q
end
mutual
theorem kO:∀{v:Value} {d:D} (k:Nat),HV h v d->E6 d<k->∀(M:Model) (A:Around) (E:C5) (s:Shared) (Q:rZ),s.heap=h->Q true s->wpAny M A (hashByValue k v) Q E s
 |_,_,k,.int i t,_=>λM A E s Q hs q=>by unfold hashByValue;exact aAb q
 |_,_,k,.tup (a:=a) (items:=items) (ds:=ds) p r,hk=>λM A E s Q hs q=>by
  subst hs;obtain⟨o,ho,hc,n,hd⟩:=p;have hT:s.TypeIs (.ref a) "tuple":=⟨o,ho,hc⟩;match k,hk with
  |k+1,hk=>
   rw[E6]at hk;unfold hashByValue;refine aAa (aBl hT PySem.F.slot_tuple_hash.lookup ?_);dsimp only;refine aAa (aBH ho hd ?_);refine aAa ?_;show wpAny _ _ (forIn items _ _) _ _ s;rw[<-aCl];refine aCn _ (λrest r s'=>r.1=none/\s'=s/\∃cb,HVs s.heap rest cb/\G3 cb<k) _ ?_ ?_ _ _ ⟨rfl,rfl,ds,r,by lia⟩
   ·rintro v rest r s' ⟨hr,rfl,cb,hv,hdp⟩;cases hv with
    |@cons _ d _ rg hv ht=>rw[G3]at hdp;refine aAa (kO k hv (by lia) M A E s' _ rfl ?_);simp only[aDk,aAq,if_false];exact aAb ⟨rfl,rfl,rg,ht,by lia⟩
   ·rintro⟨r1,r2⟩ s' ⟨hr,rfl,_⟩;simp only at hr;subst hr;exact aAb q
end
def gD {α:Type}{M:Model}{A:Around}{E:C5}{s:Shared}{Q:α->Shared->Prop}{c:Prop}[Decidable c]{a b:Sem α}(h1:c->wpAny M A a Q E s)(h2:¬c->wpAny M A b Q E s):wpAny M A (if c then a else b) Q E s:=by
 by_cases h:c
 ·rw[if_pos h];exact h1 h
 ·rw[if_neg h];exact h2 h
def UA {M:Model}{A:Around}{E:C5}{s:Shared}{Q:rZ}{x:Value}{d:D}(hx:HV s.heap x d)(hd:E6 d<8)(ys:List Value)(hy:∀y∈ys,∃e,HV s.heap y e/\E6 e<8)(q:Q false s):wpAny M A (searchCouldBeSeen x ys) Q E s:=by
 unfold searchCouldBeSeen;refine aAa ?_;refine aCn _ (λrest r s'=>r.1=none/\s'=s/\∀y∈rest,y∈ys) _ ?_ ?_ _ _ ⟨rfl,rfl,λy h=>h⟩
 ·rintro y rest r s' ⟨hr,rfl,hm⟩;obtain⟨e,he,hde⟩:=hy y (hm y (by simp));dsimp only;refine gD (λ_=>?_) (λ_=>?_)
  ·exact aAb ⟨rfl,rfl,λz hz=>hm z (aAd _ hz)⟩
  ·refine aAa (fT 8 hx hd M A E s' _ rfl ?_);simp only[aDk,aAq,if_false];refine aAa (fT 8 he hde M A E s' _ rfl ?_);simp only[aDk,aAq,if_false];refine aAa (dJ 8 hx hd M A E s' _ rfl ?_);simp only[aAq,if_false];refine aAa (dJ 8 he hde M A E s' _ rfl ?_);simp only[aAq,if_false];exact aAb ⟨rfl,rfl,λz hz=>hm z (aAd _ hz)⟩
 ·rintro⟨r1,r2⟩ s' ⟨hr,rfl,_⟩;simp only at hr;subst hr;exact aAb q
end
end DL
namespace DL
open PySem PySem.Spec L2
open PyProof.Rows hiding St
variable [Tabs]
def EV (h:Heap)(e:Int×Value)(d:D):Prop:=HV h e.2 d/\e.1=m9 d
theorem F1 {α β:Type}{F:α->β->Prop}:∀{l:List α} {m:List β} {i:Nat} {a:α},Paired F l m->l[i]?=some a->∃b,m[i]?=some b/\F a b
 |_,_,_,_,.nil,h=>by simp at h
 |_,_,0,_,.cons r _,h=>by simp at h;subst h;exact⟨_,rfl,r⟩
 |_,_,i+1,a,.cons _ t,h=>by obtain⟨b,h1,h2⟩:=F1 (i:=i) t (by simpa using h);exact⟨b,by simpa using h1,h2⟩
theorem bK {α β:Type}{F:α->β->Prop}:∀{l:List α} {m:List β} {i:Nat} {b:β},Paired F l m->m[i]?=some b->∃a,l[i]?=some a/\F a b
 |_,_,_,_,.nil,h=>by simp at h
 |_,_,0,_,.cons r _,h=>by simp at h;subst h;exact⟨_,rfl,r⟩
 |_,_,i+1,a,.cons _ t,h=>by obtain⟨b,h1,h2⟩:=bK (i:=i) t (by simpa using h);exact⟨b,by simpa using h1,h2⟩
theorem eF {α β:Type}{F:α->β->Prop}:∀{l:List α} {m:List β},Paired F l m->l.length=m.length
 |_,_,.nil=>rfl
 |_,_,.cons _ t=>by simp[eF t]
section
variable{es:Array (Int×Value)}
def fV (K:ST.SOk t es.toList):t.fits es.size=true:=by
 have h1:=K.len;have h2:=K.room;have h3:=K.tab.nod;unfold aFX SetTable.fill;rw[h3];simp at h1⊢
 lia
theorem jO (ho:s.heap.get? S=some o)(hd:o.data=.set es ep t)(K:ST.SOk t es.toList)(hodd:t.mask%2=1)(P:Paired (EV s.heap) es.toList ds)(hx:HV s.heap (.ref x) (.tup xs))(zd:E6 (.tup xs)<8)(ya:∀e∈ds,E6 e<8)(hT:∀e∈ds,∃ys,e=.tup ys)
  (hu:A.units+16<cLine) (hf:ST.R9 t (m9 (.tup xs)) n0) {Q:SetFound->Shared->Prop} (q1:D.tup xs∈ds->Q (.there none) s) (q2:D.tup xs∉ds->Q (.free (ST.l8 t.mask (m9 (.tup xs)) n0).j false) s):
  ∀(fuel n:Nat) (rh:Option SetTable.Probe),rh.getD (t.probeStart (m9 (.tup xs)))=ST.l8 t.mask (m9 (.tup xs)) n->n<=n0->n0-n<fuel->
   (∀m<n,∀(i:Nat),t.place[i]?=some (ST.l8 t.mask (m9 (.tup xs)) m).j->ds[i]?≠some (.tup xs))->wpAny (model prog w) A (setSearchFrom S (.ref x) (m9 (.tup xs)) true fuel rh) Q E s
 |0,n,rh,_,_,h,_=>by lia
 |fuel+1,n,rh,jr,hn,hfu,hno=>by
  unfold setSearchFrom;refine aAa (aCa ho hd (fV K) ?_);dsimp only;refine gD (λz=>?_) (λ_=>?_)
  ·unfold SetTable.gaveWay at z;simp at z;lia
  rw[jr];obtain⟨n',a1,a2,a3,a4⟩:=ST.GI K.tab (λi=>(es[i]?.map (·.1)).getD 0) (m9<|.tup xs) hf n hn;generalize hg:t.probe _ (m9<|.tup xs) (ST.l8 t.mask (m9<|.tup xs) n)=pm;rcases a4 with⟨en,e⟩|⟨ar,i,hi,hh,e⟩
  ·have ep:pm=_:=hg.symm.trans e;rw[ep];dsimp only;refine aAb (q2 λhm=>?_);obtain⟨i,hi⟩:=aDf.mp hm;obtain⟨⟨hv,v⟩,he,h1,h2⟩:=bK P hi;obtain⟨j,hj,qo⟩:=ST.OH K.len he;dsimp only at h2;have hr:=K.reach _ qo;dsimp only at hr;rw[h2]at hr;obtain⟨m,hm,em⟩:=ST.Reach.before hf (by rw[<-aAA]at hj;exact aAr hj) hr;by_cases z:m<n
   ·exact hno m z i (by rw[em];exact hj) hi
   ·obtain⟨i',ib,bf⟩:=a3 m (by lia) (by lia);have:i'=i:=by have q1:=ST.J4 K.tab ib;have q2:=ST.J4 K.tab hj;rw[em]at q1;rw[q1]at q2;injection q2
    subst this;refine bf ?_;show(es[i']?.map (·.1)).getD 0=_;rw[<-aAA,he];exact h2
  ·have ep:pm=_:=hg.symm.trans e;rw[ep];dsimp only;have hidx:i<es.size:=by
    have:=(aBW.mp hi).1;have h1:=K.len;simp at h1
    lia
   have hes:es[i]?=some es[i]:=aAE hidx;obtain⟨di,hdi,hv,hhash⟩:=F1 P (show es.toList[i]?=some es[i]by rw[aAA];exact hes);obtain⟨ys,rfl⟩:=hT di (aAr hdi);have go:wpAny (model prog w) A (do
     let some (_,y):=es[i]?|unsupported "internal:set-entry"
     let equal<-holding [y] (eqBool y<|.ref x)
     let(es',_,t')<-setState S
     if true&&equal then return .there none
     let some same:=t'.sameMemory t.moves t.mask|unsupported "set.changed-during-lookup:is-the-new-block-at-the-old-address"
     let still<-match(if same then t'.slot (ST.l8 t.mask (m9<|.tup xs) n').j else .empty)with
      |.live i'=>match es'[i']? with
       |some (_,y')=>do pure (if<-isSame y' y then some i' else none)
       |none=>pure none
      |_=>pure none
     match still with
     |none=>rule "set.search.anew";setSearchFrom S (.ref x) (m9<|.tup xs) true fuel none
     |some i'=>if equal then return .there (some i')else setSearchFrom S (.ref x) (m9<|.tup xs) true fuel (some<|ST.l8 t.mask (m9<|.tup xs)<|n'+1)) Q E s:=by
    rw[hes];generalize he:es[i]=en at*
    obtain⟨hn,y⟩:=en;dsimp only at hv hhash⊢;refine aAa (aAJ (AG hv hx (by have:=ya _ (aAr hdi);lia) prog w E _ ?_));refine aAa (aCa ho hd (fV K) ?_);dsimp only;cases hq:u0 (.tup ys) (.tup xs)with
    |true=>rw[if_pos (show(true&&true)=true from rfl)];have:D.tup ys=.tup xs:=fN hv.ok hx.ok hq;rw[this]at hdi;exact aAb (q1<|aAr hdi)
    |false=>
     rw[if_neg (by simp)];have hsm:t.sameMemory t.moves t.mask=some true:=by unfold SetTable.sameMemory;rw[if_pos (by simp)]
     rw[hsm];dsimp only;rw[if_pos rfl,ST.J4 K.tab hi];dsimp only;rw[hes];dsimp only;cases hv with
     |tup p r=>
      refine aAa (wpAny_isSame_ref_self ?_);refine aAa (aAb ?_);rw[if_pos rfl];dsimp only;rw[if_neg (by simp)];refine jO ho hd K hodd P hx zd ya hT hu hf q1 q2 fuel (n'+1) _ rfl (by lia) (by lia) λm hm i2 ze hz=>?_;by_cases z:m<n
      ·exact hno m z i2 ze hz
      ·by_cases z2:m=n'
       ·subst z2;have:i2=i:=by have q1:=ST.J4 K.tab ze;have q2:=ST.J4 K.tab hi;rw[q1]at q2;injection q2
        subst this;rw[hdi]at hz;have:D.tup ys=.tup xs:=aAj hz;rw[this,T0]at hq;cases hq
       ·obtain⟨i',ib,bf⟩:=a3 m (by lia) (by lia);have:i'=i2:=by have q1:=ST.J4 K.tab ib;have q2:=ST.J4 K.tab ze;rw[q1]at q2;injection q2
        subst this;obtain⟨⟨h0,v0⟩,he0,hv0,hh0⟩:=bK P hz;refine bf ?_;show(es[i']?.map (·.1)).getD 0=_;rw[<-aAA,he0];exact hh0
   refine gD (λ_=>?_) (λ_=>go);refine aAa (UA hx zd _ (λy hy=>?_) ?_)
   ·obtain⟨e',ye,rfl⟩:=aAp.mp hy;rw[Array.toList_filter]at ye;have hm:=(aDa.mp ye).1;obtain⟨k,hk⟩:=aDf.mp hm;obtain⟨dk,hdk,hvk,_⟩:=F1 P hk;exact⟨dk,hvk,ya _ (aAr hdk)⟩
   ·rw[if_neg (by simp)];exact go
def qM (m n:Nat):Prop:=(m=7/\n<=4)\/(m=31/\n<=18)\/(m=127/\n<=76)
def qM.odd (h:qM m n):m%2=1:=by rcases h with⟨rfl,_⟩|⟨rfl,_⟩|⟨rfl,_⟩<;>rfl
def Keeps (h0 h:Heap):Prop:=∀b o,h0.get? b=some o->h.get? b=some o
structure SetAt (L:Bool)(h0 h:Heap)(S:Addr)(ds:List D):Prop where
 ex:∃(o:Obj) (es:Array (Int×Value)) (ep:Nat) (t:SetTable),h.get? S=some o/\o.cls=.type "set"/\o.dict=none/\o.slots=#[]/\o.data=.set es ep t/\ST.SOk t es.toList/\qM t.mask es.size/\Paired (EV h0) es.toList ds/\t.led=L/\t.plain=true
 nd:ds.Nodup
def aR {α β:Type}{F:α->β->Prop}:∀{l l':List α} {m:List β},l'.Perm l->Paired F l m->∃m',m'.Perm m/\Paired F l' m':=λ{l l' m} p=>by
 induction p generalizing m with
 |nil=>intro h;exact⟨m,.refl _,h⟩
 |cons x _ ih=>
  intro h;cases h with
  |cons r t=>obtain⟨m',p',q'⟩:=ih t;exact⟨_::m',p'.cons _,.cons r q'⟩
 |swap x y l=>
  intro h;cases h with
  |cons r t=>
   cases t with
   |cons r' t'=>exact⟨_,.swap _ _ _,.cons r' (.cons r t')⟩
 |trans _ _ ih1 ih2=>intro h;obtain⟨m1,p1,q1⟩:=ih2 h;obtain⟨m2,p2,q2⟩:=ih1 q1;exact⟨m2,p2.trans p1,q2⟩
theorem bP {α β:Type}{F G:α->β->Prop}(i:∀a b,F a b->G a b):∀{l:List α} {m:List β},Paired F l m->Paired G l m
 |_,_,.nil=>.nil
 |_,_,.cons r t=>.cons (i _ _ r) (bP i t)
theorem lY {α β:Type}{F:α->β->Prop}{a:α}{b:β}(r:F a b):∀{l:List α} {m:List β} (p:Nat),Paired F l m->Paired F (l.take p++a::l.drop p) (m.take p++b::m.drop p)
 |_,_,0,h=>.cons r h
 |_,_,p+1,.nil=>.cons r .nil
 |_,_,p+1,.cons r' t=>.cons r' (lY r p t)
def HH {α:Type}(a:α)(l:List α)(p:Nat):(l.take p++a::l.drop p).Perm (a::l):=by have h:=List.perm_middle (a:=a) (l₁:=l.take p) (l₂:=l.drop p);rw[aFt]at h;exact h
def uK {α β:Type}{M:Model}{Q:α->Shared->Prop}{c:Prop}[Decidable c]{a:Sem β}{k:β->Sem α}(b:β)(h1:∀Q':β->Shared->Prop,Q' b s->wpAny M A a Q' E s)(h:wpAny M A (k b) Q E s):wpAny M A (if c then a>>=k else pure b>>=k) Q E s:=
 gD (λ_=>aAa (h1 _ h)) (λ_=>aAa (aAb h))
def iX (h:Heap)(S:Addr)(f:Obj->Obj):Heap.SameBut S h (h.update S f):=⟨by simp[Heap.size_update],λb hb=>aAB _ _ (aCm hb)⟩
def oE {h:Heap}{S:Addr}{o:Obj}{es es':Array (Int×Value)}{ep:Nat}{t t':SetTable}(ho:h.get? S=some o)(hd:o.data=.set es ep t):(h.update S (aEh es' t')).get? S=some {o with data:=.set es' (ep+1) t'}:=by
 have e:aEh es' t' o={o with data:=.set es' (ep+1) t'}:=by obtain⟨c,d,dt,sl⟩:=o;cases dt<;>simp at hd;obtain⟨rfl,rfl,rfl⟩:=hd;rfl
 rw[aBf _ ho (by rw[e];rfl),e]
def RM {L:Bool}{h0:Heap}{Q:rZ}(hS:SetAt L h0 s.heap S ds)(kp:Keeps h0 s.heap)(hx0:HV h0 (.ref x) (.tup xs))(zd:E6 (.tup xs)<8)(ya:∀e∈ds,E6 e<8)(hT:∀e∈ds,∃ys,e=.tup ys)(hu:A.units+128<cLine)(hn:ds.length<76)
  (q1:D.tup xs∈ds->∀tk,s.toks<=tk->Q false {s with toks:=tk})
  (q2:D.tup xs∉ds->∀h' tk cb,s.toks<=tk->Heap.SameBut S s.heap h'->SetAt L h0 h' S cb->cb.Perm (.tup xs::ds)->Q true {s with heap:=h',toks:=tk}):wpAny (model prog w) A (setAdd S (.ref x)) Q E s:=by
 obtain⟨⟨o,es,ep,t,ho,hc,hdct,hsl,hd,K,mk,P0,lp0⟩,nd⟩:=hS;have hx:HV s.heap (.ref x) (.tup xs):=hx0.keeps λb o e _=>kp b o e;have P:Paired (EV s.heap) es.toList ds:=bP (λe d r=>⟨r.1.keeps λb o e _=>kp b o e,r.2⟩) P0;have ir:es.size=ds.length:=by have:=eF P;simpa using this
 unfold setAdd;refine aAJ (aAa (OK hx A E s _ rfl (by lia) λtk xc=>?_));unfold setAddHashed setAddHashedIn;refine aAJ (aAa<|aCa (s:={s with toks:=tk}) ho hd (fV K) ?_);dsimp only;rw[show byScan (.ref x) es=false from rfl];simp only[aAq,if_false];obtain⟨n0,hf⟩:=ST.yP K.full K.room (m9<|.tup xs);refine aAa (jO (s:={s with toks:=tk}) (n0:=n0) ho hd K mk.odd P hx zd ya hT (by lia) hf (λhm=>?_) (λhm=>?_) 100000 0 none rfl (aAW _) ?_ (λm hm=>by lia))
 ·dsimp only;exact aAb (q1 hm tk xc)
 ·dsimp only;refine aAa (aCa (s:={s with toks:=tk}) ho hd (fV K) ?_);dsimp only;refine uK true (λQ' q=>kO 8 hx zd _ _ _ _ _ rfl q) ?_;rw[if_pos rfl];have oo:t.place.size+1<=t.mask:=by have:=K.len;simp at this;rcases mk with⟨m1,m2⟩|⟨m1,m2⟩|⟨m1,m2⟩<;>lia
  have K2:=ST.UC K (x:=.ref x) hf oo;have el:=ST.cO es (t.put (ST.l8 t.mask (m9<|.tup xs) n0).j).2 (m9 (.tup xs),aCJ x);have lp:(t.put (ST.l8 t.mask (m9<|.tup xs) n0).j).1.led=L/\(t.put (ST.l8 t.mask (m9<|.tup xs) n0).j).1.plain=true:=lp0;have em:(t.put (ST.l8 t.mask (m9<|.tup xs) n0).j).1.mask=t.mask:=rfl;rw[<-el]at K2;have P2:Paired (EV h0) (aGj es (t.put (ST.l8 t.mask (m9<|.tup xs) n0).j).2 (m9 (.tup xs),aCJ x)).toList (ds.take (t.put (ST.l8 t.mask (m9<|.tup xs) n0).j).2++.tup xs::ds.drop (t.put (ST.l8 t.mask (m9<|.tup xs) n0).j).2):=by rw[el];exact lY ⟨hx0,rfl⟩ _ P0
  have pm:=HH (D.tup xs) ds (t.put (ST.l8 t.mask (m9<|.tup xs) n0).j).2;generalize hds2:ds.take (t.put (ST.l8 t.mask (m9<|.tup xs) n0).j).2++.tup xs::ds.drop (t.put (ST.l8 t.mask (m9<|.tup xs) n0).j).2=rg at P2 pm;generalize hes2:aGj es (t.put (ST.l8 t.mask (m9<|.tup xs) n0).j).2 (m9 (.tup xs),aCJ x)=qf at K2 P2⊢;generalize ht2:(t.put (ST.l8 t.mask (m9<|.tup xs) n0).j).1=t2 at K2 em lp⊢;have uf:rg.Nodup:=pm.nodup_iff.mpr (aAK.mpr ⟨hm,nd⟩);have sz2:qf.size=es.size+1:=by
   have h1:=eF P2;have h2:=pm.length_eq;simp at h1 h2
   lia
  have fm:qf.size<=sizeLine:=by rw[sz2,aEY];lia
  refine aAa (wpAny_storeSet_of (s:={s with toks:=tk}) ho hd ?_ fm);have lg:=oE (es':=qf) (t':=t2) ho hd;have sb2:=iX s.heap S (aEh qf t2);have hfill:t2.fill=qf.size:=by have h1:=K2.len;have h2:=K2.tab.nod;unfold SetTable.fill;rw[h2];simp at h1⊢;lia
  refine gD (λxf=>?_) (λxf=>?_)
  ·
   have qp:t2.fill*5>=t2.mask*3:=by
    have:t2.tooFull=true:=by simpa using xf
    simpa[aGo]using this
   rw[hfill,em,sz2]at qp;obtain⟨M,hM,hM1,hM2⟩:∃M,SetTable.sizeAbove (SetTable.grown<|es.size+1)=M+1/\ST.jU (M+1)/\qM M (es.size+1):=by
    rcases mk with⟨m1,m2⟩|⟨m1,m2⟩|⟨m1,m2⟩
    ·have:es.size=4:=by lia
     rw[this];exact⟨31,by decide,ST.TQ,.inr (.inl ⟨rfl,by lia⟩)⟩
    ·have:es.size=18:=by lia
     rw[this];exact⟨127,by decide,ST.MH,.inr (.inr ⟨rfl,by lia⟩)⟩
    ·lia
   unfold setRelay;refine aAa (aAa<|aCa (s:={s with heap:=s.heap.update S (aEh qf t2),toks:=tk}) lg rfl (fV K2) ?_);dsimp only;rw[hM];refine gD (λz=>?_) (λ_=>?_)
   ·exfalso;rcases hM2 with⟨m1,_⟩|⟨m1,_⟩|⟨m1,_⟩<;>(subst m1;exact absurd z (by rw[aEY];decide))
   obtain⟨t3,order,r1,r2,r3,r4,r5,r6,r7,r8,r9⟩:=ST.GA (finger:=t2.finger) (moves:=t2.movedTo M) (led:=t2.led) (plain:=t2.plain) hM1 qf (by rw[sz2];rcases hM2 with⟨m1,m2⟩|⟨m1,m2⟩|⟨m1,m2⟩<;>lia);have er:t2.relaid (qf.map (·.1)) (SetTable.grown<|es.size+1)=some (t3,order):=by unfold SetTable.relaid;rw[hM];exact r1
   rw[er];have hre:∀{Q':Array (Int×Value)×SetTable->Shared->Prop} {s':Shared},Q' (order.filterMap (qf[·]?),t3) s'->wpAny (model prog w) A (do
     let es':=order.filterMap (qf[·]?)
     if es'.size !=qf.size then unsupported "internal:set-table-lost-an-element"
     pure (es',t3)) Q' E s':=λ{Q' s'} qq=>by
    dsimp only;rw[if_neg (by simp[r2])];exact aAb qq
   refine aAa (hre ?_);dsimp only;generalize hes3:order.filterMap (qf[·]?)=es3 at r2 r3 r4⊢;refine wpAny_storeSet_of (s:={s with heap:=s.heap.update S (aEh qf t2),toks:=tk}) lg rfl ?_ (by rw[r2];exact fm);refine aAb ?_;have ho3:=oE (es':=es3) (t':=t3) lg rfl;have sb3:=iX (s.heap.update S<|aEh qf t2) S (aEh es3 t3);obtain⟨ds3,p3,P5⟩:=aR r3 P2;exact q2 hm _ tk ds3 xc (sb2.trans sb3) ⟨⟨_,es3,_,t3,ho3,hc,hdct,hsl,rfl,r4,by rw[r5,r2,sz2];exact hM2,P5,by rw[r7];exact lp.1,by rw[r8];exact lp.2⟩,p3.nodup_iff.mpr uf⟩ (p3.trans pm)
  ·refine aAb ?_;refine q2 hm _ tk rg xc sb2 ⟨⟨_,qf,_,t2,lg,hc,hdct,hsl,rfl,K2,?_,P2,lp⟩,uf⟩ pm;have qp:¬t2.fill*5>=t2.mask*3:=λz=>xf (by simp[aGo,z]);rw[hfill,em,sz2]at qp;rw[em,sz2];rcases mk with⟨m1,m2⟩|⟨m1,m2⟩|⟨m1,m2⟩
   ·exact .inl ⟨m1,by lia⟩
   ·exact .inr (.inl ⟨m1,by lia⟩)
   ·exact .inr (.inr ⟨m1,by lia⟩)
 ·have:=hf.1;have hm:t.mask<=127:=by rcases mk with⟨m1,_⟩|⟨m1,_⟩|⟨m1,_⟩<;>lia
  lia
end
section
variable{prog:Program} {w:World} {A:Around} {R:Result->Shared->Prop} {I:Addr} {fp wr:List Addr} {G:Array GenState->Array GenState->Prop} {n:Nat} {P:Nat->Value->Prop} {St:Nat->Shared->Prop} {h0:Heap}
def RU (h0:Heap)(v:Value)(d:D):Prop:=∃a xs,v=.ref a/\d=.tup xs/\E6 d<8/\HV h0 v d
def JN {L:Bool}(W:WalksS prog w A.in1 I fp wr G n P St)(S:Addr)(qg:S∉fp)(hS0:h0.get? S=none)(hw0:∀b∈wr,h0.get? b=none)
  (val:Nat->D) (hval:∀i v,P i v->RU h0 v (val i)) (hvd:∀i<n,E6 (val i)<8/\∃ys,val i=.tup ys) {U:List D} (hU:∀i<n,val i∈U) (hb:U.length<=75) (hu:A.units+200<cLine):
  ∀(k i:Nat) (s:Shared),n-i=k->i<=n->St i s->Keeps h0 s.heap->(∃ds,SetAt L h0 s.heap S ds/\∀d,d∈ds↔∃j<i,val j=d)->
   (∀s',Moved (S::wr) G s s'->(∃ds,SetAt L h0 s'.heap S ds/\∀d,d∈ds↔∃j<n,val j=d)->R (.ok (.ret .none)) s')->
   codeAny (model prog w) A (.builtin "set.update.loop" ⟨[.ref S,.ref I],[]⟩) R s:=by
 have hSw:S∉wr:=λh=>qg (W.sub _ h);have kl:∀b∈wr,b∈S::wr:=λb hb=>aAd _ hb;intro k;induction k with
 |zero=>
  intro i s hk hi jr hkp hS hR;have oh:i=n:=by omega
  subst oh;refine aBu F.entry_set_update_loop ?_;rw[aBa F.plain_set_update_loop _];show wpAny _ A.in1 (pyNext (.ref I)>>=_) _ _ s;refine aAa (W.done s _ _ jr λs' hm=>?_);show wpAny _ A.in1 (ret Value.none) _ _ s';refine aAb (hR s' (hm.mono kl) ?_);obtain⟨ds,⟨⟨o,es,ep,t,ho,r⟩,nd⟩,lu⟩:=hS;exact⟨ds,⟨⟨o,es,ep,t,hm.heap S _ hSw ho,r⟩,nd⟩,lu⟩
 |succ k ih=>
  intro i s hk hi jr hkp hS hR;have ar:i<n:=by omega
  refine aBu F.entry_set_update_loop ?_;rw[aBa F.plain_set_update_loop _];show wpAny _ A.in1 (pyNext (.ref I)>>=_) _ _ s;refine aAa (W.item i s _ _ ar jr λv s' hP me hm=>?_);obtain⟨ds,⟨⟨o,es,ep,t,ho,r⟩,nd⟩,lu⟩:=hS;have jm:SetAt L h0 s'.heap S ds:=⟨⟨o,es,ep,t,hm.heap S _ hSw ho,r⟩,nd⟩;have kp':Keeps h0 s'.heap:=λb ob e=>hm.heap b ob (λz=>by rw[hw0 b z]at e;cases e) (hkp b ob e);obtain⟨a,xs,rfl,va,hdp,hv⟩:=hval i v hP;rw[va]at hdp hv;show wpAny _ A.in1 (holding [aCJ a] (setAdd S<|.ref a)>>=_) _ _ s';have tups:∀e∈ds,E6 e<8/\∃ys,e=.tup ys:=λe he=>by obtain⟨j,hj,ej⟩:=(lu e).mp he;rw[<-ej];exact hvd j (by omega)
  refine aAa (aAJ (RM jm kp' hv hdp (λe he=>(tups e he).1) (λe he=>(tups e he).2) (by rw[t7];omega) (by letI:DecidableEq D:=λa b=>aDH _;have:=ST.M4 (m:=U) nd (λd hd=>by obtain⟨j,hj,e⟩:=(lu d).mp hd;rw[<-e];exact hU j (by omega));omega) (λoh tk xc=>?_)<|λhni h' tk cb xc hsb hS2 pm=>?_))
  ·
   refine aAb ⟨aBQ F.plain_set_update_loop _,ih (i+1) _ (by omega) ar (W.frame _ s' _ _ me xc λb hb o e=>e) kp' ⟨ds,jm,λd=>?_⟩ λs'' ni xg=>?_⟩
   ·rw[lu];constructor
    ·rintro⟨j,hj,e⟩;exact⟨j,by omega,e⟩
    ·rintro⟨j,hj,e⟩;by_cases z:j=i
     ·subst z;rw[va]at e;rw[e]at oh;exact(lu d).mp oh
     ·exact⟨j,by omega,e⟩
   ·exact hR s'' (aFb W.gtrans ((hm.mono kl).then_heap xc λb o hb e=>e) ni) xg
  ·have hbS:∀b,b≠S->h'.get? b=s'.heap.get? b:=λb hb=>hsb.2 b hb;refine aAb ⟨aBQ F.plain_set_update_loop _,ih (i+1) _ (by omega) ar (W.frame _ s' _ _ me xc λb hb o e=>?_) (λb o e=>?_) ⟨cb,hS2,λd=>?_⟩ λs'' ni xg=>?_⟩
   ·rw[hbS b (λz:b=S=>qg (by rw[<-z];exact hb))];exact e
   ·show h'.get? b=some o;rw[hbS b (λz=>by subst z;rw[hS0]at e;cases e)];exact kp' b o e
   ·rw[pm.mem_iff,aAe,lu];constructor
    ·rintro(rfl|⟨j,hj,e⟩)
     ·exact⟨i,by omega,va⟩
     ·exact⟨j,by omega,e⟩
    ·rintro⟨j,hj,e⟩;by_cases z:j=i
     ·subst z;rw[va]at e;exact .inl e.symm
     ·exact .inr ⟨j,by omega,e⟩
   ·refine hR s'' (aFb W.gtrans ((hm.mono kl).then_heap xc λb o hb e=>?_) ni) xg;rw[hbS b (λz:b=S=>hb (by rw[z];exact aAX))];exact e
end
section
variable{prog:Program} {w:World} {A:Around} {E:C5} {s:Shared}
abbrev jW (led:Bool):Obj:={cls:=.type "set",dict:=none,data:=.set #[] 0 (.fresh 0 0 led)}
def BY (h0 h:Heap)(S:Addr)(led:Bool)(e:h.get? S=some (jW led)):SetAt led h0 h S []:=by
 refine⟨⟨_,#[],0,.fresh 0 0 led,e,rfl,rfl,rfl,rfl,⟨⟨λi k hi=>?_,λj hj=>?_,rfl⟩,ST.XE,rfl,?_,λe he=>?_⟩,.inl ⟨rfl,aAW _⟩,.nil,rfl,rfl⟩,aCU⟩
 ·exact absurd hi (by show¬i<0;omega)
 ·exact absurd hj (by show¬j∈[];simp)
 ·show 0<=7;omega
 ·exact absurd he (by show¬e∈[];simp)
def vH (a:Value){Q₁:C5}(h:Q₁ (.ref s.heap.objs.size) {s with heap:=s.heap.push (jW (!w.params.followText "set-order"))}):
  codeAny (model prog w) A (.call (.builtin "set.__new__") ⟨[.type "set",a],[]⟩) (wants Q₁ E) s:=by
 refine codeAny_of_tree ?_;show wpAny _ A.in1 (do checkBuiltinCall "set.__new__" ⟨[.type "set",a],[]⟩;again (.builtin "set.__new__" ⟨[.type "set",a],[]⟩)) _ _ s;refine aAa (wpAny_of_eq (F.newCall_set_1 a)<|aAb ⟨aBQ F.plain_set_new _,aBu F.entry_set_new ?_⟩);rw[aBa F.plain_set_new _];unfold Builtin.«set.__new__» Builtin.Frozenset.newClass;have kl:=sub_set_self;obtain⟨hp,g,d,tk,os⟩:=s;dsimp only
 wp_walk
 refine aFg (aAb ?_);dsimp only;simp only[newObj];exact aAa (wpAny_alloc<|aAb<|aAb h)
def vF {h0:Heap}(kp0:Keeps h0 s.heap){l:Addr}{its:Array Value}{val:Nat->D}{Q:C5}(hh:A.handled=none)(hl:s.heap.IsList l its)
  (hval:∀(i:Nat) (v:Value),its[i]?=some v->RU h0 v (val i)) (hvd:∀i<its.size,E6 (val i)<8/\∃ys,val i=.tup ys) {U:List D} (hU:∀i<its.size,val i∈U) (hb:U.length<=75) (hu:A.units+300<cLine)
  (h:∀(h':Heap) (tk:Nat) (ds:List D),SetAt (!w.params.followText "set-order") h0 h' s.heap.objs.size ds->(∀d,d∈ds↔∃j<its.size,val j=d)->Keeps s.heap h'->Q (.ref s.heap.objs.size) {s with heap:=h',toks:=tk}):
  wpAny (model prog w) A (call (.type "set") [.ref l]) Q E s:=by
 obtain⟨c,tl,hmro⟩:=PySem.F.called_set.mro;have hmade:=PySem.F.called_set.made;have kl:=PySem.F.called_set.sub;refine aFy (codeAny_of_tree ?_);show wpAny _ _ (callAny (.type "set") _) _ _ _;refine aAb ⟨Code.quiet_builtin _ (by decide+kernel),aBu PySem.F.entry_type_call ?_⟩;rw[Around.under_plain (weight_type_call_type "set" [.ref l] []) rfl];have h1:=PySem.F.called_set.notType;have h2:=PySem.F.called_set.canCreate;have hct:=PySem.F.typeCall_set_1 (.ref l);repeat(any_goals(first|assumption|wp_step))
 refine aDc (vH (.ref l) (E:=E) (Q₁:=λob ah=>∃led:Bool,led=!w.params.followText "set-order"/\ob=.ref s.heap.objs.size/\ah={s with heap:=s.heap.push (jW led)}) ⟨_,rfl,rfl,rfl⟩) λr ah hr=>?_;cases r with
 |error e=>exact hr
 |ok fl=>
  cases fl with
  |next=>exact hr.elim
  |brk=>exact hr.elim
  |cont=>exact hr.elim
  |ret ob=>
   obtain⟨led,eL,rfl,rfl⟩:=hr;have hS:(s.heap.push<|jW led).get? s.heap.objs.size=some (jW led):=aAn _ rfl;have hT:Shared.TypeIs {s with heap:=s.heap.push (jW led)} (.ref s.heap.objs.size) "set":=⟨_,hS,rfl⟩;have hli:=PySem.F.called_set.init.lookup;have hbi:=PySem.F.called_set.init.bind (.ref s.heap.objs.size);repeat(any_goals(first|assumption|wp_step))
   refine aDc (aEf (R:=wants (λr ic=>r=.none/\∃h' tk ds,ic={s with heap:=h',toks:=tk}/\SetAt (!w.params.followText "set-order") h0 h' s.heap.objs.size ds/\(∀d,d∈ds↔∃j<its.size,val j=d)/\Keeps s.heap h') E) PySem.F.called_set.init.plain PySem.F.entry_set_init<|check_set_init_1 hT ?_) λrf ic hr0=>?_
   ·obtain⟨ol,hol,qh,nl,hdl⟩:=hl;obtain⟨ocls,odict,odata,oslots⟩:=ol;simp only at qh hdl;subst qh;subst hdl;have hol':(s.heap.push<|jW led).get? l=some {cls:=.type "list",dict:=odict,data:=.seq its nl,slots:=oslots}:=aAc _ hol;have hsls:=PySem.F.sub_list_set;have hslf:=PySem.F.sub_list_frozenset;have bf:(aCj "list"==aCj "dict")=false:=by decide
    have qr:(s.heap.push<|jW led).IsList l its:=⟨_,hol',rfl,nl,rfl⟩;unfold Builtin.«set.__init__» noKeywords Builtin.Frozenset.updateFrom;generalize hPI:pyIter=PI
    wp_walk
    subst hPI;refine aDh qr (aAa<|wpAny_runValue ?_);have hlS:l<s.heap.objs.size:=aAf hol;have hh3:A.in1.in1.in1.handled=none:=by simp[hh]
    have hneI:l≠(s.heap.push<|jW led).objs.size:=by rw[aBn];exact aAi (aBo hlS)
    have qg:s.heap.objs.size∉[(s.heap.push<|jW led).objs.size,l]:=by rw[aBn];simp only[aAe,aAG,or_false,not_or];exact⟨aAi (aDt _),aDb hlS⟩
    have ou:∀b,s.heap.objs.size<=b->h0.get? b=none:=λb hb=>by
     cases e:h0.get? b with
     |none=>rfl
     |some o=>have:=kp0 b o e;rw[aEc hb]at this;cases this
    refine JN (h0:=h0) ((Walks.list hh3 _ l hneI its).toS) s.heap.objs.size qg (ou _<|aAg _) (λb hb=>?hw) val hval hvd hU hb (by show A.units+1+1+200<cLine;omega) (its.size-0) 0 _ (by omega) (aAW _) ⟨⟨_,aAn _ rfl,rfl,rfl⟩,(qr.push _)⟩ (λb o e=>aAc _ (aAc _<|kp0 b o e)) ⟨[],BY _ _ _ led (aAc _ hS),λd=>?he⟩ ?hR
    case he=>exact⟨λz=>(by cases z),λ⟨j,hj,_⟩=>(by omega)⟩
    case hw=>
     have ma:b=(s.heap.push<|jW led).objs.size:=by simpa using hb
     subst ma;rw[aBn];exact ou _ (Nat.le_succ _)
    case hR=>
     rintro⟨h',g',d',yf,os'⟩ hm ⟨ds,jm,qo⟩;have eg:g'=s.gens:=hm.gens;have ed:d'=s.drawn:=hm.drawn;have eo:os'=s.os:=hm.os;subst eg;subst ed;subst eo;refine aAb ?_;show wpAny _ _ (ret Value.none) _ _ _;refine aAb ⟨rfl,h',yf,ds,rfl,(eL▸jm),qo,λb o e=>?_⟩;have hb:=aAf e;have hb2:b≠(s.heap.push<|jW led).objs.size:=by rw[aBn];exact aAi (aBo hb)
     exact hm.heap b o (by simp only[aAe,aAG,or_false,not_or];exact⟨aAi hb,hb2⟩) (aAc _<|aAc _ e)
   ·cases rf with
    |error e=>exact hr0
    |ok fl1=>
     cases fl1 with
     |next=>exact hr0.elim
     |brk=>exact hr0.elim
     |cont=>exact hr0.elim
     |ret r=>
      obtain⟨rfl,h',tk,ds,rfl,jm,qo,mh⟩:=hr0;repeat(any_goals(first|assumption|wp_step))
      exact h _ _ _ jm qo mh
end
end DL
namespace SI
open PySem
theorem BA {α:Type}(next:Nat->Nat):∀(fuel k:Nat) (left:List α) (out:Array α),left.length=fuel->(aGl next fuel k left out).toList.Perm (out.toList++left)
 |0,k,left,out,h=>by have:left=[]:=aCT h;subst this;simp[aGl]
 |fuel+1,k,left,out,h=>by
  unfold aGl;have hp:0<left.length:=by lia
  have hi:next k%left.length<left.length:=aER _ hp
  rw[aAk hi];dsimp only;refine(BA next fuel (k+1) _ _ (by rw[List.length_eraseIdx_of_lt hi];lia)).trans ?_;rw[Array.toList_push,aDi];refine List.Perm.append_left _ ?_;have:∀(l:List α) (i:Nat) (h:i<l.length),(l[i]::l.eraseIdx i).Perm l:=by
   intro l;induction l with
   |nil=>intro i h;simp at h
   |cons x l ih=>
    intro i h;cases i with
    |zero=>simp
    |succ i=>
     have h':i<l.length:=by simpa using h
     rw[aEZ,List.getElem_cons_succ];exact(List.Perm.swap _ _ _).trans ((ih i h').cons _)
  exact this left _ hi
def oJ {α:Type}(next:Nat->Nat)(xs:Array α):(pickOrder next xs).toList.Perm xs.toList:=by unfold pickOrder;simpa using BA next xs.size 0 xs.toList #[] (by simp)
def walkL (w:World)(S:Addr)(es:Array (Int×Value))(ep:Nat):List (Int×Value):=if w.params.followText "set-order"=true then(pickOrder (w.params.setOrder S ep) es).toList else es.toList
def walkL_perm (w:World)(S:Addr)(es:Array (Int×Value))(ep:Nat):(walkL w S es ep).Perm es.toList:=by
 unfold walkL;split
 ·exact oJ _ _
 ·exact List.Perm.refl _
def slotAt (w:World)(t:SetTable):Nat->Nat
 |0=>0
 |i+1=>if w.params.followText "set-order"=true then 0 else t.place.getD i 0+1
def L7 (h:Heap)(w:World)(it S:Addr)(t:SetTable)(i n ep:Nat):Prop:=
 h.get? it=some {cls:=.type "set_iterator",dict:=none,data:=.fields #[rawInt (slotAt w t i),rawInt i,.ref S,rawInt n,rawInt ep],slots:=#[]}
def IsSet (h:Heap)(S:Addr)(es:Array (Int×Value))(ep:Nat)(t:SetTable):Prop:=∃o,h.get? S=some o/\o.cls=.type "set"/\o.data=.set es ep t
namespace F
def entry_set_iter:entryFor table "set.__iter__"=some Builtin.«frozenset.__iter__»:=entryFor_alias (id':= "frozenset.__iter__") (by kernel_rfl) rfl (by decide+kernel) (by kernel_rfl)
def slot_seti_next:Slot "set_iterator" "__next__" "set_iterator.__next__":=
 .of (owner:= "set_iterator") (n:= "__next__") (by rw[aDg,aCh];kernel_rfl) (by decide+kernel) (by decide+kernel) (by decide+kernel)
  (by first|exact .inl (by decide+kernel)|exact .inr (by decide+kernel)) (by rw[aEI];kernel_rfl)
def entry_seti_next:entryFor table "set_iterator.__next__"=some Builtin.«set_iterator.__next__»:=entryFor_of_tree (by kernel_rfl)
def args_seti_next (a:Value):argsOk "set_iterator.__next__" ⟨[a],[]⟩:=by unfold argsOk;kernel_rfl
def slot_seti_iter:Slot "set_iterator" "__iter__" "set_iterator.__iter__":=
 .of (owner:= "set_iterator") (n:= "__iter__") (by rw[aDg,aCh];kernel_rfl) (by decide+kernel) (by decide+kernel) (by decide+kernel)
  (by first|exact .inl (by decide+kernel)|exact .inr (by decide+kernel)) (by rw[aEI];kernel_rfl)
def entry_seti_iter:entryFor table "set_iterator.__iter__"=some Builtin.«dict_keyiterator.__iter__»:=entryFor_alias (id':= "dict_keyiterator.__iter__") (by kernel_rfl) rfl (by decide+kernel) (by kernel_rfl)
def args_seti_iter (a:Value):argsOk "set_iterator.__iter__" ⟨[a],[]⟩:=by unfold argsOk;kernel_rfl
end F
section
variable{s:Shared} {t:SetTable}
def EF {α:Type}{M:Model}{Q:α->Shared->Prop}{c:Prop}[Decidable c]{a b:Sem α}(h:c)(k:wpAny M A a Q E s):wpAny M A (if c then a else b) Q E s:=by rw[if_pos h];exact k
def tE (es:Array (Int×Value))(hp:t.plain=true):(!t.plain&&decide (es.size>1))=false:=by rw[hp];rfl
def xC {Q:rZ}(h:Q (w.params.followText "set-order") s):wpAny (model prog w) A setsByText Q E s:=by unfold setsByText;exact aAa (aFg<|aAb h)
def FU {Q:C5}(hS:IsSet s.heap S es ep t)(hf:t.fits es.size=true)(hp:t.plain=true)
  (h:Q (.ref s.heap.objs.size) {s with heap:=s.heap.push {cls:=.type "set_iterator",dict:=none,data:=.fields #[rawInt (slotAt w t 0),rawInt (0:Nat),.ref S,rawInt es.size,rawInt ep],slots:=#[]}}):
  wpAny (model prog w) A (pyIter (.ref S)) Q E s:=by
 obtain⟨o,ho,hc,hd⟩:=hS;have hT:s.TypeIs (.ref S) "set":=⟨o,ho,hc⟩;refine aEU hT PySem.F.slot_set_iter (aBk PySem.F.slot_set_iter hT F.entry_set_iter ?_ (PySem.F.args_set_iter_1 _));unfold Builtin.«frozenset.__iter__»;show wpAny _ _ (aFc "__iter__" ⟨[.ref S],[]⟩>>=_) _ _ s;have e0:aFc "__iter__" ⟨[.ref S],[]⟩=pure S:=rfl;rw[e0];refine aAa (aAb ?_);unfold Builtin.Frozenset.sizeOf;refine aAa (aAa<|aEn ho hd hf<|aAb ?_);refine aAa ?_;unfold setDrawn;refine aAa (aCa ho hd hf<|aAa<|xC<|aAb ?_);show wpAny _ _ (if(!w.params.followText "set-order"&&(!t.plain&&decide (es.size>1)))=true then _ else _) _ _ s;rw[tE es hp,aFL];simp only[aAq,if_false];refine aAa (aAb<|aAa<|wpAny_setEpoch_of ho hd hf ?_);refine aAa (aBx<|aAb ⟨_,rfl, "set_iterator",_,⟨_,aAn _ rfl,rfl⟩,F.slot_seti_next.lookup,?_⟩);simpa[slotAt]using h
def wG (ha:ST.BK xs):aDq xs 0=0:=by
 obtain⟨b1,b2,b3⟩:=ST.Y7 ha 0;by_cases h:aDq xs 0=0
 ·exact h
 ·exact absurd (b2 0 (by lia) (by lia)) (by lia)
def xI (ha:ST.BK xs)(hi:i<xs.size):aDq xs (xs.getD i 0+1)=i+1:=by
 have e:xs.getD i 0=xs[i]:=by simp[aEQ,hi]
 rw[e];obtain⟨b1,b2,b3⟩:=ST.Y7 ha (xs[i]+1);rcases Nat.lt_trichotomy (aDq xs<|xs[i]+1) (i+1)with q|q|q
 ·have:=b3 i hi (by lia);lia
 ·exact q
 ·have h1:i+1<xs.size:=by lia
  have:=b2 (i+1) h1 q;have:=ha i (i+1) hi h1 (by lia)
  lia
def xG (t:SetTable)(ha:ST.BK t.place)(hb:¬w.params.followText "set-order"=true)(hi:i<=t.place.size):aDq t.place (slotAt w t i)=i:=by
 cases i with
 |zero=>exact wG ha
 |succ i=>show aDq t.place (if w.params.followText "set-order"=true then 0 else t.place.getD i 0+1)=i+1;rw[if_neg hb];exact xI ha (by lia)
def vW {Q:Option (Value×Nat)->Shared->Prop}(hS:IsSet s.heap S es ep t)(hf:t.fits es.size=true)(hp:t.plain=true)(hl:¬w.params.followText "set-order"=true->t.led=true)(ha:ST.BK t.place)(hi:i<=es.size)(h1:∀e,(walkL w S es ep)[i]?=some e->Q (some (e.2,slotAt w t (i+1))) s)(h2:i=es.size->Q none s):wpAny (model prog w) A (setNext S (slotAt w t i) i ep) Q E s:=by
 obtain⟨o,ho,hc,hd⟩:=hS;have ir:t.place.size=es.size:=by simp only[aFX,aAF,beq_iff_eq,decide_eq_true_eq]at hf;exact hf.1
 unfold setNext;refine aAa (aCa ho hd hf ?_);refine aAa (xC ?_);by_cases hb:w.params.followText "set-order"=true
 ·rw[if_pos hb,if_neg (by simp)];unfold setWalk;refine aAa (aAa<|aCa ho hd hf<|aAa<|xC ?_);rw[if_pos hb];refine aAa (aFg<|aAb ?_);refine aAb ?_;have ew:(walkL w S es ep)=(pickOrder (w.params.setOrder S ep) es).toList:=by unfold walkL;rw[if_pos hb]
  have es0:slotAt w t i=slotAt w t (i+1):=by
   cases i with
   |zero=>show 0=if w.params.followText "set-order"=true then 0 else _;rw[if_pos hb]
   |succ i=>show(if w.params.followText "set-order"=true then 0 else _)=if w.params.followText "set-order"=true then 0 else _;rw[if_pos hb,if_pos hb]
  rw[ew,aAA]at h1;show Q (((pickOrder (w.params.setOrder S ep) es)[i]?).map λe=>(e.2,slotAt w t i)) s;cases e:(pickOrder (w.params.setOrder S ep) es)[i]? with
  |some x=>rw[es0];exact h1 x e
  |none=>
   have hsz2:(pickOrder (w.params.setOrder S ep) es).size=es.size:=by have:=(oJ (w.params.setOrder S ep) es).length_eq;simpa using this
   have:=Array.getElem?_eq_none_iff.mp e;exact h2 (by lia)
 ·rw[if_neg hb];have d0:¬(!t.plain&&decide (es.size>1))=true:=by rw[hp];simp
  show wpAny _ _ (if(!t.plain&&decide (es.size>1))=true then _ else _) _ _ s;rw[if_neg d0];show wpAny _ _ ((if(!t.led&&!es.isEmpty)=true then _ else _)>>=_) _ _ s;rw[if_neg (by rw[hl hb];simp)];refine aAa (aAb<|aAb ?_);rw[xG t ha hb (by lia)];have ew:(walkL w S es ep)=es.toList:=by unfold walkL;rw[if_neg hb]
  rw[ew,aAA]at h1;by_cases ar:i<es.size
  ·have e1:es[i]?=some es[i]:=aAE ar;have hlt':i<t.place.size:=by lia
   have e2:t.place[i]?=some t.place[i]:=aAE hlt';have:=h1 _ e1;rw[e1,e2];have e3:slotAt w t (i+1)=t.place[i]+1:=by show(if w.params.followText "set-order"=true then 0 else t.place.getD i 0+1)=_;rw[if_neg hb];simp[aEQ,hlt']
   rw[e3]at this;exact this
  ·have e1:es[i]?=none:=aCy (by lia);rw[e1];exact h2 (by lia)
def O5 (h:L7 s.heap w it S t i n ep):s.TypeIs (.ref it) "set_iterator":=⟨_,h,rfl⟩
def IW {Q:Option Value->Shared->Prop}(hit:L7 s.heap w it S t i es.size ep)(hS:IsSet s.heap S es ep t)(hf:t.fits es.size=true)(hp:t.plain=true)(hl:¬w.params.followText "set-order"=true->t.led=true)(ha:ST.BK t.place)(hi:i<es.size)(h:∀e h',(walkL w S es ep)[i]?=some e->L7 h' w it S t (i+1) es.size ep->Heap.SameBut it s.heap h'->Q (some e.2) {s with heap:=h'}):wpAny (model prog w) A (pyNext (.ref it)) Q E s:=by
 have hT:=O5 hit;obtain⟨o,ho,hc,hd⟩:=id hS;unfold pyNext;refine aAa (aEg (aCq (name:=aDd "__next__") hT F.slot_seti_next
  (aBk F.slot_seti_next hT F.entry_seti_next ?_ (F.args_seti_next _))))
 refine aAa (aAb ?_);refine aAa (wpAny_fieldsOf hit rfl ?_);show wpAny _ _ (setEntries S>>=_) _ _ s;refine aAa (aEn ho hd hf ?_);rw[if_neg (by simp)];show wpAny _ _ (setNext S (aEo (slotAt w t i:Int)) (aEo (i:Int)) (aEo (ep:Int))>>=_) _ _ s;rw[aCu,aCu,aCu];refine aAa (vW hS hf hp hl ha (aCP hi) (λe he=>?_) λe=>by lia);show wpAny _ _ (setField (.ref it) 0 (rawInt<|slotAt w t<|i+1)>>=_) _ _ s;refine aAa (aBR hit (by simp) λh1 e1 s1=>?_);show wpAny _ _ (setField (.ref it) 1 (rawInt<|(i:Int)+1)>>=_) _ _ _;refine aAa (aBR (s:={s with heap:=h1}) e1 (by simp) λh2 e2 s2=>?_);refine aAb ⟨_,rfl,aAb (h e h2 he ?_ (s1.trans s2))⟩;have:h2.get? it=some _:=e2;unfold L7;rw[this];simp
def LH {Q:Option Value->Shared->Prop}(hh:A.handled=none)(hit:L7 s.heap w it S t es.size es.size ep)(hS:IsSet s.heap S es ep t)(hf:t.fits es.size=true)(hp:t.plain=true)(hl:¬w.params.followText "set-order"=true->t.led=true)(ha:ST.BK t.place)(h:∀h',Heap.ExtBut it s.heap h'->Q none {s with heap:=h'}):wpAny (model prog w) A (pyNext (.ref it)) Q E s:=by
 have hT:=O5 hit;obtain⟨o,ho,hc,hd⟩:=id hS;unfold pyNext;refine aAa (aEg (aCq (name:=aDd "__next__") hT F.slot_seti_next
  (aBk F.slot_seti_next hT F.entry_seti_next ?_ (F.args_seti_next _))))
 refine aAa (aAb ?_);refine aAa (wpAny_fieldsOf hit rfl ?_);show wpAny _ _ (setEntries S>>=_) _ _ s;refine aAa (aEn ho hd hf ?_);rw[if_neg (by simp)];show wpAny _ _ (setNext S (aEo (slotAt w t es.size:Int)) (aEo (es.size:Int)) (aEo (ep:Int))>>=_) _ _ s;rw[aCu,aCu,aCu];refine aAa (vW hS hf hp hl ha (aAg _) (λe he=>?_) λ_=>?_)
 ·have h1:=(walkL_perm w S es ep).length_eq;have h2:=(aAy.mp he).1;rw[h1]at h2;simp at h2
 ·show wpAny _ _ (setField (.ref it) 2 .none>>=_) _ _ s;refine aAa (wpAny_setField hit rfl (by simp) ?_);show wpAny _ _ (newExc (.type "StopIteration") []>>=_) _ _ _;refine aAa ?_;simp only[newExc,newTuple];refine aAa (aBx ?_ (by size_fits));refine aAa (m:=firstArgMember _ _) (wpAny_of_eq (a:=Value.none) (by first|rfl|(simp only[firstArgMember];rfl)) ?_);refine aBx ?_ (by size_fits);simp only[raiseNew];refine aAa (wpAny_handled ?_);rw[show A.in1.handled=none from hh];refine aAa (aAb<|wpAny_throw ?_);refine aAa (aDv (T:= "StopIteration") (b:=true) ⟨_,aAn _ rfl,rfl⟩ isSubtype_stop ?_);exact aAb (h _<|((Heap.SameBut.update ..).extBut.push _).push _)
def bF (x:IsSet h S es ep t)(e:∀o,h.get? S=some o->h'.get? S=some o):IsSet h' S es ep t:=let⟨o,a,r⟩:=x;⟨o,e o a,r⟩
end
section
def CC (hh:A.handled=none)(I S:Addr)(bf:S≠I)(hf:t.fits es.size=true)(hp:t.plain=true)(hl:¬w.params.followText "set-order"=true->t.led=true)(ha:ST.BK t.place):
  Walks prog w A I [I,S] [I] es.size (λi v=>∃e,(walkL w S es ep)[i]?=some e/\v=e.2) (λi h=>L7 h w I S t i es.size ep/\IsSet h S es ep t)where
 sub:=λb hb=>by simp at hb;simp[hb]
 frame:=λ_ _ _ st hk=>⟨hk I (by simp) _ st.1,bF st.2 λo e=>hk S (by simp) o e⟩
 item:=λi s Q E hi st hQ=>IW st.1 st.2 hf hp hl ha hi λe h' he ib hs=>hQ e.2 h' s.toks ⟨e,he,rfl⟩ ⟨ib,bF st.2 λo q=>(hs.2 S bf).trans q⟩ λb o hb q=>(hs.2 b (λz=>hb (by simp[z]))).trans q
 done:=λs Q E st hQ=>LH hh st.1 st.2 hf hp hl ha λh' hx=>hQ h' s.toks λb o hb q=>hx b o (λz=>hb (by simp[z])) q
 self:=λi s Q E st hQ=>by refine aEU (O5 st.1) F.slot_seti_iter (aBk F.slot_seti_iter (O5 st.1) F.entry_seti_iter ?_ (F.args_seti_iter _));refine aAa (aAb<|aAb ⟨_,rfl, "set_iterator",_,O5 st.1,F.slot_seti_next.lookup,hQ⟩)
def collect_set {Q:List Value->Shared->Prop}(hh:A.handled=none)(hS:IsSet s.heap S es ep t)(hf:t.fits es.size=true)(hp:t.plain=true)(hl:¬w.params.followText "set-order"=true->t.led=true)(ha:ST.BK t.place)(hn:es.size<=sizeLine)
  (hQ:∀h' tk,(∀b o,s.heap.get? b=some o->h'.get? b=some o)->Q ((walkL w S es ep).map (·.2)) {s with heap:=h',toks:=tk}):wpAny (model prog w) A (collect (.ref S)) Q E s:=by
 obtain⟨oS,hoS,hcS,hdS⟩:=id hS;have hT:s.TypeIs (.ref S) "set":=⟨oS,hoS,hcS⟩;have ar:S<s.heap.objs.size:=aAf hoS;unfold collect;refine aAa (wpAny_runValue<|aBu PySem.F.entry_proto_collect ?_);rw[aBa PySem.F.plain_proto_collect _];show wpAny _ A.in1 (newList []>>=λl=>again (.builtin "list.__iadd__" ⟨[l,.ref S],[]⟩)) _ _ s;refine aAa (aBx ?_);refine aAb ⟨aBQ PySem.F.plain_list_iadd _,aBu PySem.F.entry_list_iadd ?_⟩;rw[aBa PySem.F.plain_list_iadd _];generalize hh1:s.heap.push {cls:=.type "list",data:=.seq ([]:List Value).toArray}=h1;have hk1:∀b o,s.heap.get? b=some o->h1.get? b=some o:=λb o e=>by rw[<-hh1];exact aAc _ e
 have hsz1:h1.objs.size=s.heap.objs.size+1:=by rw[<-hh1,aBn]
 have hL1:h1.get? s.heap.objs.size=some {cls:=.type "list",data:=.seq ([]:List Value).toArray}:=by rw[<-hh1];exact aAn _ rfl
 have hS1:IsSet h1 S es ep t:=bF hS λo e=>hk1 S o e;have hT1:Shared.TypeIs {s with heap:=h1} (.ref S) "set":=⟨oS,hk1 _ _ hoS,hcS⟩;have hne1:aCO (.ref s.heap.objs.size) (.ref S)=false:=by simp[aCO,aDb ar]
 show wpAny _ A.in1 (aBS (.ref s.heap.objs.size) (.ref S)<|.ref s.heap.objs.size) _ _ _;unfold aBS;refine aAa (aDy hT1 ?_);rw[if_neg (by rw[hne1];decide)];refine aAa (FU (s:={s with heap:=h1}) hS1 hf hp ?_);refine aAa (aAJ ?_);generalize hh2:h1.push {cls:=.type "set_iterator",dict:=none,data:=.fields #[rawInt (slotAt w t 0),rawInt (0:Nat),.ref S,rawInt es.size,rawInt ep],slots:=#[]}=h2;have hk2:∀b o,h1.get? b=some o->h2.get? b=some o:=λb o e=>by rw[<-hh2];exact aAc _ e
 have hI2:L7 h2 w h1.objs.size S t 0 es.size ep:=by rw[<-hh2];exact aAn _ rfl
 have hS2:IsSet h2 S es ep t:=bF hS1 λo e=>hk2 S o e;have hT2:Shared.TypeIs {s with heap:=h2} (.ref S) "set":=⟨oS,hk2 _ _ (hk1 _ _ hoS),hcS⟩;have hL2:=hk2 _ _ hL1;unfold aCw;refine aAa (aBl hT2 PySem.F.slot_set_len.lookup ?_)
 (generalize hid:("set.__len__":String)=id0;(fail_if_success (clear hid id0));wp_delta;rw[show splitId id0=some ("set", "__len__")from by subst hid;decide+kernel];subst hid)
 refine aAa (aDv (b:=true) hT2 (by rw[aEI];kernel_rfl) ?_);rw[if_neg (by decide)];refine EF (by decide+kernel) ?_
 ·refine aAa (aDy hT2<|aAb ?_);rw[if_pos (by decide)];show wpAny _ A.in1 (rule "list.extend.makes-room">>=λ_=>aFn (.ref s.heap.objs.size)>>=λ_=>again (.builtin "list.extend.loop" ⟨[.ref s.heap.objs.size,.ref h1.objs.size,.ref s.heap.objs.size],[]⟩)) _ _ _
  refine aAa (aDz ?_);refine aAa ?_;show wpAny _ A.in1 (updateSeq s.heap.objs.size (·.push .none)>>=λ_=>updateSeq s.heap.objs.size (·.pop)) _ _ _;refine aAa (aBT hL2 rfl ?_);have hL3:=aBf (aBD (·.push Value.none)) hL2 rfl;refine aBT hL3 rfl ?_;have hL4:=aBf (aBD (·.pop)) hL3 rfl;have vg:∀b o,b≠s.heap.objs.size->h2.get? b=some o->((h2.update s.heap.objs.size (aBD (·.push Value.none))).update s.heap.objs.size (aBD (·.pop))).get? b=some o:=
   λb o hb e=>(aAB _ _<|aCm hb).trans ((aAB _ _<|aCm hb).trans e)
  have neI:h1.objs.size≠s.heap.objs.size:=by rw[hsz1];lia
  have W:=(CC (prog:=prog) (w:=w) (A:=A.in1) (by simp[hh]) h1.objs.size S (by rw[hsz1];exact aAi (aBo ar)) (es:=es) (ep:=ep) (t:=t) hf hp hl ha).toS;refine aAb ⟨aBQ PySem.F.plain_extend_loop _,codeAny_extend_loopS W hn _ (by simp only[aAe,aAG,or_false,not_or];exact⟨aCm neI,aDb ar⟩) _ es.size 0 _ _ _ rfl (aAW _) ⟨vg _ _ neI hI2,bF hS2 λo e=>vg S o (aAi ar) e⟩ hL4 (ItemsOf.nil _) λs' jt c' hm jm gi=>?_⟩;show wpAny _ A (load s.heap.objs.size>>=_) _ _ s';refine aAa (wpAny_load jm ?_);refine aAb ?_;have g0:s'.gens=s.gens:=hm.gens;have d0:s'.drawn=s.drawn:=hm.drawn;have o0:s'.os=s.os:=hm.os;have ea:jt.toList=(walkL w S es ep).map (·.2):=by
   have mn:=(walkL_perm w S es ep).length_eq;apply aET;intro i;rw[aAN,aAA];by_cases hi:i<es.size
   ·have ze:i<jt.size:=by rw[gi.1];exact hi
    obtain⟨e,he,hv⟩:=gi.2 i _ (aAE ze);rw[he,aAE ze,hv];rfl
   ·rw[aCy (by rw[gi.1];lia),List.getElem?_eq_none (by rw[mn];simp;lia)];rfl
  obtain⟨h',g',d',yf,os'⟩:=s';subst g0 d0 o0;rw[ea];refine hQ h' yf λb o e=>?_;have hb:b≠s.heap.objs.size:=aAi (aAf e);have hb2:b≠h1.objs.size:=by rw[hsz1];exact aAi (aBo<|aAf e)
  exact hm.heap b o (by simp only[aAe,aAG,or_false,not_or];exact⟨hb,hb2⟩) (vg b o hb<|hk2 _ _<|hk1 _ _ e)
end
end SI
namespace TS
open PySem PyProof.Rows
abbrev tupK:Bool->SortKind:=sortPriv%PySem.Builtin.KeyKind.tuples
structure TB (f:Bool)(a5:Array Keyed)(st:SortSt):Prop where
 perm:(arrOf st).Perm a5
 kind:kindOf st=tupK f
 failed:failedOf st=none
 pend:pendingOf st=#[]
def TB.size {f:Bool}{a5:Array Keyed}{st:SortSt}(h:TB f a5 st):(arrOf st).size=a5.size:=h.perm.size_eq
def TB.setArr {f:Bool}{a5:Array Keyed}{st:SortSt}(h:TB f a5 st){xs:Array Keyed}(hp:xs.Perm (arrOf st)):TB f a5 (PyProof.Rows.setArr st xs):=
 ⟨hp.trans h.perm,h.kind,h.failed,h.pend⟩
def NV (f:Bool)(A:Around)(s:Shared)(κ:KeyKind):Prop:=
 ∀(prog:Program) (w:World) (E:C5) (x y:Value) (a b:κ.α) {Q:rZ},
  κ.keyOf x=some a->κ.keyOf y=some b->Q (κ.blt a b) s->wpAny (model prog w) A (keyLt' (tupK f) x y) Q E s
def TB.atK {f:Bool}{κ:KeyKind}{a5:Array Keyed}{st:SortSt}(h:TB f a5 st)(h0:KeysOf κ a5){i:Nat}(hi:i<a5.size):∃x p a,(arrOf st)[i]?=some (x,p)/\κ.keyOf x=some a/\KK κ (arrOf st) i=a:=by
 have ib:i<(arrOf st).size:=by rw[h.size];exact hi
 obtain⟨a,ha⟩:=h0 _ ((aEw.mp h.perm).mem_iff.mp (show(arrOf st)[i]∈(arrOf st).toList by simp));have e:(arrOf st)[i]?=some (arrOf st)[i]:=getElem?_pos _ i ib;exact⟨(arrOf st)[i].1,(arrOf st)[i].2,a,by rw[e],ha,by unfold KK;rw[e];simp[ha]⟩
section
def VY (f:Bool){prog:Program}{w:World}{A:Around}{E:C5}{s:Shared}{a5:Array Keyed}{κ:KeyKind}{st:SortSt}{i j:Nat}{Q:Option Bool->SortSt->Prop}(hO:NV f A s κ)(hB:TB f a5 st)(h0:KeysOf κ a5)(hi:i<a5.size)(hj:j<a5.size)
  (h:Q (some (κ.blt (KK κ (arrOf st) i) (KK κ (arrOf st) j))) st):wpS (model prog w) A E s (ltAt' i j) Q st:=by
 obtain⟨x,p,a,e1,ha,ka⟩:=hB.atK h0 hi;obtain⟨y,q,b,e2,hb,kb⟩:=hB.atK h0 hj;rw[ka,kb]at h;rw[ltAt'_eq];refine aBi (wpS_get ?_);show wpS _ _ _ _ (do let x<-elem' (arrOf st) i;let y<-elem' (arrOf st) j;lt' x y) Q st;rw[elem'_eq,elem'_eq,e1,e2];refine aBi (aCd<|aBi<|aCd ?_);rw[lt'_eq];refine aBi (wpS_get ?_);rw[hB.kind];refine aBi (wpS_lift<|aEg<|hO prog w _ x y a b ha hb ⟨rfl,?_⟩);exact aCd h
def up1 (S:SortedToK κ xs x)(h:1<=x->κ.kle (KK κ xs (x-1)) (KK κ xs x)):SortedToK κ xs (x+1):=λi j ml hj=>by
 rcases aCX (aEV hj)with ar|rfl
 ·exact S i j ml ar
 ·rcases aCX ml with hi|rfl
  ·exact KeyOrd.kle_trans (S i (j-1) (by lia) (by lia)) (h (by lia))
  ·exact KeyOrd.kle_refl _
def XF (S:NonIncK κ xs x)(h:1<=x->κ.kle (KK κ xs x) (KK κ xs (x-1))):NonIncK κ xs (x+1):=λi j ml hj=>by
 rcases aCX (aEV hj)with ar|rfl
 ·exact S i j ml ar
 ·rcases aCX ml with hi|rfl
  ·exact KeyOrd.kle_trans (h (by lia)) (S i (j-1) (by lia) (by lia))
  ·exact KeyOrd.kle_refl _
def FH (S:NonIncK κ xs x)(e:∀k,KK κ ys k=KK κ xs k):NonIncK κ ys x:=λi j ml hj=>by rw[e,e];exact S i j ml hj
def yF (κ:KeyKind)(xs:Array Keyed)(x c:Nat):Prop:=c+1<=x/\∀k,x-(c+1)<=k->k<x->KK κ xs k=KK κ xs (x-1)
def yF.one (h:1<=x):yF κ xs x 0:=⟨h,λk h1 h2=>by rw[show k=x-1 by lia]⟩
variable{st:SortSt}
def FC (hO:NV f A s κ)(h0:KeysOf κ a5)(hm:m<=a5.size)(B:TB f a5 st)(ha:1<=a)(ham:a<=m)(S:SortedToK κ (arrOf st) a){Q:AscSt->SortSt->Prop}(q:∀n,a<=n->n<=m->SortedToK κ (arrOf st) n->(n<m->κ.klt (KK κ (arrOf st) n) (KK κ (arrOf st) (n-1)))->Q (none,n) st):wpS (model prog w) A E s (ascLoop a m) Q st:=by
 refine aDW (I:=λn r t=>t=st/\r=(none,n)/\SortedToK κ (arrOf st) n) (λn r t l1 l2 ⟨e1,e2,S'⟩=>?_) (λr t ⟨e1,e2,S'⟩=>?_) ⟨rfl,rfl,S⟩
 ·subst e1 e2;refine aBi (VY f hO B h0 (by lia) (by lia) ?_);cases z:κ.blt (KK κ (arrOf t) n) (KK κ (arrOf t)<|n-1)with
  |true=>exact aCd (q n l1 (by lia) S' λ_=>z)
  |false=>exact aCd ⟨rfl,rfl,up1 S' λ_=>z⟩
 ·subst e1 e2;have e:max a m=m:=Nat.max_eq_right ham;rw[e]at S'⊢;exact q m ham (aAg _) S' λz=>absurd z (aAZ _)
abbrev Told (f:Bool)(κ:KeyKind)(a5:Array Keyed)(m:Nat)(Q:Option Nat->SortSt->Prop):Prop:=∀n t,TB f a5 t->1<=n->n<=m->SortedToK κ (arrOf t) n->Q (some n) t
def sM (hO:NV f A s κ)(h0:KeysOf κ a5)(hm:m<=a5.size)(B:TB f a5 st)(h1:1<=n)(hn:n<=m)(S:NonIncK κ (arrOf st) n){Q:Option Nat->SortSt->Prop}(q:Told f κ a5 m Q):
  wpS (model prog w) A E s (tail3 n m) Q st:=by
 have B2:=B.setArr (aFQ (arrOf st) 0 n<|(n-0)/2);have hz:n<=(arrOf st).size:=by rw[B.size];exact aAx hn hm
 refine aBi (aFR<|aBi<|FC hO h0 hm B2 h1 hn (λi j ml hj=>?_) λk k1 k2 S' _=>aCd (q k _ B2 (aAx h1 k1) k2 S'));have e:∀k,k<n->KK κ (arrOf<|setArr st<|mirror (arrOf st) 0 n<|(n-0)/2) k=KK κ (arrOf st) (0+n-1-k):=λk hk=>(KK_mirror hz k).trans (if_pos ⟨aAW _,hk⟩);rw[e i (by lia),e j hj];exact S _ _ (by lia) (by lia)
def FW (hO:NV f A s κ)(h0:KeysOf κ a5)(hm:m<=a5.size)(B:TB f a5 st)(h1:1<=n)(hn:n<=m)(S:NonIncK κ (arrOf st) n){Q:DescSt->SortSt->Prop}(q:∀k c t,TB f a5 t->1<=k->k<=m->NonIncK κ (arrOf t) k->yF κ (arrOf t) k c->Q (none,k,c) t):wpS (model prog w) A E s (descLoop n m) Q st:=by
 refine aDW (I:=λk r t=>∃c,r=(none,k,c)/\TB f a5 t/\NonIncK κ (arrOf t) k/\yF κ (arrOf t) k c) (λk r t l1 l2 ⟨c,e,B',S',F'⟩=>?_) (λr t ⟨c,e,B',S',F'⟩=>?_) ⟨0,rfl,B,S,yF.one h1⟩
 ·subst e;have hz:k<=(arrOf t).size:=by rw[B'.size];lia
  dsimp only;refine aBi (VY f hO B' h0 (by lia) (by lia) ?_);cases z:κ.blt (KK κ (arrOf t) k) (KK κ (arrOf t)<|k-1)with
  |true=>
   have S2:NonIncK κ (arrOf t) (k+1):=XF S' λ_=>KeyOrd.kle_of_klt z;show wpS _ _ _ _ (if c>0 then _ else _) _ t;by_cases hc:c>0
   ·rw[if_pos hc];exact aBi (aFR (aCd ⟨0,rfl,B'.setArr (aFQ _ _ _ _),FH S2 (aFu hz F'.2),yF.one (by lia)⟩))
   ·rw[if_neg hc];exact aCd ⟨0,rfl,B',S2,yF.one (by lia)⟩
  |false=>
   dsimp only;simp only[aAq,if_false];refine aBi (VY f hO B' h0 (by lia) (by lia) ?_);cases z2:κ.blt (KK κ (arrOf t)<|k-1) (KK κ (arrOf t) k)with
   |true=>exact aCd (q k c t B' (by lia) (by lia) S' F')
   |false=>
    have e:KK κ (arrOf t) k=KK κ (arrOf t) (k-1):=KeyOrd.kle_antisymm z2 z;refine aCd ⟨c+1,rfl,B',XF S' λ_=>by rw[e];exact KeyOrd.kle_refl _,by have:=F'.1;lia,λi i1 i2=>?_⟩;show KK κ (arrOf t) i=KK κ (arrOf t) k;rcases aCX (aEV i2)with hi|rfl
    ·rw[e];exact F'.2 i (by lia) hi
    ·rfl
 ·subst e;have e:max n m=m:=Nat.max_eq_right hn;rw[e]at S' F'⊢;exact q m c t B' (aAx h1 hn) (aAg _) S' F'
def uZ (hO:NV f A s κ)(h0:KeysOf κ a5)(hm:m<=a5.size)(B:TB f a5 st)(hn:n+1<=m)(S:NonIncK κ (arrOf st) (n+1)){Q:Option Nat->SortSt->Prop}(q:Told f κ a5 m Q):
  wpS (model prog w) A E s (descPart n m) Q st:=by
 refine aBi (wpS_lift<|aDz ⟨rfl,aBi (FW hO h0 hm B (aGm n) hn S λk c t B' k1 k2 S' F'=>?_)⟩);have hz:k<=(arrOf t).size:=by rw[B'.size];lia
 show wpS _ _ _ _ (if c>0 then _ else _) _ t;by_cases hc:c>0
 ·rw[if_pos hc];exact aBi (aFR<|sM hO h0 hm (B'.setArr<|aFQ _ _ _ _) k1 k2 (FH S'<|aFu hz F'.2) q)
 ·rw[if_neg hc];exact sM hO h0 hm B' k1 k2 S' q
def BO (hO:NV f A s κ)(h0:KeysOf κ a5)(hm:m<=a5.size)(h1:1<=m)(B:TB f a5 st){Q:Option Nat->SortSt->Prop}(q:Told f κ a5 m Q):wpS (model prog w) A E s (countRun' 0 m) Q st:=by
 rw[countRun0_eq];refine aBi (FC hO h0 hm B (aAg 1) h1 (up1 (λ_ _ _ z=>absurd z (aFv _)) λz=>absurd z (by decide)) λn n1 n2 S ar=>?_);show wpS _ _ _ _ (if(n==m)=true then _ else _) _ st;by_cases hn:n=m
 ·rw[if_pos (beq_iff_eq.mpr hn)];exact aCd (q n st B n1 n2 S)
 ·rw[if_neg λz=>hn (beq_iff_eq.mp z)];have lt:=ar (by lia);by_cases hg:n>1
  ·rw[if_pos hg];refine aBi (VY f hO B h0 (by lia) (by lia) ?_);cases z:κ.blt (KK κ (arrOf st) 0) (KK κ (arrOf st)<|n-1)with
   |true=>exact aCd (q n st B n1 n2 S)
   |false=>
    have hz:n<=(arrOf st).size:=by rw[B.size];lia
    have same:∀k,0<=k->k<n->KK κ (arrOf st) k=KK κ (arrOf st) (n-1):=λk _ hk=>KeyOrd.kle_antisymm (S k (n-1) (by lia) (by lia)) (KeyOrd.kle_trans z<|S 0 k (aAW _) hk);have S2:NonIncK κ (arrOf st) n:=λi j ml hj=>by rw[same i (aAW _) (by lia),same j (aAW _) hj];exact KeyOrd.kle_refl _
    exact aBi (aFR (uZ hO h0 hm (B.setArr<|aFQ _ _ _ _) (by lia) (FH (XF S2 λ_=>KeyOrd.kle_of_klt lt)<|aFu hz same) q))
  ·rw[if_neg hg];obtain rfl:n=1:=by lia
   exact uZ hO h0 hm B (by lia) (XF (XF (λ_ _ _ z=>absurd z (aFv _)) λz=>absurd z (by decide)) λ_=>KeyOrd.kle_of_klt lt) q
def kP (hO:NV f A s κ)(h0:KeysOf κ a5)(hn:n<=a5.size)(hk:k<=n)(B:TB f a5 st)(S:SortedToK κ (arrOf st) k){Q:Bool->SortSt->Prop}(q:∀t,TB f a5 t->SortedToK κ (arrOf t) n->Q true t):
  wpS (model prog w) A E s (binarySort' 0 n k) Q st:=by
 rw[binarySort'_eq];simp only[aFs];have S0:SortedToK κ (arrOf st) (min (max k 1) n):=λi j ml hj=>by
  rcases Nat.eq_or_lt_of_le ml with rfl|ar
  ·exact KeyOrd.kle_refl _
  ·exact S i j ml (by lia)
 refine aBi (wpS_mono (Q:=λr t=>r=(none,())/\TB f a5 t/\SortedToK κ (arrOf t) n) (aDW (I:=λx r t=>r=(none,())/\TB f a5 t/\SortedToK κ (arrOf t) (min x n)) (λx r t l1 l2 ⟨e,B',S'⟩=>?step) (λr t ⟨e,B',S'⟩=>⟨e,B',?fin⟩) ⟨rfl,B,S0⟩) λr t ⟨e,B',S'⟩=>?post)
 case step=>
  subst e;rw[aFw (aCP l2)]at S';have hx:x<a5.size:=by lia
  let Low (l:Nat):Prop:=∀i,i<l->κ.kle (KK κ (arrOf t) i) (KK κ (arrOf t) x)
  let Top (r:Nat):Prop:=∀i,r<=i->i<x->κ.klt (KK κ (arrOf t) x) (KK κ (arrOf t) i)
  refine aBi (wpS_mono (Q:=λd u=>u=t/\∃l r,d=(none,l,r)/\l<=x/\Low l/\Top l) (aDW (I:=λy d u=>u=t/\∃l r,d=(none,l,r)/\l<=r/\r<=x/\r-l<=x-y/\Low l/\Top r) (λy d u _ y2 ⟨e,l,r,e2,lr,rx,far,lo,hi⟩=>?istep) (λd u ⟨e,l,r,e2,lr,rx,far,lo,hi⟩=>?ifin)
   ⟨rfl,0,x,rfl,aAW _,aAg _,aAg _,λ_ z=>absurd z (aFv _),λi a b=>absurd (aCC a b) (aAZ _)⟩) λd u ⟨e,l,r,e2,lx,lo,hi⟩=>?ipost)
  case istep=>
   subst e e2;show wpS _ _ _ _ (if l>=r then _ else _) _ u;by_cases hlr:l>=r
   ·rw[if_pos hlr];obtain rfl:l=r:=Nat.le_antisymm lr hlr;exact aCd ⟨rfl,l,l,rfl,rx,lo,hi⟩
   ·rw[if_neg hlr];dsimp only;refine aBi (VY f hO B' h0 hx (by lia) ?_);cases z:κ.blt (KK κ (arrOf u) x) (KK κ (arrOf u)<|(l+r)/2)with
    |true=>exact aCd ⟨rfl,l,(l+r)/2,rfl,by lia,by lia,by lia,lo,λi a b=>KeyOrd.klt_of_klt_of_kle z (S' _ i a b)⟩
    |false=>exact aCd ⟨rfl,(l+r)/2+1,r,rfl,by lia,by lia,by lia,λi a=>KeyOrd.kle_trans (S' i ((l+r)/2) (by lia) (by lia)) z,hi⟩
  case ifin=>
   subst e e2;obtain rfl:l=r:=by lia
   exact⟨rfl,l,l,rfl,rx,lo,hi⟩
  case ipost=>
   subst e e2;have hz:x<(arrOf u).size:=by rw[B'.size];exact hx
   show wpS _ _ _ _ (do moveDown' x l;pure (aCg (none,()))) _ u;rw[moveDown'_eq];refine aBi (wpS_modify<|aCd ⟨rfl,B'.setArr (bubble_perm _ _ _),λi j ml hj=>?_⟩);have e:∀k,KK κ (arrOf<|setArr u<|bubble (arrOf u) x<|x-l) k=if k=l then KK κ (arrOf u) x else if l<k/\k<=x then KK κ (arrOf u) (k-1)else KK κ (arrOf u) k:=λk=>by have:=KK_bubble (κ:=κ) hz (Nat.sub_le x l) k;rw[show x-(x-l)=l by lia]at this;exact this
   have hj:j<x+1:=by lia
   rw[e,e];by_cases c1:i=l
   ·rw[if_pos c1];by_cases c2:j=l
    ·rw[if_pos c2];exact KeyOrd.kle_refl _
    ·rw[if_neg c2,if_pos ⟨by lia,by lia⟩];exact KeyOrd.kle_of_klt (hi _ (by lia) (by lia))
   ·rw[if_neg c1];by_cases c2:j=l
    ·rw[if_pos c2,if_neg λz=>by lia];exact lo i (by lia)
    ·rw[if_neg c2];by_cases c3:l<i/\i<=x
     ·rw[if_pos c3,if_pos ⟨by lia,by lia⟩];exact S' _ _ (by lia) (by lia)
     ·rw[if_neg c3];by_cases c4:l<j/\j<=x
      ·rw[if_pos c4];exact S' _ _ (by lia) (by lia)
      ·rw[if_neg c4];exact S' _ _ ml (by lia)
 case fin=>rw[show min (max (max k 1) n) n=n by lia]at S';exact S'
 case post=>subst e;exact aCd (q t B' S')
def jX (f:Bool)(hO:NV f A s κ)(h0:KeysOf κ a5)(B:TB f a5 st)(h2:2<=a5.size)(h64:a5.size<64){Q:Unit->SortSt->Prop}(q:∀t,(arrOf t).Perm a5->failedOf t=none->SortedToK κ (arrOf t) a5.size->Q () t):wpS (model prog w) A E s sortRuns' Q st:=by
 have e1:minRun' a5.size a5.size 0=a5.size:=by
  generalize hN:a5.size=N at*
  cases N with
  |zero=>lia
  |succ N=>rw[minRun'_succ,if_pos h64]
 let Done (t:SortSt):Prop:=(arrOf t).Perm a5/\failedOf t=none/\pendingOf t=#[(0,a5.size,0)]/\SortedToK κ (arrOf t) a5.size
 have done:∀t,TB f a5 t->SortedToK κ (arrOf t) a5.size->Done (setPending t<|(pendingOf t).push (0,a5.size,0)):=λt B' S'=>⟨B'.perm,B'.failed,(congrArg (·.push (0,a5.size,0)) B'.pend),S'⟩;rw[sortRuns'_eq];refine aBi (wpS_get ?_);dsimp only;simp only[B.size,e1];refine aBi (wpS_mono (Q:=λr t=>r=(none,a5.size)/\Done t) (aDW (I:=λx r t=>(x=0/\r=(none,0)/\TB f a5 t)\/(0<x/\r=(none,a5.size)/\Done t)) (λx r t _ l2 I=>?step) (λr t I=>?fin)<|.inl ⟨rfl,rfl,B⟩) λr t ⟨e,D⟩=>?post)
 case step=>
  rcases I with⟨rfl,rfl,B'⟩|⟨x0,rfl,D⟩
  ·show wpS _ _ _ _ (if 0>=a5.size then _ else _) _ t;rw[if_neg (by lia)];simp only[Nat.sub_zero,Nat.min_self,aFs];have fin:∀u,TB f a5 u->(pendingOf u).back?=none:=λu B2=>by rw[B2.pend];rfl
   refine aBi (BO hO h0 (aAg _) (by lia) B' λn u B2 n1 n2 S2=>?_);show wpS _ _ _ _ (if n<a5.size then _ else _) _ u;by_cases hn:n<a5.size
   ·rw[if_pos hn];refine aBi (wpS_lift<|aDz ⟨rfl,aBi (kP hO h0 (aAg _) n2 B2 S2 λv B3 S3=>?_)⟩);simp only[aDk,aAq,if_false];refine aBi (wpS_get ?_);rw[fin v B3];exact aBi (wpS_modify<|aCd<|.inr ⟨aGm _,rfl,done v B3 S3⟩)
   ·rw[if_neg hn];obtain rfl:n=a5.size:=by lia
    refine aBi (wpS_get ?_);rw[fin u B2];exact aBi (wpS_modify<|aCd<|.inr ⟨aGm _,rfl,done u B2 S2⟩)
  ·show wpS _ _ _ _ (if a5.size>=a5.size then _ else _) _ t;rw[if_pos (aAg _)];exact aCd ⟨rfl,D⟩
 case fin=>
  rcases I with⟨z,_⟩|⟨_,e,D⟩
  ·lia
  ·exact⟨e,D⟩
 case post=>
  subst e;refine aBi (wpS_mono (Q:=λr u=>u=t/\r=(none,())) (aDW (I:=λ_ r u=>u=t/\r=(none,())) (λ_ r u _ _ ⟨e,e2⟩=>?istep) (λ_ _ z=>z) ⟨rfl,rfl⟩) λr u ⟨e,e2⟩=>?ipost)
  case istep=>subst e e2;refine aBi (wpS_get ?_);rw[if_pos (by rw[D.2.2.1];exact aAg 1)];exact aCd ⟨rfl,rfl⟩
  case ipost=>subst e e2;exact aCd (q _ D.1 D.2.1 D.2.2.2)
end
end TS
namespace TS
open PySem PyProof.Rows
section
def UG (a:Addr)(s s6:Shared):Prop:=∀b o,b≠a->s.heap.get? b=some o->s6.heap.get? b=some o
def uT {P:Fin->Shared->Prop}(ho:s.heap.get? a=some (seqObj "list" vs.toArray n))(h0:KeysOf κ (pairsOf vs))(hO:∀s6,UG a s s6->NV f A s6 κ)(hkk:2<=vs.length->∀s6,UG a s s6->∀{Q:SortKind->Shared->Prop},Q (tupK f) s6->wpAny (model prog w) A (keyKind' vs.toArray) Q E s6)(h64:vs.length<64)(h:∀st':SortSt,(arrOf st').Perm (pairsOf vs)->SortedToK κ (arrOf st') (pairsOf vs).size->P (.done (.ret .none)) {s with heap:=sortedHeap s.heap a vs ((arrOf st').map (·.2))}):
  wpAny (model prog w) A (Builtin.«list.sort» ⟨[.ref a],[]⟩) P E s:=by
 rw[list_sort_plain];have ha:a<s.heap.objs.size:=aAf ho;refine aAa (aDX ho rfl ?_);refine aAa (listUpdate_at ho rfl ?_);obtain⟨e1,ho1⟩:∃e1,(s.heap.update a<|aBD λ_=>#[]).get? a=some (seqObj "list" #[] e1):=⟨_,get?_update_seq ho _⟩;refine aAa (seqEpoch_at ho1 rfl<|aAa<|aFN<|aAa<|wpAny_newList<|aAJ ?_);have ne1:a≠(s.heap.update a<|aBD λ_=>#[]).objs.size:=by rw[Heap.size_update];exact aAi ha
 have bar:UG a s {s with heap:=((s.heap.update a<|aBD λ_=>#[]).push (seqObj "tuple" vs.toArray 0)).push (seqObj "list" #[] 0)}:=λb o hb e=>aAc _ (aAc _<|(aAB _ _<|aCm hb).trans e)
 have ho6:(((s.heap.update a<|aBD λ_=>#[]).push (seqObj "tuple" vs.toArray 0)).push (seqObj "list" #[] 0)).get? a=some (seqObj "list" #[] e1):=aAc _ (aAc _ ho1);show wpAny (model prog w) A _ P E {s with heap:=((s.heap.update a<|aBD λ_=>#[]).push (seqObj "tuple" vs.toArray 0)).push (seqObj "list" #[] 0)};dsimp only;have ir:vs.toArray.size=vs.length:=by simp
 have fin:=h;by_cases h2:vs.toArray.size<2
 ·rw[if_pos h2,if_pos h2];refine aAa (aAb ?_);rw[StateT.run_pure];refine aAa (aAb ?_);dsimp only;refine aAa (seqEpoch_at ho6 rfl (aAa (listUpdate_at ho6 rfl ?_ (hsz2:=by rw[Array.size_map];show(pairsOf vs).size<=_;rw[aEF,aEY];lia))));simp only[bne_self_eq_false,aAq,if_false];refine aAb (fin (SortSt.mk' general' (vs.toArray.zip vs.toArray) #[] 7 none) (aGq _) λi j ml hj=>?_);have:i=j:=by rw[aEF]at hj;lia
  subst this;exact KeyOrd.kle_refl _
 ·rw[if_neg h2,if_neg h2];refine aAa (hkk (by lia) _ bar ?_);refine aAa (aBw (jX f (κ:=κ) (hO _ bar) (a5:=pairsOf vs) (st:=SortSt.mk' (tupK f) (vs.toArray.zip vs.toArray) #[] 7 none) (Q:=λ_ st'=>(arrOf st').Perm (pairsOf vs)/\failedOf st'=none/\SortedToK κ (arrOf st') (pairsOf vs).size)
   h0 ⟨aGq _,rfl,rfl,rfl⟩ (by rw[aEF];lia) (by rw[aEF];exact h64) λst' a1 a2 a3=>⟨a1,a2,a3⟩) ?_ λ_ _ e=>e)
  rintro⟨⟨⟩,st'⟩ s' ⟨rfl,hp,hf,hs⟩;dsimp only;refine aAa (seqEpoch_at ho6 rfl (aAa (listUpdate_at ho6 rfl ?_ (hsz2:=by refine aAx (aDU<|(Array.size_map ..).trans (hp.size_eq.trans<|aEF _)) ?_;rw[aEY];lia))));rw[hf];simp only[bne_self_eq_false,aAq,if_false];exact aAb (fin st' hp hs)
end
end TS
namespace TS
open PySem PyProof.Rows HT
def pG (f:Bool)(x y:Value):keyLt' (tupK f) x y=(do
 let xs<-aCz x;let ys<-aCz y
 for ((p,q),i)in(xs.toList.zip ys.toList).zipIdx do
  if !(<-eqBool p q)then return<-oneLt' (f&&i==0) p q
 return decide (xs.size<ys.size)):=rfl
def IZ:Value->Sem (Option Value):=sortPriv%PySem.Builtin.firstOfTuple?
def IF:Array Value->Sem (Option Value):=sortPriv%PySem.Builtin.oneTypeOnly
def CB (v:Value):IZ v=(do
 if(<-typeOf v) !=.type "tuple"then return none
 return (<-aCz v)[0]?):=rfl
def HC (vs:Array Value):IF vs=(do
 let ts<-vs.mapM typeOf
 match ts[0]? with
 |some t=>return if ts.all (· ==t)then some t else none
 |none=>return none):=rfl
def wY (ks:Array Value):keyKind' ks=(do
 let firsts<-ks.mapM IZ
 if firsts.all (·.isSome)then
  rule "list.sort.keys-are-tuples"
  return tupK ((<-IF (firsts.filterMap id)).any (· !=.type "tuple"))
 if(firsts[0]?.bind id).isSome then return general'
 return if(<-IF ks).isSome then oneType' else general'):=rfl
section
def JO {Q:rZ}(f:Bool)(h:Q (decide (a<b)) s):wpAny (model prog w) A (oneLt' f (.int a t) (.int b u)) Q E s:=by
 cases f with
 |true=>exact oneLt_int h
 |false=>rw[oneLt'_eq];simp only[aAq,if_false];exact aAa (uQ A s a t b u prog w _ _<|aBM h)
def lt_ints (f:Bool){Q:rZ}(hl:IsTup s.heap l items)(hb:IsTup s.heap b bg)(hi:IntsAre items.toList ns)(hj:IntsAre bg.toList ms)(h:Q (HT.lexLt ns ms) s):wpAny (model prog w) A (keyLt' (tupK f) (.ref l) (.ref b)) Q E s:=by
 obtain⟨o,ho,hc,n,hd⟩:=hl;obtain⟨o2,lg,kg,n2,hd2⟩:=hb;have z1:items.size=ns.length:=by rw[<-hi.length];simp
 have z2:bg.size=ms.length:=by rw[<-hj.length];simp
 rw[pG];refine aAa (aDX ho hd<|aAa<|aDX lg hd2 ?_);refine aAa (aCn _ (λrest b s'=>b.1=none/\s'=s/\∃(k:Nat) (vs ws:List Value) (ur uu:List Int),rest=(vs.zip ws).zipIdx k/\IntsAre vs ur/\IntsAre ws uu/\ur.length+bg.size=uu.length+items.size/\Q (HT.lexLt ur uu) s)
  (λb s'=>s'=s/\(∀c,b.1=some c->Q c s)/\(b.1=none->Q (decide (items.size<bg.size)) s)) ?turn ?fin _ _ ⟨rfl,rfl,0,items.toList,bg.toList,ns,ms,rfl,hi,hj,by lia,h⟩|>λz=>aBw z ?post λ_ _ e=>e)
 case post=>
  rintro⟨b1,b2⟩ s' ⟨rfl,q1,q2⟩;cases b1 with
  |none=>exact aAb (q2 rfl)
  |some c=>exact aAb (q1 c rfl)
 case fin=>
  rintro⟨b1,b2⟩ s' ⟨ma,rfl,k,vs,ws,ur,uu,hz,va,yp,hlen,hR⟩;refine⟨rfl,λc e=>(by rw[ma]at e;cases e),λ_=>?_⟩;cases va with
  |nil=>
   cases yp with
   |nil=>rw[W4]at hR;simp only[aBF]at hlen;rw[decide_eq_false (by lia)];exact hR
   |cons c u hw=>rw[K3]at hR;simp only[aBF,aAt]at hlen;rw[decide_eq_true (by lia)];exact hR
  |cons a t hv=>
   cases yp with
   |nil=>rw[B0]at hR;simp only[aBF,aAt]at hlen;rw[decide_eq_false (by lia)];exact hR
   |cons c u hw=>rw[aBO,aEa]at hz;cases hz
 case turn=>
  rintro⟨⟨y,x⟩,i⟩ rest b s' ⟨ma,rfl,k,vs,ws,ur,uu,hz,va,yp,hlen,hR⟩;cases va with
  |nil=>rw[List.zip_nil_left,aEp]at hz;cases hz
  |cons a t hvi'=>
   cases yp with
   |nil=>rw[List.zip_nil_right,aEp]at hz;cases hz
   |cons c u hwi'=>
    rw[aBO,aEa]at hz;injection hz with zw ao;injection zw with zw hik;injection zw with hy hx;subst hy hx hik;rw[E9]at hR;simp only[aAt]at hlen;obtain⟨e,he,vv⟩:=sV A s' a t c u;refine aAa (he prog w _ _ ?_);cases e with
    |true=>rw[if_pos (vv.mp rfl)]at hR;exact aAb ⟨rfl,rfl,_,_,_,_,_,ao,hvi',hwi',by lia,hR⟩
    |false=>rw[if_neg (λq=>absurd (vv.mpr q) aAL)]at hR;exact aAa (JO _ (aAb ⟨rfl,λc e=>(by cases e;exact hR),λe=>(by cases e)⟩))
end
end TS
namespace TS
open PySem PyProof.Rows HT
section
theorem yY {α β:Type}{M:Model}{f:α->Sem β}(g:α->β):∀(xs:List α) {Q:List β->Shared->Prop},(∀x∈xs,∀{Q:β->Shared->Prop},Q (g x) s->wpAny M A (f x) Q E s)->Q (xs.map g) s->wpAny M A (xs.mapM f) Q E s
 |[],Q,_,q=>by rw[List.mapM_nil];exact aAb q
 |x::xs,Q,h,q=>by rw[List.mapM_cons];exact aAa (h x (.head _) (aAa (yY g xs (λy hy=>h y (.tail _ hy)) (aAb q))))
def AA {α β:Type}{M:Model}{f:α->Sem β}(g:α->β)(xs:List α){Q:Array β->Shared->Prop}(h:∀x∈xs,∀{Q:β->Shared->Prop},Q (g x) s->wpAny M A (f x) Q E s)(q:Q (xs.map g).toArray s):wpAny M A (xs.toArray.mapM f) Q E s:=by rw[List.mapM_toArray];show wpAny M A (List.toArray<$>xs.mapM f) Q E s;rw[map_eq_pure_bind];exact aAa (yY g xs h<|aAb q)
def kind_tuples {vs:List Value}{f:Bool}{T:String}{Q:SortKind->Shared->Prop}(gf:Value->Value)(h:∀x∈vs,∃a items,x=.ref a/\IsTup s.heap a items/\items[0]?=some (gf x)/\s.TypeIs (gf x) T)(bf:vs≠[])(hf:f=(aCj T !=aCj "tuple"))
  (q:Q (tupK f) s):wpAny (model prog w) A (keyKind' vs.toArray) Q E s:=by
 rw[wY];refine aAa (AA (λx=>some (gf x)) vs (λx hx {Q} q'=>?_) ?_)
 ·obtain⟨a,items,rfl,⟨o,ho,hc,n,hd⟩,h0,_⟩:=h x hx;rw[CB];refine aAa (aDy (T:= "tuple") ⟨o,ho,hc⟩ ?_);rw[if_neg (by simp)];refine aAa (aDX ho hd ?_);rw[h0];exact aAb q'
 ·have e1:((vs.map λx=>some (gf x)).toArray.all λx=>x.isSome)=true:=by simp
  have e2:(vs.map λx=>some (gf x)).toArray.filterMap id=(vs.map gf).toArray:=by
   rw[List.filterMap_toArray,aCW];congr 1;induction vs with
   |nil=>rfl
   |cons v vs ih=>simp
  simp only[e1,if_true,e2];refine aAa (aDz ?_);refine aAa ?_;rw[HC];refine aAa (AA (λ_=>aCj T) (vs.map gf) (λx hx {Q} q'=>?_) ?_)
  ·obtain⟨y,hy,rfl⟩:=aAp.mp hx;obtain⟨_,_,_,_,_,ht⟩:=h y hy;exact aDy ht q'
  ·cases vs with
   |nil=>exact absurd rfl bf
   |cons v vs=>
    simp only[aAs,aCi];have e3:((aCj T::aCY ((λ_=>aCj T)∘gf) vs).toArray.all λx=>x==aCj T)=true:=by simp
    simp only[aCD,aCQ,e3,if_true];refine aAb (aAb ?_);rw[hf]at q;exact q
end
end TS
namespace TS
open PySem PyProof.Rows HT
theorem lex_irrefl:∀a:List Int,HT.lexLt a a=false
 |[]=>rfl
 |x::xs=>by rw[E9,if_pos rfl];exact lex_irrefl xs
theorem lex_total:∀a b:List Int,HT.lexLt a b=false->HT.lexLt b a=false->a=b
 |[],[],_,_=>rfl
 |[],_::_,h,_=>by rw[K3]at h;cases h
 |_::_,[],_,h=>by rw[K3]at h;cases h
 |x::xs,y::ys,h1,h2=>by
  rw[E9]at h1 h2;by_cases e:x=y
  ·subst e;rw[if_pos rfl]at h1 h2;rw[lex_total xs ys h1 h2]
  ·rw[if_neg e]at h1;rw[if_neg (aCm e)]at h2;have:=of_decide_eq_false h1;have:=of_decide_eq_false h2;omega
theorem lex_trans:∀a b c:List Int,HT.lexLt a b=true->HT.lexLt b c=true->HT.lexLt a c=true
 |[],[],_,h,_=>by rw[W4]at h;cases h
 |[],_::_,[],_,h=>by rw[B0]at h;cases h
 |[],_::_,_::_,_,_=>rfl
 |_::_,[],_,h,_=>by rw[B0]at h;cases h
 |_::_,_::_,[],_,h=>by rw[B0]at h;cases h
 |x::xs,y::ys,z::zs,h1,h2=>by
  rw[E9]at h1 h2⊢;by_cases e:x=y
  ·subst e;rw[if_pos rfl]at h1;by_cases e2:x=z
   ·subst e2;rw[if_pos rfl]at h2⊢;exact lex_trans xs ys zs h1 h2
   ·rw[if_neg e2]at h2⊢;exact h2
  ·rw[if_neg e]at h1;have a1:=of_decide_eq_true h1;by_cases e2:y=z
   ·subst e2;rw[if_neg e];exact h1
   ·rw[if_neg e2]at h2;have a2:=of_decide_eq_true h2;rw[if_neg (by omega)];exact decide_eq_true (by omega)
theorem AW:∀a b c:List Int,HT.lexLt a c=true->HT.lexLt a b=true\/HT.lexLt b c=true
 |[],[],_,h=>.inr h
 |[],_::_,_,_=>.inl rfl
 |_::_,_,[],h=>by rw[B0]at h;cases h
 |_::_,[],_::_,_=>.inr rfl
 |x::xs,y::ys,z::zs,h=>by
  rw[E9]at h;rw[E9,E9];by_cases e:x=y
  ·subst e;rw[if_pos rfl];by_cases e2:x=z
   ·subst e2;rw[if_pos rfl]at h⊢;exact AW xs ys zs h
   ·rw[if_neg e2]at h⊢;exact .inr h
  ·rw[if_neg e];by_cases l:x<y
   ·exact .inl (decide_eq_true l)
   ·refine .inr ?_;by_cases e2:x=z
    ·subst e2;rw[if_neg (aCm e)];exact decide_eq_true (by omega)
    ·rw[if_neg e2]at h;have:=of_decide_eq_true h;rw[if_neg (by omega)];exact decide_eq_true (by omega)
open Classical in
def kV (vs:List Value) (key:Value->List Int):KeyKind where
 α:=List Int
 blt:=HT.lexLt
 irrefl:=lex_irrefl
 trans:=lex_trans
 negTrans:=AW
 total:=lex_total
 keyOf:=λv=>if v∈vs then some (key v)else none
 dflt:=[]
open Classical in
def PN (h:v∈vs):(kV vs key).keyOf v=some (key v):=if_pos h
open Classical in
def PP (e:(kV vs key).keyOf v=some l):v∈vs/\key v=l:=by
 have e':(if v∈vs then some (key v)else none)=some l:=e;split at e'
 ·rename_i h;cases e';exact⟨h,rfl⟩
 ·cases e'
def mO (vs:List Value):(pairsOf vs).toList=vs.map λv=>(v,v):=by
 unfold pairsOf;rw[List.zip_toArray];show vs.zip vs=_;induction vs with
 |nil=>rfl
 |cons v vs ih=>rw[aBO,aAs,ih]
section
def CQ {a:Addr}{vs:List Value}{n:Nat}{f:Bool}{key:Value->List Int}{P:Fin->Shared->Prop}(ho:s.heap.get? a=some (seqObj "list" vs.toArray n))
  (ar:∀s6,UG a s s6->∀x∈vs,∀y∈vs,∀(prog:Program) (w:World) (E:C5) {Q:rZ},Q (HT.lexLt (key x) (key y)) s6->wpAny (model prog w) A (keyLt' (tupK f) x y) Q E s6)
  (oi:2<=vs.length->∀s6,UG a s s6->∀{Q:SortKind->Shared->Prop},Q (tupK f) s6->wpAny (model prog w) A (keyKind' vs.toArray) Q E s6) (h64:vs.length<64)
  (h:∀ja:List Value,ja.Perm vs->ja.Pairwise (λx y=>HT.lexLt (key y) (key x)=false)->P (.done (.ret .none)) {s with heap:=sortedHeap s.heap a vs ja.toArray}):
  wpAny (model prog w) A (Builtin.«list.sort» ⟨[.ref a],[]⟩) P E s:=by
 refine uT (κ:=kV vs key) (f:=f) ho (λp wu=>?_) (λs6 hb prog w E x y k l Q hx hy q=>?_) (λh2 s6 hb {Q} q=>oi h2 s6 hb q) h64 λst' hperm hs=>?_
 ·rw[mO]at wu;obtain⟨v,hv,rfl⟩:=aAp.mp wu;exact⟨key v,PN hv⟩
 ·obtain⟨m1,e1⟩:=PP hx;obtain⟨m2,e2⟩:=PP hy;subst e1 e2;exact ar s6 hb x m1 y m2 prog w E q
 ·have br:(arrOf st').toList.Perm (vs.map λv=>(v,v)):=by rw[<-mO];exact aEw.mp hperm
  have same:∀p∈(arrOf st').toList,p.1=p.2/\p.2∈vs:=λp wu=>by obtain⟨v,hv,rfl⟩:=aAp.mp (br.mem_iff.mp wu);exact⟨rfl,hv⟩
  have ea:(arrOf st').map (·.2)=((arrOf st').toList.map (·.2)).toArray:=by apply Array.ext';simp
  rw[ea];refine h _ ?_ ?_
  ·have:=br.map (·.2);rw[aCi,show((λx:Value×Value=>x.2)∘λv=>(v,v))=id from rfl,List.map_id]at this;exact this
  ·rw[aCc];intro i j hi hj ml;have ib:i<(arrOf st').size:=by simpa using hi
   have vf:j<(arrOf st').size:=by simpa using hj
   have ir:(arrOf st').size=(pairsOf vs).size:=hperm.size_eq;have q:=hs i j (aCP ml) (by rw[<-ir];exact vf);have kk:∀k (hk:k<(arrOf st').size),KK (kV vs key) (arrOf st') k=key (arrOf st')[k].2:=λk hk=>by unfold KK;rw[getElem?_pos _ k hk];obtain⟨e1,e2⟩:=same (arrOf st')[k] (by simp);show((kV vs key).keyOf (arrOf st')[k].1).getD _=_;rw[e1,PN e2];rfl
   rw[kk i ib,kk j vf]at q;rw[aEb,aEb,aFJ,aFJ];exact q
def sorted_keys {x:Value}{vs:List Value}{f:Bool}{key:Value->List Int}{Q:C5}{C:Shared->Prop}(hc:∀{Q':List Value->Shared->Prop},(∀s',C s'->Q' vs s')->wpAny (model prog w) A.in1 (collect x) Q' E s)
  (ar:∀s',C s'->∀s6,(∀b o,s'.heap.get? b=some o->s6.heap.get? b=some o)->∀x∈vs,∀y∈vs,∀(prog:Program) (w:World) (A':Around) (E:C5) (hA:A'.units<=A.units+5) {Q:rZ},Q (HT.lexLt (key x) (key y)) s6->wpAny (model prog w) A' (keyLt' (tupK f) x y) Q E s6)
  (oi:2<=vs.length->∀s',C s'->∀s6,(∀b o,s'.heap.get? b=some o->s6.heap.get? b=some o)->∀(A:Around) {Q:SortKind->Shared->Prop},Q (tupK f) s6->wpAny (model prog w) A (keyKind' vs.toArray) Q E s6) (h64:vs.length<64)
  (h:∀(s':Shared) (ja:List Value) (h':Heap) (l:Addr),C s'->ja.Perm vs->ja.Pairwise (λx y=>HT.lexLt (key y) (key x)=false)->(∀b o,s'.heap.get? b=some o->h'.get? b=some o)->s'.heap.objs.size<=l->(∃n,h'.get? l=some (seqObj "list" ja.toArray n))->Q (.ref l) {s' with heap:=h'}):
  wpAny (model prog w) A (call (.builtin "sorted") [x]) Q E s:=by
 refine Calls.call_function_entry kind_sorted plain_sorted entry_sorted (args_sorted1 _) ?_;unfold Builtin.«sorted»;refine aAa (m:=checkCount "sorted" 1 1 _) (aAb ?_);refine aAa (hc λs' cs=>?_);refine aAa (wpAny_newList ?_);have hoL:(s'.heap.push<|seqObj "list" vs.toArray 0).get? s'.heap.objs.size=some (seqObj "list" vs.toArray 0):=aAn _ rfl;have kp:∀s6,UG s'.heap.objs.size {s' with heap:=s'.heap.push (seqObj "list" vs.toArray 0)} s6->∀b o,s'.heap.get? b=some o->s6.heap.get? b=some o:=λs6 hb b o e=>hb b o (aAi<|aAf e) (aAc _ e);refine aAa (aAJ (aBk slot_list_sort ⟨_,hoL,rfl⟩ entry_list_sort (CQ (key:=key) (f:=f) hoL (λs6 hb x hx y hy prog w E {Q} q=>ar s' cs s6 (kp s6 hb) x hx y hy prog w _ E (by simp) q) (λh2 s6 hb {Q} q=>oi h2 s' cs s6 (kp s6 hb) _ q) h64 λja hp hs=>⟨_,rfl,?_⟩)<|args_list_sort _));refine aAb ⟨_,rfl,h s' ja _ _ cs hp hs (λb o e=>?_) (aAg _) (sortedHeap_at hoL)⟩;rw[sortedHeap_old (aAi<|aAf e) (by rw[aBn];exact aBo (aAf e))];exact aAc _ e
end
end TS
namespace DL
open PySem PySem.Spec L2
open PyProof.Rows hiding St
def FG:D->Bool
 |.int _=>true
 |_=>false
def aL:D->Bool
 |.tup xs=>!xs.isEmpty&&xs.all FG
 |_=>false
def intD:D->Int
 |.int i=>i
 |_=>0
def flat:D->List Int
 |.tup xs=>xs.map intD
 |_=>[]
theorem JX:∀{xs:List D},xs.all FG=true->xs=(xs.map intD).map D.int
 |[],_=>rfl
 |x::xs,h=>by
  simp only[aFW,aAF]at h;cases x with
  |int i=>show D.int i::xs=D.int i::(xs.map intD).map D.int;rw[<-JX h.2]
  |_=>cases h.1
def aD (h:aL d=true):flat d≠[]/\d=.tup ((flat d).map .int):=by
 cases d with
 |tup xs=>simp only[aL,aAF,Bool.not_eq_true',List.isEmpty_eq_false_iff]at h;refine⟨by simpa[flat]using h.1,?_⟩;show D.tup xs=D.tup ((xs.map intD).map D.int);rw[<-JX h.2]
 |_=>cases h
def uR (h:aL d=true)(h':aL e=true)(q:flat d=flat e):d=e:=by rw[(aD h).2,(aD h').2,q]
theorem oB:∀l:List Int,cU (l.map D.int)=true
 |[]=>rfl
 |i::l=>by show(true&&cU (l.map D.int))=true;rw[oB l];rfl
def Q9 (h:aL d=true):mU d=true:=by rw[(aD h).2];exact oB _
def rA (h:aL d=true):E6 d<8:=by
 rw[(aD h).2];have:∀l:List Int,G3 (l.map D.int)=0:=λl=>by
  induction l with
  |nil=>rfl
  |cons i l ih=>show max 0 (G3<|l.map D.int)=0;rw[ih];rfl
 show G3 _+1<8;rw[this];lia
def nM (d:D):List D->List D
 |[]=>[d]
 |x::xs=>if flat d=flat x then x::xs else if HT.lexLt (flat d) (flat x)=true then d::x::xs else x::nM d xs
def X6 (ds:List D):List D:=ds.foldr nM []
def KR (ds:List D):Prop:=ds.Pairwise λx y=>HT.lexLt (flat x) (flat y)=true
theorem fL:∀{xs:List D},e∈nM d xs->e=d\/e∈xs
 |[],h=>by rcases aAe.mp h with h|h;exact .inl h;cases h
 |x::xs,h=>by
  unfold nM at h;split at h
  ·exact .inr h
  ·split at h
   ·rcases aAe.mp h with h|h
    ·exact .inl h
    ·exact .inr h
   ·rcases aAe.mp h with h|h
    ·exact .inr (by rw[h];exact .head _)
    ·rcases fL h with h|h
     ·exact .inl h
     ·exact .inr (.tail _ h)
theorem tN:∀{xs:List D},e∈xs->e∈nM d xs
 |x::xs,h=>by
  unfold nM;split
  ·exact h
  ·split
   ·exact .tail _ h
   ·rcases aAe.mp h with h|h
    ·rw[h];exact .head _
    ·exact .tail _ (tN h)
theorem vT (hd:aL d=true):∀{xs:List D},(∀x∈xs,aL x=true)->d∈nM d xs
 |[],_=>.head _
 |x::xs,h=>by
  unfold nM;split
  ·rename_i q;rw[uR hd (h x (.head _)) q];exact .head _
  ·split
   ·exact .head _
   ·exact .tail _ (vT hd λy hy=>h y (.tail _ hy))
theorem tO:∀{xs:List D},KR xs->KR (nM d xs)
 |[],_=>aDF _ _
 |x::xs,h=>by
  have h1:=aAw.mp h;unfold nM;split
  ·exact h
  ·rename_i ne;split
   ·rename_i lt;refine aAw.mpr ⟨λy hy=>?_,h⟩;rcases aAe.mp hy with rfl|hy
    ·exact lt
    ·exact TS.lex_trans _ _ _ lt (h1.1 y hy)
   ·rename_i nlt;refine aAw.mpr ⟨λy hy=>?_,tO h1.2⟩;rcases fL hy with rfl|hy
    ·cases q:HT.lexLt (flat x) (flat y)with
     |true=>rfl
     |false=>exact absurd (TS.lex_total _ _ (by simpa using nlt) q) ne
    ·exact h1.1 y hy
theorem bT:∀ds:List D,KR (X6 ds)
 |[]=>.nil
 |_::ds=>tO (bT ds)
theorem uG:∀{ds:List D},(∀d∈ds,aL d=true)->∀d∈X6 ds,aL d=true
 |[],_,d,h=>by cases h
 |e::ds,h,d,hd=>by
  rcases fL hd with rfl|hd
  ·exact h _ (.head _)
  ·exact uG (λd hd=>h d (.tail _ hd)) d hd
theorem L4:∀{ds:List D},(∀d∈ds,aL d=true)->∀d,d∈X6 ds↔d∈ds
 |[],_,d=>Iff.rfl
 |e::ds,h,d=>by
  have h':∀d∈ds,aL d=true:=λd hd=>h d (.tail _ hd);constructor
  ·intro q;rcases fL q with rfl|q
   ·exact .head _
   ·exact .tail _ ((L4 h' d).mp q)
  ·intro q;rcases aAe.mp q with rfl|q
   ·exact vT (h _<|.head _) (uG h')
   ·exact tN ((L4 h' d).mpr q)
theorem mD:∀{xs ys:List D},KR xs->KR ys->(∀d,d∈xs↔d∈ys)->xs=ys
 |[],[],_,_,_=>rfl
 |[],y::ys,_,_,h=>by have:=(h y).mpr (.head _);cases this
 |x::xs,[],_,_,h=>by have:=(h x).mp (.head _);cases this
 |x::xs,y::ys,h1,h2,h=>by
  have a1:=aAw.mp h1;have a2:=aAw.mp h2;have irr:∀d:D,HT.lexLt (flat d) (flat d)≠true:=λd q=>by rw[TS.lex_irrefl]at q;cases q
  have exy:x=y:=by
   rcases aAe.mp ((h x).mp (.head _))with q|q
   ·exact q
   ·rcases aAe.mp ((h y).mpr (.head _))with q2|q2
    ·exact q2.symm
    ·exact absurd (TS.lex_trans _ _ _ (a2.1 x q)<|a1.1 y q2) (irr y)
  subst exy;congr 1;refine mD a1.2 a2.2 λd=>?_;constructor
  ·intro q;rcases aAe.mp ((h d).mp (.tail _ q))with z|z
   ·subst z;exact absurd (a1.1 d q) (irr d)
   ·exact z
  ·intro q;rcases aAe.mp ((h d).mpr (.tail _ q))with z|z
   ·subst z;exact absurd (a2.1 d q) (irr d)
   ·exact z
def DC (h:KR xs):xs.Nodup:=h.imp λ{x y} q z=>by subst z;rw[TS.lex_irrefl]at q;cases q
def VX:D->R (List D)
 |.lst ds=>if ds.all aL=true/\(X6 ds).length<=63 then .ok (X6 ds)else .bad
 |_=>.bad
section
mutual
theorem bC (I:Inv X pins σ H s):∀{v:V} {d:D} {u:Value},Rep X.K H O v d->mU d=true->RelV v u->HV s.heap u d
 |_,_,_,.non,e,_=>by cases e
 |_,_,_,.bl,e,_=>by cases e
 |_,_,_,.str,e,_=>by cases e
 |_,_,_,.lst _ _ _,e,_=>by cases e
 |_,_,_,.dct _ _ _,e,_=>by cases e
 |_,_,_,.int,_,r=>by obtain⟨t,rfl⟩:=r;exact .int _ t
 |_,_,_,.tup h r,e,ru=>by cases ru;obtain⟨its,rv,p,_⟩:=I.tuple h;exact .tup p (AF I r e rv)
theorem AF (I:Inv X pins σ H s):∀{v:List V} {d:List D} {u:List Value},Reps X.K H O v d->cU d=true->m6 v u->HVs s.heap u d
 |_,_,_,.nil,_,.nil=>.nil
 |_,_,_,.cons r t,e,.cons ru tu=>by have e':(mU _&&cU _)=true:=e;rw[aAF]at e';exact .cons (bC I r e'.1 ru) (AF I t e'.2 tu)
end
end
variable [Tabs]
def VR (w:World)(o:Obj)(es:List Value):Prop:=o.ExactSet/\∃ea ep t,o.data=.set ea ep t/\t.fits ea.size=true/\t.plain=true/\t.led=!w.params.followText "set-order"/\ST.BK t.place/\ea.toList.map (·.2)=es
abbrev w5 (K:PySem.W.Frag)(H:Hp)(O:Addr->Prop):List Value->List D->Prop:=Paired λu d=>∃v,RelV v u/\Rep K H O v d
theorem w5.of {K:PySem.W.Frag}{H:Hp}{O:Addr->Prop}:∀{vs:List V} {us:List Value} {ds:List D},m6 vs us->Reps K H O vs ds->w5 K H O us ds
 |_,_,_,.nil,.nil=>.nil
 |_,_,_,.cons r t,.cons q u=>.cons ⟨_,r,q⟩ (w5.of t u)
theorem w5.ac6 {K:PySem.W.Frag}{H:Hp}{O:Addr->Prop}:∀{us:List Value} {ds:List D},w5 K H O us ds->∃vs,m6 vs us/\Reps K H O vs ds
 |_,_,.nil=>⟨[],.nil,.nil⟩
 |_,_,.cons ⟨v,r,q⟩ t=>let⟨vs,r',q'⟩:=w5.ac6 t;⟨v::vs,.cons r r',.cons q q'⟩
def w5.same {K:PySem.W.Frag}{H H':Hp}{O:Addr->Prop}(s:Same H H'){us:List Value}{ds:List D}(h:w5 K H O us ds):w5 K H' O us ds:=bP (λ_ _ ⟨v,r,q⟩=>⟨v,r,q.same s⟩) h
theorem w5.get {K:PySem.W.Frag}{H:Hp}{O:Addr->Prop}:∀{us:List Value} {ds:List D} {u:Value},w5 K H O us ds->u∈us->∃d∈ds,∃v,RelV v u/\Rep K H O v d
 |_,_,_,.cons r t,h=>by
  rcases aAe.mp h with rfl|h
  ·exact⟨_,.head _,r⟩
  ·obtain⟨d,hd,q⟩:=w5.get t h;exact⟨d,.tail _ hd,q⟩
open Classical in
def M6 (K:PySem.W.Frag) (H:Hp) (h:Heap):Heap:=PySem.W.hideAll h ((aBb h.objs.size).filter λa=>decide (¬∃xs,V9 K H a xs))
def W0 (K:PySem.W.Frag)(H:Hp)(h:Heap):Keeps (M6 K H h) h:=λb o e=>PySem.W.of_hideAll _ e
open Classical in
def sH {K:PySem.W.Frag}{H:Hp}{h:Heap}{b:Addr}{o:Obj}{xs:List V}(e:h.get? b=some o)(q:V9 K H b xs):(M6 K H h).get? b=some o:=PySem.W.hideAll_get _ e λhm=>by have:=(aDa.mp hm).2;exact(of_decide_eq_true this) ⟨xs,q⟩
open Classical in
def xO {K:PySem.W.Frag}{H:Hp}{h:Heap}{b:Addr}{o:Obj}(e:(M6 K H h).get? b=some o):∃xs,V9 K H b xs:=by refine Classical.byContradiction λn=>?_;have e':=W0 K H h b o e;have:(M6 K H h).get? b=none:=PySem.W.hideAll_none _ (aDa.mpr ⟨aBE.mpr (aAf e'),decide_eq_true n⟩);rw[this]at e;cases e
section
mutual
theorem GT (I:Inv X pins σ H s):∀{v:V} {d:D} {u:Value},Rep X.K H O v d->mU d=true->RelV v u->HV (M6 X.K H s.heap) u d
 |_,_,_,.non,e,_=>by cases e
 |_,_,_,.bl,e,_=>by cases e
 |_,_,_,.str,e,_=>by cases e
 |_,_,_,.lst _ _ _,e,_=>by cases e
 |_,_,_,.dct _ _ _,e,_=>by cases e
 |_,_,_,.int,_,r=>by obtain⟨t,rfl⟩:=r;exact .int _ t
 |_,_,_,.tup h r,e,ru=>by cases ru;obtain⟨its,rv,⟨o,g,c,n,d⟩,_⟩:=I.tuple h;exact .tup ⟨o,sH g h,c,n,d⟩ (zH I r e rv)
theorem zH (I:Inv X pins σ H s):∀{v:List V} {d:List D} {u:List Value},Reps X.K H O v d->cU d=true->m6 v u->HVs (M6 X.K H s.heap) u d
 |_,_,_,.nil,_,.nil=>.nil
 |_,_,_,.cons r t,e,.cons ru tu=>by have e':(mU _&&cU _)=true:=e;rw[aAF]at e';exact .cons (GT I r e'.1 ru) (zH I t e'.2 tu)
end
mutual
theorem KL (I:Inv X pins σ H s):∀{u:Value} {d:D},HV (M6 X.K H s.heap) u d->∃v,RelV v u/\Rep X.K H O v d
 |_,_,.int i t=>⟨.int i,⟨t,rfl⟩,.int⟩
 |_,_,.tup (a:=a) ⟨o,g,c,n,dd⟩ r=>by obtain⟨xs,q⟩:=xO g;obtain⟨vs,r1,r2⟩:=w5.ac6 (AU I r);obtain⟨its,rv,⟨o',g',_,n',d'⟩,_⟩:=I.tuple q;rw[W0 _ _ _ _ _ g]at g';cases g';rw[dd]at d';injection d' with d1 _;subst d1;have:vs=xs:=r1.inj (by simpa using rv);subst this;exact⟨.ref a,rfl,.tup q r2⟩
theorem AU (I:Inv X pins σ H s):∀{u:List Value} {d:List D},HVs (M6 X.K H s.heap) u d->w5 X.K H O u d
 |_,_,.nil=>.nil
 |_,_,.cons r t=>.cons (KL I r) (AU I t)
end
end
section
def WN (X:Cx)(f:Ev->R D):TE:=λσ H Q=>∃Ha O0 O ρ,EnvOk X.K Ha O0 H O σ ρ/\match f ρ with
 |.ok (.lst ds)=>(ds.all aL=true/\(X6 ds).length<=63)/\∀S o es cb H1,Same H H1->H1 S=none->VR X.w o es->w5 X.K H1 O es cb->cb.Nodup->(∀d,d∈cb↔d∈ds)->Q (.ref S) (upd H1 S<|.frz o (.own S))
 |.ex x=>∀H',Same H H'->XW X x H'
 |_=>False
def MY (ha:PB X e f)(hh:X.calm=true)(hu:X.A.units+300<cLine)(hg:Gl X "set":=by rfl)(hm:X.mg "set"=none:=by assumption)(hv:bootBuiltins "set"=some (.type "set"):=by decide+kernel)(he:starEach [e] X.env=(false,eval e X.env)::starEach [] X.env:=by rfl)(br:(backTo pos (starEach [] X.env)).any (·.1)=false:=by rfl):
  PE X (.Call (.Name "set" p) [e] [] pos) (WN X f):=by
 refine sF λpins s σ H Q I Ha O0 O ρ E q=>?_;refine aAM (P3 I hg hm hv ?_ (by decide) (by decide));have qu:PA X [e] _:=K1 ha aY he;refine aBc (C4 (qu pos pins s σ H (λvs H1=>∃v ds,vs=[v]/\f ρ=.ok (.lst ds)/\Same H H1/\A8 X.K H1 O v (.lst ds)) I ⟨Ha,O0,O,ρ,E,?_⟩) λus s1 ⟨vs,H1,I1,r1,v,ds,ev,ef,sm,rb⟩=>?_) he br
 ·cases e1:f ρ with
  |ex z=>rw[e1]at q;exact q
  |bad=>rw[e1]at q;exact q.elim
  |ok d=>
   rw[e1]at q;cases d with
   |lst ds=>exactλv H1 s1 r1=>⟨v,ds,rfl,rfl,s1,r1⟩
   |_=>exact q.elim
 ·subst ev;rw[ef]at q;obtain⟨⟨hp,zf⟩,q⟩:=q;obtain⟨a,ws,rfl,hS,rr⟩:=rb.aa7;obtain⟨u,rfl,ru⟩:=vals1 r1;cases ru;obtain⟨its,rv,⟨oL,nL,gL,cL,dL,sL⟩,zL⟩:=I1.list hS;have pt:∀d∈ds,aL d=true:=aBU.mp hp;have hlen:its.toArray.size=ds.length:=by rw[aAm,<-rv.length,rr.length]
  have st:w5 X.K H1 O its ds:=w5.of rv rr;have goes:∀(i:Nat) (v:Value),its.toArray[i]?=some v->RU (M6 X.K H1 s1.heap) v (ds.getD i .non):=λi v hi=>by
   rw[aCD]at hi;obtain⟨d,hd,w,ri,rp⟩:=F1 st hi;have og:ds.getD i .non=d:=by rw[aAv,hd];rfl
   rw[og];have hpt:=pt d (aAr hd);have hv:=GT I1 rp (Q9 hpt) ri;rw[(aD hpt).2]at hv⊢;cases hv with
   |tup p r=>exact⟨_,_,rfl,rfl,by have:=rA hpt;rw[(aD hpt).2]at this;exact this,.tup p r⟩
  have vd:∀i<its.toArray.size,E6 (ds.getD i .non)<8/\∃ys,ds.getD i .non=.tup ys:=λi hi=>by
   have ib:i<ds.length:=by rw[<-hlen];exact hi
   have e1:ds.getD i .non=ds[i]:=by rw[aAv,aAk ib];rfl
   rw[e1];exact⟨rA (pt _<|aCo ib),_,(aD<|pt _<|aCo ib).2⟩
  refine vF (W0 X.K H1 s1.heap) (val:=λi=>ds.getD i .non) (U:=X6 ds) (I1.ok.hd hh) ⟨oL,gL,cL,nL,sL⟩ goes vd (λi hi=>?_) (by lia) hu λh' tk cb jm qo kp=>?_
  ·have ib:i<ds.length:=by rw[<-hlen];exact hi
   rw[L4 pt];have e1:ds.getD i .non=ds[i]:=by rw[aAv,aAk ib];rfl
   show ds.getD i .non∈ds;rw[e1];exact aCo ib
  ·obtain⟨⟨o,es,ep,t,ho,hc,hdct,hsl,hd,sok,msk,pr,led,pl⟩,nd⟩:=jm;have mem:∀d,d∈cb↔d∈ds:=λd=>by
    rw[qo];constructor
    ·rintro⟨j,hj,e1⟩;have vf:j<ds.length:=by rw[<-hlen];exact hj
     have e2:ds.getD j .non=ds[j]:=by rw[aAv,aAk vf];rfl
     rw[<-e1,e2];exact aCo vf
    ·intro hd;obtain⟨j,hj,e1⟩:=aBt hd;refine⟨j,by rw[hlen];exact hj,?_⟩;show ds.getD j .non=d;rw[aAv,aAk hj,<-e1];rfl
   have I2:=I1.laid (a:=s1.heap.objs.size) (o:=.frz o (.own s1.heap.objs.size)) (h':=h') (t':=tk) kp (aAg _) ⟨ho,o,ho⟩;refine⟨.ref s1.heap.objs.size,_,I2,rfl,q s1.heap.objs.size o (es.toList.map (·.2)) cb H1 sm (I1.hok.fresh<|aAg _) ⟨⟨hc,hdct,hsl⟩,es,ep,t,hd,?_,pl,led,sok.tab.asc,rfl⟩ ?_ nd mem⟩
   ·have h1:=sok.len;have h2:=sok.room;simp only[aFX,aAF,beq_iff_eq,decide_eq_true_eq];exact⟨by simpa using h1,by show t.place.size+t.dummies.size<=t.mask;rw[sok.tab.nod];simpa using h2⟩
   ·have:∀{es:List (Int×Value)} {ds:List D},Paired (EV<|M6 X.K H1 s1.heap) es ds->w5 X.K H1 O (es.map (·.2)) ds:=λ{es ds} p=>by
     induction p with
     |nil=>exact .nil
     |cons r _ ih=>exact .cons (KL I1 r.1) ih
    exact this pr
def MJ (h:Heap) (v:Value):List Int:=open Classical in if p:∃d,aL d=true/\HV h v d then flat p.choose else[]
def pS (hp:aL d=true)(hv:HV h v d):MJ h v=flat d:=by unfold MJ;have q:∃d,aL d=true/\HV h v d:=⟨d,hp,hv⟩;rw[dif_pos q,HV.inj q.choose_spec.2 hv]
def Z2 (hp:aL d=true)(hv:HV h v d):∃b items,v=.ref b/\IsTup h b items/\IntsAre items.toList (flat d):=by
 rw[(aD hp).2]at hv;cases hv with
 |tup p r=>
  refine⟨_,_,rfl,p,?_⟩;have:∀{vs:List Value} {l:List Int},HVs h vs (l.map D.int)->IntsAre vs l:=λ{vs l} r=>by
   induction l generalizing vs with
   |nil=>cases r;exact .nil
   |cons i l ih=>
    cases r with
    |cons r t=>cases r;exact .cons _ _ (ih t)
  exact this r
def RO {prog:Program}{w:World}{A:Around}{E:C5}{s:Shared}{x y:Value}{d e:D}{f:Bool}{Q:rZ}(hd:aL d=true)(he:aL e=true)(hx:HV s.heap x d)(hy:HV s.heap y e)(q:Q (HT.lexLt (flat d) (flat e)) s):wpAny (model prog w) A (keyLt' (TS.tupK f) x y) Q E s:=by obtain⟨b,its,rfl,t1,i1⟩:=Z2 hd hx;obtain⟨b',its',rfl,t2,i2⟩:=Z2 he hy;exact TS.lt_ints f t1 t2 i1 i2 q
def EX {prog:Program}{w:World}{A:Around}{E:C5}{s:Shared}{vs:List Value}{Q:SortKind->Shared->Prop}(h:∀x∈vs,∃d,aL d=true/\HV s.heap x d)(h2:2<=vs.length)(q:Q (TS.tupK true) s):wpAny (model prog w) A (keyKind' vs.toArray) Q E s:=by
 obtain⟨gf,hgf⟩:∃gf:Value->Value,∀x∈vs,∃b items k t,x=.ref b/\IsTup s.heap b items/\items[0]?=some (gf x)/\gf x=.int k t:=by
  refine⟨λx=>open Classical in if z:∃p,∃b items k t,x=.ref b/\IsTup s.heap b items/\items[0]?=some p/\p=aGp k t then z.choose else .none,λx hx=>?_⟩;obtain⟨d,hp,hv⟩:=h x hx;obtain⟨b,items,rfl,ht,hi⟩:=Z2 hp hv;have hn:=(aD hp).1;have z:∃p,∃b' items k t,aCJ b=.ref b'/\IsTup s.heap b' items/\items[0]?=some p/\p=aGp k t:=by
   cases e:items.toList with
   |nil=>rw[e]at hi;generalize flat d=l at hi hn;cases hi;exact absurd rfl hn
   |cons p ps=>
    rw[e]at hi;generalize flat d=l at hi;cases hi with
    |cons k t h'=>exact⟨_,b,items,k,t,rfl,ht,by rw[<-aAA,e];rfl,rfl⟩
  dsimp only;rw[dif_pos z];obtain⟨b',xh,k,t,q1,q2,q3,q4⟩:=z.choose_spec;exact⟨b',xh,k,t,q1,q2,q3,q4⟩
 refine TS.kind_tuples (T:= "int") gf (λx hx=>?_) (λz=>by rw[z]at h2;simp at h2) (by decide) q;obtain⟨b,items,k,t,q1,q2,q3,q4⟩:=hgf x hx;exact⟨b,items,q1,q2,q3,by rw[q4];exact typeIs_int s k t⟩
def pR {K:PySem.W.Frag}{H:Hp}{O:Addr->Prop}{us us':List Value}{ds:List D}{key:Value->List Int}(st:w5 K H O us ds)(hp:us'.Perm us)(hs:us'.Pairwise λx y=>HT.lexLt (key y) (key x)=false)(hk:∀u d,(∃v,RelV v u/\Rep K H O v d)->d∈ds->key u=flat d)(pt:∀d∈ds,aL d=true)(nd:ds.Nodup):
  ∃cb,w5 K H O us' cb/\cb.Perm ds/\KR cb:=by
 obtain⟨cb,p',st'⟩:=aR hp st;refine⟨cb,st',p',?_⟩;have nd':cb.Nodup:=p'.nodup_iff.mpr nd;have yg:∀d∈cb,aL d=true:=λd hd=>pt d (p'.mem_iff.mp hd);have mh:∀u d,(∃v,RelV v u/\Rep K H O v d)->d∈cb->key u=flat d:=λu d h hd=>hk u d h (p'.mem_iff.mp hd);clear hp p' st nd pt hk;induction st' with
 |nil=>exact .nil
 |@cons u d us ds r t ih=>
  have h1:=aAw.mp hs;have n1:=aAK.mp nd';refine aAw.mpr ⟨λe he=>?_,ih h1.2 n1.2 (λd hd=>yg d (.tail _ hd)) λu d h hd=>mh u d h (.tail _ hd)⟩;have:∃u'∈us,∃v,RelV v u'/\Rep K H O v e:=by
   clear ih hs h1 n1 nd' yg mh r;induction t with
   |nil=>cases he
   |cons r t ih=>
    rcases aAe.mp he with rfl|he
    ·exact⟨_,.head _,r⟩
    ·obtain⟨u',hu,q⟩:=ih he;exact⟨u',.tail _ hu,q⟩
  obtain⟨u',hu,q⟩:=this;have l:=h1.1 u' hu;rw[mh u' e q (.tail _ he),mh u d r (.head _)]at l;cases z:HT.lexLt (flat d) (flat e)with
  |true=>rfl
  |false=>have:=uR (yg _<|.head _) (yg _<|.tail _ he) (TS.lex_total _ _ z l);subst this;exact absurd he n1.1
def eI {p p2 ia:Pos}{f:Ev->R D}(ha:PB X e f)(hh:X.calm=true)(hu:X.A.units+300<cLine)(hg:Gl X "set":=by rfl)(hm:X.mg "set"=none:=by assumption)(hg2:Gl X "sorted":=by rfl)(lu:X.mg "sorted"=none:=by assumption)
  (hv:bootBuiltins "set"=some (.type "set"):=by decide+kernel) (hv2:bootBuiltins "sorted"=some (.builtin "sorted"):=by decide+kernel)
  (he:starEach [e] X.env=(false,eval e X.env)::starEach [] X.env:=by rfl) (br:(backTo ia (starEach [] X.env)).any (·.1)=false:=by rfl)
  (ju:starEach [.Call (.Name "set" p2) [e] [] ia] X.env=(false,eval (.Call (.Name "set" p2) [e] [] ia) X.env)::starEach [] X.env:=by rfl) (xi:(backTo pos (starEach [] X.env)).any (·.1)=false:=by rfl):
  PF X (.Call (.Name "sorted" p) [.Call (.Name "set" p2) [e] [] ia] [] pos) (λρ=>(f ρ).bind VX):=by
 refine sF λpins s σ H Q I Ha O0 O ρ E q=>?_;dsimp only at q;refine aAM (P3 I hg2 lu hv2 ?_ (by decide) (by decide));have qu:PA X [.Call (.Name "set" p2) [e] [] ia] _:=K1 (MY (p:=p2) ha hh hu hg hm hv he br) aY ju;refine aCf (C4 (qu pos pins s σ H (λvs H2=>∃S o es cb ds H1,vs=[.ref S]/\H2=upd H1 S (.frz o (.own S))/\f ρ=.ok (.lst ds)/\(ds.all aL=true/\(X6 ds).length<=63)/\Same H H1/\H1 S=none/\VR X.w o es/\w5 X.K H1 O es cb/\cb.Nodup/\(∀d,d∈cb↔d∈ds)) I ⟨Ha,O0,O,ρ,E,?_⟩)
  λus s1 z=>?_) ju xi
 ·cases e1:f ρ with
  |ex z=>rw[e1]at q;exact q
  |bad=>rw[e1]at q;exact q.elim
  |ok d=>
   rw[e1,R.aa0]at q;cases d with
   |lst ds=>
    simp only[VX]at q;by_cases hc:ds.all aL=true/\(X6 ds).length<=63
    ·exact⟨hc,λS o es cb H1 sm hS so st nd mem=>⟨S,o,es,cb,ds,H1,rfl,rfl,rfl,hc,sm,hS,so,st,nd,mem⟩⟩
    ·rw[if_neg hc]at q;exact q.elim
   |_=>exact q.elim
 ·obtain⟨vs,H2,I2,r1,S,o,es,cb,ds,H1,ev,eH,ef,⟨hp,zf⟩,sm,hS1,so,st,nd,mem⟩:=z;subst ev eH;obtain⟨u,rfl,ru⟩:=vals1 r1;cases ru;rw[ef,R.aa0]at q;simp only[VX]at q;rw[if_pos ⟨hp,zf⟩]at q;have pt:∀d∈ds,aL d=true:=aBU.mp hp;have yg:∀d∈cb,aL d=true:=λd hd=>pt d ((mem d).mp hd);have s12:Same H1 (upd H1 S<|.frz o (.own S)):=i5 hS1 _;have mf:=st.same s12;obtain⟨hc,ea,ep,t,hd,hf,hpln,led,asc,ees⟩:=so;have goS:=(I2.hok S _ i4).1;have hS2:SI.IsSet s1.heap S ea ep t:=⟨o,goS,hc.1,hd⟩;have hsl:(X6 ds).Perm cb:=by
   letI:DecidableEq D:=λa b=>aDH _
   exact(aDm (DC<|bT ds) nd).mpr λd=>by rw[L4 pt,mem]
  have ir:ea.size=cb.length:=by have:=st.length;rw[<-ees]at this;simpa using this
  have h63':cb.length<=63:=by rw[<-hsl.length_eq];exact zf
  have wp:=SI.walkL_perm X.w S ea ep;have wpv:((SI.walkL X.w S ea ep).map (·.2)).Perm es:=by rw[<-ees];exact wp.map _
  have each:∀u∈(SI.walkL X.w S ea ep).map (·.2),∃d,d∈cb/\aL d=true/\HV s1.heap u d:=λu hu=>by obtain⟨d,hd,v,rv,rp⟩:=mf.get (wpv.mem_iff.mp hu);exact⟨d,hd,yg d hd,bC I2 rp (Q9<|yg d hd) rv⟩
  refine TS.sorted_keys (vs:=(SI.walkL X.w S ea ep).map (·.2)) (f:=true) (key:=MJ s1.heap) (C:=λs'=>∃h' tk,s'={s1 with heap:=h',toks:=tk}/\∀b o,s1.heap.get? b=some o->h'.get? b=some o)
   (λ{Q'} hq=>SI.collect_set (by simp[I2.ok.hd hh]) hS2 hf hpln (λnb=>by rw[led];simpa using nb) asc (by rw[ir];exact aAx h63' (by decide)) λh' tk k=>hq _ ⟨h',tk,rfl,k⟩)
   (λs' ⟨h',tk,es',k⟩ s6 k6 x hx y hy prog w A E hA {Q} qq=>?_) (λh2 s' ⟨h',tk,es',k⟩ s6 k6 A {Q} qq=>?_) (by rw[aAl,wp.length_eq,aAU,ir];lia) λs' ja h' l ⟨h1,tk,es',k⟩ pm srt k2 hl ⟨n,gl⟩=>?_
  ·subst es';obtain⟨d,_,pd,hvd⟩:=each x hx;obtain⟨d',_,pd',hvd'⟩:=each y hy;rw[pS pd hvd,pS pd' hvd']at qq;exact RO pd pd' (hvd.keeps λb o e _=>k6 b o (k b o e)) (hvd'.keeps λb o e _=>k6 b o (k b o e)) qq
  ·subst es';refine EX (λx hx=>?_) h2 qq;obtain⟨d,_,pd,hvd⟩:=each x hx;exact⟨d,pd,hvd.keeps λb o e _=>k6 b o (k b o e)⟩
  ·subst es';obtain⟨rg,st3,p2,srt2⟩:=pR (key:=MJ s1.heap) mf (pm.trans wpv) srt (λu d ⟨v,rv,rp⟩ hd=>pS (yg d hd) (bC I2 rp (Q9<|yg d hd) rv)) yg nd;have e2:rg=X6 ds:=mD srt2 (bT ds) λd=>by rw[p2.mem_iff,mem,L4 pt]
   subst e2;obtain⟨wv,ri,rr⟩:=st3.ac6;have I2':=I2.kept (h':=h1) (t':=tk) k;have I3:=I2'.laid (a:=l) (o:=.lst wv) (h':=h') (t':=tk) k2 hl ⟨by rw[rr.length];exact aAx zf (by decide),ja,n,ri,gl⟩;exact⟨.ref l,_,I3,rfl,q wv _ l (sm.trans s12) (I2'.hok.fresh hl) rr⟩
end
end DL
namespace SZ
open PySem
abbrev Zs (h:Heap)(z TI TO:Addr)(f0 f1:Value):Prop:=h.get? z=some {cls:=.type "zip",dict:=none,data:=.fields #[f0,f1,.bool false,.ref TI,.ref TO],slots:=#[]}
def vJ (f0:Value):Prop:=f0=.none\/∃a:Nat,f0=rawInt a
section
def alive {Q:Option Obj->Shared->Prop}(h:Q (s.heap.get? c) s):wpAny (model prog w) A (loadIfAlive c) Q E s:=λΓ p _=>by unfold loadIfAlive;rw[Sem.wp_loadIfAlive];simpa using h
def kH {Q:rZ}(hz:Zs s.heap z TI TO f0 f1)(ho:vJ f0)(q1:Q true s)(q2:∀h' f1',Zs h' z TI TO f0 f1'->Heap.SameBut z s.heap h'->Q false {s with heap:=h'}):wpAny (model prog w) A (aBL (.ref z)) Q E s:=by
 unfold aBL;refine aAa (aCH hz rfl (x:=f0) rfl ?_);rcases ho with rfl|⟨a,rfl⟩
 ·exact aAb q1
 ·show wpAny _ _ (loadIfAlive (aEo (a:Int))>>=_) _ _ _;refine aAa (alive ?_);by_cases hn:(s.heap.get?<|aEo (a:Int)).isNone=true
  ·rw[if_pos hn];exact aAb q1
  ·rw[if_neg hn];refine aAa (aCH hz rfl (x:=f1) rfl ?_);by_cases hb:(f1 !=aBX true)=true
   ·rw[if_pos hb];refine aAa (aBR hz (by simp) λh' e' s'=>aAb (q2 h' (.bool true) e' s'))
   ·rw[if_neg hb];exact aAb (q2 s.heap f1 hz ⟨rfl,λ_ _=>rfl⟩)
def HN {Q:C5}(D:ZipApart z TI TO i1 i2 l1 l2)(hz:Zs s.heap z TI TO f0 f1)(ho:vJ f0)(vh:IsPair s.heap TI (.ref i1) (.ref i2))(ug:IsPair s.heap TO a b)(h1:s.heap.IsListIter i1 l1 k)(h2:s.heap.IsListIter i2 l2 k)(qr:s.heap.IsList l1 xs)(mn:s.heap.IsList l2 ys)(hx:xs[k]?=some x)(hy:ys[k]?=some y)(hQ:∀h' T f0' f1' a' b',Zs h' z TI TO f0' f1'->vJ f0'->IsPair h' TO a' b'->h'.IsListIter i1 l1 (k+1)->h'.IsListIter i2 l2 (k+1)->s.heap.objs.size<=T->IsPair h' T x y->
   (∀c o,c≠z->c≠TO->c≠i1->c≠i2->s.heap.get? c=some o->h'.get? c=some o)->Q (.ref T) {s with heap:=h'}):
  wpAny (model prog w) A (Builtin.«zip.__next__» ⟨[.ref z],[]⟩) (λfin s'=>∃v,fin=.done (.ret v)/\Q v s') E s:=by
 show wpAny _ _ (field (.ref z) 2>>=_) _ _ _;refine aAa (aCH hz rfl (x:=.bool false) rfl ?_);show wpAny _ _ (field (.ref z) 3>>=_) _ _ _;refine aAa (aCH hz rfl (x:=.ref TI) rfl ?_);refine aAa (aBH vh rfl ?_);show wpAny _ _ (aBL (.ref z)>>=_) _ _ _;refine aAa (kH hz ho ?_ λh₁ f1' yh je=>?_)
 ·simp only[if_true];refine aAa (aDz ?_);refine aAa (aCH hz rfl (x:=.ref TO) rfl ?_);refine aAa (aBR hz (by simp) λh₁ yh je=>?_);replace yh:Zs h₁ z TI TO .ellipsis f1:=yh;refine aAa ?_;simp only[aEa,aEp,aCM,aDQ];refine aAa (aAa<|wpAny_onRaise ?_);show wpAny _ _ (aBI (.ref i1)>>=_) _ _ _;refine aAa (aCV (h1.extBut je.extBut D.i1z) (qr.extBut je.extBut D.l1z) hx λjf h11 mi=>aAb ?_);have hTO3:IsPair jf TO a b:=mi.extBut _ _ D.TOi1 (je.extBut _ _ D.TOz ug);refine aAa (aBH hTO3 rfl ?_);refine aAa (wpAny_updateSeq_pair hTO3 λaA hTO2 zg=>?_);replace hTO2:IsPair aA TO x b:=hTO2;refine aAa (aDN<|aAb ?_);refine aAa (aAa<|wpAny_onRaise ?_);show wpAny _ _ (aBI (.ref i2)>>=_) _ _ _;refine aAa (aCV (((h2.extBut je.extBut D.i2z).extBut mi.extBut D.i12.symm).extBut zg.extBut D.TOi2.symm)
   (((mn.extBut je.extBut D.l2z).extBut mi.extBut D.l2i1).extBut zg.extBut D.l2TO) hy λhV h20 xl=>aAb ?_)
  have zh:IsPair hV TO x b:=xl.extBut _ _ D.TOi2 hTO2;refine aAa (aBH zh rfl ?_);refine aAa (wpAny_updateSeq_pair zh λh9 zi hs7=>?_);replace zi:IsPair h9 TO x y:=zi;refine aAa (aDN<|aAb<|aAb ?_);refine aAa (aBH zi rfl ?_);refine aAa (aFN ?_);have ir:h9.objs.size=s.heap.objs.size:=by rw[hs7.1,xl.1,zg.1,mi.1,je.1]
  have hz4:Zs h9 z TI TO .ellipsis f1:=hs7.extBut _ _ D.TOz.symm (xl.extBut _ _ D.i2z.symm<|zg.extBut _ _ D.TOz.symm<|mi.extBut _ _ D.i1z.symm yh);have hk3:∀c o,c≠z->c≠TO->c≠i1->c≠i2->s.heap.get? c=some o->h9.get? c=some o:=λc o c1 c2 c3 c4 e=>hs7.extBut _ _ c2 (xl.extBut _ _ c4<|zg.extBut _ _ c2<|mi.extBut _ _ c3<|je.extBut _ _ c1 e)
  have h12:h9.IsListIter i1 l1 (k+1):=((h11.extBut zg.extBut D.TOi1.symm).extBut xl.extBut D.i12).extBut hs7.extBut D.TOi1.symm;have h21:h9.IsListIter i2 l2 (k+1):=h20.extBut hs7.extBut D.TOi2.symm;have hzlt:z<h9.objs.size:=aAf hz4;show wpAny _ _ (aDr (.ref z) (.ref h9.objs.size)>>=_) _ _ _;refine aAa ?_;unfold aDr;have hz6:Zs (h9.push {cls:=.type "tuple",data:=.seq #[x,y]}) z TI TO .ellipsis f1:=aAc _ hz4;refine aAa (aBR hz6 (by simp) λaC hz2 hs8=>?_);replace hz2:Zs aC z TI TO (rawInt h9.objs.size) f1:=hz2;refine aBR hz2 (by simp) λaB hz3 hs9=>?_;replace hz3:Zs aB z TI TO (rawInt h9.objs.size) (.bool false):=hz3;have up:∀c o,c≠z->h9.get? c=some o->aB.get? c=some o:=λc o c1 e=>hs9.extBut _ _ c1 (hs8.extBut _ _ c1<|aAc _ e);have hT0:IsPair aB h9.objs.size x y:=hs9.extBut _ _ (aDb hzlt) (hs8.extBut _ _ (aDb hzlt)<|aAn _ rfl);refine aAb ⟨_,rfl,?_⟩;exact hQ aB h9.objs.size _ _ x y hz3 (.inr ⟨_,rfl⟩) (up _ _ D.TOz zi) (h12.at λo e=>up _ o D.i1z e) (h21.at λo e=>up _ o D.i2z e) (aDU ir.symm) hT0 λc o c1 c2 c3 c4 e=>up c o c1 (hk3 c o c1 c2 c3 c4 e)
 ·simp only[aAq,if_false];refine aAa ?_;show wpAny _ _ (forIn (#[.ref i1,.ref i2]:Array Value) _ _) _ _ _;rw[<-aCl];simp only[aCM,aDQ];refine aAa (aAa<|aAJ ?_);show wpAny _ _ (aBI (.ref i1)>>=_) _ _ _;refine aAa (aCV (h1.extBut je.extBut D.i1z) (qr.extBut je.extBut D.l1z) hx λjf h11 mi=>aAb ?_);refine aAb ?_;refine aAa (aAa<|aAJ ?_);show wpAny _ _ (aBI (.ref i2)>>=_) _ _ _;refine aAa (aCV ((h2.extBut je.extBut D.i2z).extBut mi.extBut D.i12.symm) ((mn.extBut je.extBut D.l2z).extBut mi.extBut D.l2i1) hy λhV h20 xl=>aAb ?_);refine aAb (aAb ?_);have ir:hV.objs.size=s.heap.objs.size:=by rw[xl.1,mi.1,je.1]
  have hz7:Zs hV z TI TO f0 f1':=xl.extBut _ _ D.i2z.symm (mi.extBut _ _ D.i1z.symm yh);have zh:IsPair hV TO a b:=xl.extBut _ _ D.TOi2 (mi.extBut _ _ D.TOi1<|je.extBut _ _ D.TOz ug);have h13:hV.IsListIter i1 l1 (k+1):=h11.extBut xl.extBut D.i12;show wpAny _ _ (newTuple [x,y]>>=_) _ _ _;refine aAa (aFN ?_);refine aAb ⟨_,rfl,?_⟩;exact hQ _ hV.objs.size _ _ a b (aAc _ hz7) ho (aAc _ zh) (h13.at λo e=>aAc _ e) (h20.at λo e=>aAc _ e) (aDU ir.symm) (aAn _ rfl)
   λc o c1 c2 c3 c4 e=>aAc _ (xl.extBut _ _ c4<|mi.extBut _ _ c3<|je.extBut _ _ c1 e)
def OI {Q:Fin->Shared->Prop}(hh:A.handled=none)(D:ZipApart z TI TO i1 i2 l1 l2)(hz:Zs s.heap z TI TO f0 f1)(ho:vJ f0)(vh:IsPair s.heap TI (.ref i1) (.ref i2))(ug:IsPair s.heap TO a b)
  (h1:s.heap.IsListIter i1 l1 k) (h2:s.heap.IsListIter i2 l2 k) (qr:s.heap.IsList l1 xs) (mn:s.heap.IsList l2 ys) (hx:xs[k]?=none)
  (hE:∀h' e,(∀c o,c≠z->c≠TO->c≠i1->c≠i2->s.heap.get? c=some o->h'.get? c=some o)->(∃o,h'.get? e=some o/\o.cls=.type "StopIteration")->E (.ref e) {s with heap:=h'}):
  wpAny (model prog w) A (Builtin.«zip.__next__» ⟨[.ref z],[]⟩) Q E s:=by
 show wpAny _ _ (field (.ref z) 2>>=_) _ _ _;refine aAa (aCH hz rfl (x:=.bool false) rfl ?_);show wpAny _ _ (field (.ref z) 3>>=_) _ _ _;refine aAa (aCH hz rfl (x:=.ref TI) rfl ?_);refine aAa (aBH vh rfl ?_);show wpAny _ _ (aBL (.ref z)>>=_) _ _ _;refine aAa (kH hz ho ?_ λh₁ f1' yh je=>?_)
 ·simp only[if_true];refine aAa (aDz ?_);refine aAa (aCH hz rfl (x:=.ref TO) rfl ?_);refine aAa (aBR hz (by simp) λh₁ yh je=>?_);replace yh:Zs h₁ z TI TO .ellipsis f1:=yh;refine aAa ?_;simp only[aEa,aEp,aCM,aDQ];refine aAa (aAa<|wpAny_onRaise ?_);show wpAny _ _ (aBI (.ref i1)>>=_) _ _ _;refine aAa (wpAny_nextOf_list_end hh (h1.extBut je.extBut D.i1z) (qr.extBut je.extBut D.l1z) hx λjf e mi he=>?_);obtain⟨oe,hoe,hce⟩:=he;have hz5:Zs jf z TI TO .ellipsis f1:=mi _ _ D.i1z.symm yh;have hez:e≠z:=λx=>by subst x;rw[hz5]at hoe;cases hoe;simp at hce
  exact aBR hz5 (by simp) λaA _ zg=>hE aA e (λc o c1 _ c3 _ x=>zg.extBut _ _ c1 (mi _ _ c3<|je.extBut _ _ c1 x)) ⟨oe,zg.extBut _ _ hez hoe,hce⟩
 ·simp only[aAq,if_false];refine aAa ?_;show wpAny _ _ (forIn (#[.ref i1,.ref i2]:Array Value) _ _) _ _ _;rw[<-aCl];simp only[aCM,aDQ];refine aAa (aAa<|aAJ ?_);show wpAny _ _ (aBI (.ref i1)>>=_) _ _ _;exact aAa (wpAny_nextOf_list_end hh (h1.extBut je.extBut D.i1z) (qr.extBut je.extBut D.l1z) hx λjf e mi he=>hE jf e (λc o c1 _ c3 _ x=>mi _ _ c3 (je.extBut _ _ c1 x)) he)
end
def IE (z TI TO i1 i2 l1 l2:Addr)(xs ys:Array Value)(i:Nat)(h:Heap):Prop:=
 (∃f0 f1,Zs h z TI TO f0 f1/\vJ f0)/\IsPair h TI (.ref i1) (.ref i2)/\(∃a b,IsPair h TO a b)/\h.IsListIter i1 l1 i/\h.IsListIter i2 l2 i/\h.IsList l1 xs/\h.IsList l2 ys
section
variable{s:Shared}
def IE.type (h:IE z TI TO i1 i2 l1 l2 xs ys i s.heap):s.TypeIs (.ref z) "zip":=by obtain⟨⟨f0,f1,hz,_⟩,_⟩:=h;exact⟨_,hz,rfl⟩
def IE.keeps (x:IE z TI TO i1 i2 l1 l2 xs ys i h)(k:∀b o,b∈[z,TI,TO,i1,i2,l1,l2]->h.get? b=some o->h'.get? b=some o):IE z TI TO i1 i2 l1 l2 xs ys i h':=by obtain⟨⟨f0,f1,hz,ho⟩,vh,⟨a,b,ug⟩,h1,h2,qr,mn⟩:=x;exact⟨⟨f0,f1,k z _ (by simp) hz,ho⟩,k TI _ (by simp) vh,⟨a,b,k TO _ (by simp) ug⟩,h1.at λo e=>k i1 o (by simp) e,h2.at λo e=>k i2 o (by simp) e,qr.at λo e=>k l1 o (by simp) e,mn.at λo e=>k l2 o (by simp) e⟩
def HA {Q:Option Value->Shared->Prop}(D:ZipApart z TI TO i1 i2 l1 l2)(hl:xs.size=ys.size)(st:IE z TI TO i1 i2 l1 l2 xs ys i s.heap)(hi:i<xs.size)(hQ:∀h' T x y,xs[i]?=some x->ys[i]?=some y->IE z TI TO i1 i2 l1 l2 xs ys (i+1) h'->s.heap.objs.size<=T->IsPair h' T x y->(∀c o,c∉[z,TO,i1,i2]->s.heap.get? c=some o->h'.get? c=some o)->Q (some (.ref T)) {s with heap:=h'}):
  wpAny (model prog w) A (pyNext (.ref z)) Q E s:=by
 have hT:=st.type;obtain⟨⟨f0,f1,hz,ho⟩,vh,⟨a,b,ug⟩,h1,h2,qr,mn⟩:=st;have hx:xs[i]?=some xs[i]:=aAE hi;have hy:ys[i]?=some (ys[i]'(by lia)):=aAE (by lia);unfold pyNext;refine aAa (aEg (aCq (name:=aDd "__next__") hT aDI
  (aBk aDI hT F.entry_zip_next (HN D hz ho vh ug h1 h2 qr mn hx hy λh' T f0' f1' a' b' e1 e2 e3 e4 e5 e6 e7 kp=>aAb ?_)<|F.args_zip_next_1 _)))
 refine hQ h' T _ _ hx hy ⟨⟨f0',f1',e1,e2⟩,kp _ _ D.TIz D.TITO D.TIi1 D.TIi2 vh,⟨a',b',e3⟩,e4,e5,qr.at λo e=>kp _ o D.l1z D.l1TO D.l1i1 D.l1i2 e,mn.at λo e=>kp _ o D.l2z D.l2TO D.l2i1 D.l2i2 e⟩ e6 e7 λc o hc e=>?_;simp only[aAe,aAG,or_false,not_or]at hc;exact kp c o hc.1 hc.2.1 hc.2.2.1 hc.2.2.2 e
def FJ {Q:Option Value->Shared->Prop}(hh:A.handled=none)(D:ZipApart z TI TO i1 i2 l1 l2)(st:IE z TI TO i1 i2 l1 l2 xs ys xs.size s.heap)
  (hQ:∀h',(∀c o,c∉[z,TO,i1,i2]->s.heap.get? c=some o->h'.get? c=some o)->Q none {s with heap:=h'}):wpAny (model prog w) A (pyNext (.ref z)) Q E s:=by
 have hT:=st.type;obtain⟨⟨f0,f1,hz,ho⟩,vh,⟨a,b,ug⟩,h1,h2,qr,mn⟩:=st;unfold pyNext;refine aAa (aEg (aCq (name:=aDd "__next__") hT aDI
  (aBk aDI hT F.entry_zip_next (OI (by simpa using hh) D hz ho vh ug h1 h2 qr mn (aCy<|aAg _) λh' e kp he=>?_)<|F.args_zip_next_1 _)))
 obtain⟨o,um,hc⟩:=he;refine aAa (aDv (T:= "StopIteration") (b:=true) ⟨o,um,hc⟩ isSubtype_stop ?_);refine aAb (hQ _ λc o hc e=>?_);simp only[aAe,aAG,or_false,not_or]at hc;exact kp c o hc.1 hc.2.1 hc.2.2.1 hc.2.2.2 e
def Pairs (h0:Heap)(xs ys acc:Array Value)(i:Nat)(h:Heap)(off:List Addr):Prop:=acc.size=i/\∀(j:Nat) (v:Value),acc[j]?=some v->∃T x y,v=.ref T/\xs[j]?=some x/\ys[j]?=some y/\IsPair h T x y/\T∉off/\h0.get? T=none
def HJ (hh:A.handled=none)(D:ZipApart z TI TO i1 i2 l1 l2)(hl:xs.size=ys.size)(hn:xs.size<=sizeLine)(S:Addr)(qg:S∉[z,TI,TO,i1,i2,l1,l2])(res:Value)(h0:Heap):
  ∀(k i:Nat) (s:Shared) (acc:Array Value) (c:Nat),xs.size-i=k->i<=xs.size->(∀b o,b∉[z,TO,i1,i2,S]->h0.get? b=some o->s.heap.get? b=some o)->IE z TI TO i1 i2 l1 l2 xs ys i s.heap->s.heap.get? S=some {cls:=.type "list",dict:=none,data:=.seq acc c,slots:=#[]}->Pairs h0 xs ys acc i s.heap [z,TO,i1,i2,S]->
  (∀h' jt c',(∀b o,b∉[z,TO,i1,i2,S]->s.heap.get? b=some o->h'.get? b=some o)->h'.get? S=some {cls:=.type "list",dict:=none,data:=.seq jt c',slots:=#[]}->Pairs h0 xs ys jt xs.size h' [z,TO,i1,i2,S]->R (.ok (.ret res)) {s with heap:=h'})->
  codeAny (model prog w) A (.builtin "list.extend.loop" ⟨[.ref S,.ref z,res],[]⟩) R s:=by
 have hS4:S∉[z,TO,i1,i2]:=λh=>qg (by simp only[aAe,aAG,or_false]at h⊢;rcases h with h|h|h|h<;>simp[h]);have to5:∀b,b∉[z,TO,i1,i2,S]->b∉[z,TO,i1,i2]:=λb h q=>h (by simp only[aAe,aAG,or_false]at q⊢;rcases q with q|q|q|q<;>simp[q]);intro k;induction k with
 |zero=>
  intro i s acc c hk hi h0k jr hS gi hR;have oh:i=xs.size:=by lia
  subst oh;refine aBu F.entry_extend_loop ?_;rw[aBa aCR _];show wpAny _ A.in1 (pyNext (.ref z)>>=_) _ _ s;refine aAa (FJ (by simpa using hh) D jr λh' kp=>?_);refine aAb (hR h' acc c (λb o hb e=>kp b o (to5 b hb) e) (kp S _ hS4 hS) ⟨gi.1,λj v hv=>?_⟩);obtain⟨T,x,y,e1,e2,e3,e4,e5,e6⟩:=gi.2 j v hv;exact⟨T,x,y,e1,e2,e3,kp T _ (to5 T e5) e4,e5,e6⟩
 |succ k ih=>
  intro i s acc c hk hi h0k jr hS gi hR;have ar:i<xs.size:=by lia
  refine aBu F.entry_extend_loop ?_;rw[aBa aCR _];show wpAny _ A.in1 (pyNext (.ref z)>>=_) _ _ s;refine aAa (HA D hl jr ar λh' T x y hx hy me hT hP kp=>?_);have jm:=kp S _ hS4 hS;have Tne:∀b o,s.heap.get? b=some o->T≠b:=λb o e q=>absurd (aAo (aAf e) hT) (by rw[q];exact aAZ _);obtain⟨⟨f0,f1,hz,_⟩,_,⟨a,b,ug⟩,⟨o1,g1,_⟩,⟨o2,g2,_⟩,_⟩:=id jr;have hTo:T∉[z,TO,i1,i2,S]:=by simp only[aAe,aAG,or_false,not_or];exact⟨Tne _ _ hz,Tne _ _ ug,Tne _ _ g1,Tne _ _ g2,Tne _ _ hS⟩
  show wpAny _ A.in1 (updateSeq S (·.push (.ref T))>>=_) _ _ _;refine aAa ?_;have vg:∀b o,b≠S->h'.get? b=some o->(h'.update S (aBD (·.push (.ref T)))).get? b=some o:=λb o hb e=>(aAB _ _<|aCm hb).trans e;have neS:∀b,b∈[z,TI,TO,i1,i2,l1,l2]->b≠S:=λb hb q=>qg (q▸hb);refine aBT jm rfl (aAb ⟨aBQ aCR _,ih (i+1) _ (acc.push<|.ref T) _ (by lia) ar (λb o hb e=>vg b o (λq=>hb (by simp[q])) (kp b o (to5 b hb)<|h0k b o hb e)) (me.keeps λb o hb e=>vg b o (neS b hb) e) (aBf _ jm rfl) ⟨by rw[Array.size_push,gi.1],λj v hv=>?_⟩ λh'' jt c' kp' xg hacc'=>?_⟩)
   (by rw[gi.1];lia) (by show(acc.push<|.ref T).size<=sizeLine+1;rw[Array.size_push,gi.1];lia)
  ·rw[Array.getElem?_push]at hv;split at hv
   ·rename_i q;cases hv;rw[gi.1]at q;subst q;refine⟨T,x,y,rfl,hx,hy,vg T _ (Tne _ _ hS) hP,hTo,?_⟩;cases q0:h0.get? T with
    |none=>rfl
    |some o=>exact absurd rfl (Tne T o<|h0k T o hTo q0)
   ·obtain⟨T',x',y',e1,e2,e3,e4,e5,e6⟩:=gi.2 j v hv;have n5:T'≠S:=λq=>e5 (by simp[q]);exact⟨T',x',y',e1,e2,e3,vg T' _ n5 (kp T' _ (to5 T' e5) e4),e5,e6⟩
  ·refine hR h'' jt c' (λb o hb e=>kp' b o hb (vg b o (λq=>hb (by simp[q]))<|kp b o (to5 b hb) e)) xg hacc'
end
section
def bH {Q:C5}(St:Heap->Prop)(hT:∀s1:Shared,St s1.heap->s1.TypeIs (.ref I) T)(fr:∀h h',St h->(∀b o,b≠s.heap.objs.size->h.get? b=some o->h'.get? b=some o)->St h')(hIS:I≠s.heap.objs.size)
  (n1:(aCj T==aCj "list")=false) (n2:(aCj T==aCj "tuple")=false) (n3:∀{M:Model} {A:Around} {E:C5} {s:Shared} {Q:Fin->Shared->Prop} {a b:Sem Fin},(room=true->wpAny M A a Q E s)->(room=false->wpAny M A b Q E s)->wpAny M A (if(room||["set", "frozenset", "dict", "dict_keys", "dict_values", "dict_items"].any (aCj T==aCj ·))=true then a else b) Q E s)
  (self:∀(s1:Shared) (Q:C5) (E:C5),St s1.heap->Q (.ref I) s1->wpAny (model prog w) A.in1.in1 (pyIter (.ref I)) Q E s1)
  (hint:∀(s1:Shared) (Q:rZ) (E:C5),St s1.heap->Q room s1->wpAny (model prog w) A.in1.in1 (aCw (.ref I)) Q E s1) (jr:St s.heap)
  (loop:∀(h1:Heap) (c:Nat) (R:Result->Shared->Prop),(∀b o,s.heap.get? b=some o->h1.get? b=some o)->St h1->h1.get? s.heap.objs.size=some {cls:=.type "list",dict:=none,data:=.seq #[] c,slots:=#[]}->(∀s',Q (.ref s.heap.objs.size) s'->R (.ok (.ret .none)) s')->
   codeAny (model prog w) A.in1 (.builtin "list.extend.loop" ⟨[.ref s.heap.objs.size,.ref I,.none],[]⟩) R {s with heap:=h1}):
  wpAny (model prog w) A (call (.type "list") [.ref I]) Q E s:=by
 refine callType_codes (Q₁:=λobj ah=>obj=.ref s.heap.objs.size/\ah={s with heap:=s.heap.push {cls:=.type "list",data:=.seq #[]}}) F.called_list (F.typeCall_list_1 _) F.entry_list_init
  (code_list_new _ ⟨rfl,rfl⟩) λobj ah h₁=>?_
 obtain⟨rfl,rfl⟩:=h₁;have hS:(s.heap.push {cls:=.type "list",data:=.seq #[]}).get? s.heap.objs.size=some {cls:=.type "list",data:=.seq #[]}:=aAn _ rfl;have ks:∀b o,s.heap.get? b=some o->b≠s.heap.objs.size:=λb o e=>aAi (aAf e);refine⟨⟨_,hS,rfl⟩,F.args_list_init_2 _ _,?_⟩;show wpAny _ A.in1.in1 (do let old<-aCz (.ref s.heap.objs.size);Builtin.List.listUpdate (.ref s.heap.objs.size) (λ_=>#[]);letGo old.toList.reverse;aBS (.ref s.heap.objs.size) (.ref I) .none) _ _ _;refine aAa ?_;unfold aCz;refine aAa (aBH hS rfl<|aAb ?_);show wpAny _ A.in1.in1 (updateSeq s.heap.objs.size (λ_=>#[])>>=λ_=>letGo (#[]:Array Value).toList.reverse>>=λ_=>aBS (.ref s.heap.objs.size) (.ref I) .none) _ _ _;refine aAa (aBT hS rfl ?_);have hS3:=aBf (aBD<|λ_=>(#[]:Array Value)) hS rfl;refine aAa (aDN ?_);generalize hh2:(s.heap.push {cls:=.type "list",data:=.seq #[]}).update s.heap.objs.size (aBD<|λ_=>(#[]:Array Value))=h2 at*
 have k2:∀b o,s.heap.get? b=some o->h2.get? b=some o:=λb o e=>by rw[<-hh2];exact(aAB _ _<|aCm<|ks b o e).trans (aAc _ e)
 have mf:St h2:=fr s.heap h2 jr λb o _ e=>k2 b o e;have hSI:aCO (.ref s.heap.objs.size) (.ref I)=false:=by simp[aCO,aCm hIS]
 have hT2:Shared.TypeIs {s with heap:=h2} (.ref I) T:=hT {s with heap:=h2} mf;unfold aBS;refine aAa (aDy hT2 ?_);simp only[hSI,n1,n2,Bool.or_false,aAq,if_false];refine aAa (self _ _ _ mf ?_);refine aAa (aAJ<|hint _ _ _ mf ?_);refine n3 (λ_=>?_) (λ_=>?_)
 ·show wpAny _ A.in1.in1 (rule "list.extend.makes-room">>=λ_=>aFn (.ref s.heap.objs.size)>>=λ_=>again (.builtin "list.extend.loop" ⟨[.ref s.heap.objs.size,.ref I,.none],[]⟩)) _ _ _;refine aAa (aDz ?_);refine aAa ?_;show wpAny _ A.in1.in1 (updateSeq s.heap.objs.size (·.push .none)>>=λ_=>updateSeq s.heap.objs.size (·.pop)) _ _ _;refine aAa (aBT hS3 rfl ?_);have hS5:=aBf (aBD (·.push Value.none)) hS3 rfl;refine aBT (hz:=by seq_fits) hS5 rfl ?_;have hS6:=aBf (aBD (·.pop)) hS5 rfl;have vg:∀b o,b≠s.heap.objs.size->h2.get? b=some o->((h2.update s.heap.objs.size (aBD (·.push Value.none))).update s.heap.objs.size (aBD (·.pop))).get? b=some o:=
   λb o hb e=>(aAB _ _<|aCm hb).trans ((aAB _ _<|aCm hb).trans e)
  exact aAb ⟨aBQ aCR _,loop _ _ _ (λb o e=>vg b o (ks b o e) (k2 b o e)) (fr h2 _ mf vg) hS6 λs' q=>⟨rfl,q⟩⟩
 ·exact aAb ⟨aBQ aCR _,loop _ _ _ k2 mf hS3 λs' q=>⟨rfl,q⟩⟩
def EA:typeLookup (.type "zip") "__len__"=pure none:=by rw[aDg,aCh];kernel_rfl
def yU:typeLookup (.type "zip") "__length_hint__"=pure none:=by rw[aDg,aCh];kernel_rfl
def EW {Q:C5}(hh:A.handled=none)(D:ZipApart z TI TO i1 i2 l1 l2)(hl:xs.size=ys.size)(hn:xs.size<=sizeLine)(st:IE z TI TO i1 i2 l1 l2 xs ys 0 s.heap)(hQ:∀h' acc c,(∀b o,b∉[z,TO,i1,i2]->s.heap.get? b=some o->h'.get? b=some o)->h'.get? s.heap.objs.size=some {cls:=.type "list",dict:=none,data:=.seq acc c,slots:=#[]}->Pairs s.heap xs ys acc xs.size h' [z,TO,i1,i2,s.heap.objs.size]->Q (.ref s.heap.objs.size) {s with heap:=h'}):
  wpAny (model prog w) A (call (.type "list") [.ref z]) Q E s:=by
 have lt:∀b∈[z,TI,TO,i1,i2,l1,l2],b≠s.heap.objs.size:=λb hb=>by
  obtain⟨⟨f0,f1,hz,_⟩,vh,⟨a,b',ug⟩,⟨o1,g1,_⟩,⟨o2,g2,_⟩,⟨o3,g3,_⟩,⟨o4,g4,_⟩⟩:=st;simp only[aAe,aAG,or_false]at hb;rcases hb with rfl|rfl|rfl|rfl|rfl|rfl|rfl
  ·exact aAi (aAf hz)
  ·exact aAi (aAf vh)
  ·exact aAi (aAf ug)
  ·exact aAi (aAf g1)
  ·exact aAi (aAf g2)
  ·exact aAi (aAf g3)
  ·exact aAi (aAf g4)
 refine bH (T:= "zip") (room:=true) (IE z TI TO i1 i2 l1 l2 xs ys 0) (λs1 h=>h.type) (λh h' x k=>x.keeps λb o hb e=>k b o (lt b hb) e) (lt z (by simp)) (by decide) (by decide) (λh1 h2=>by rw[if_pos (by decide)];exact h1 rfl)
  (λs1 Q E x q=>?_) (λs1 Q E x q=>?_) st λh1 c R k1 st1 hS hR=>?_
 ·obtain⟨⟨f0,f1,hz,_⟩,_⟩:=id x;refine aEU x.type F.slot_zip_iter (aBk F.slot_zip_iter x.type F.entry_zip_iter ?_ (F.args_zip_iter_1 _));show wpAny _ _ (ret<|.ref z) _ _ s1;exact aAb ⟨_,rfl, "zip",_,x.type,aDI.lookup,q⟩
 ·unfold aCw;refine aAa (aBl x.type EA ?_);show wpAny _ _ (specialOf (aCJ z) (aDd "__length_hint__")>>=_) _ _ _;exact aAa (aBl x.type yU<|aAb q)
 ·refine HJ (by simpa using hh) D hl hn s.heap.objs.size (λh=>lt _ h rfl) .none s.heap xs.size 0 _ #[] c (by lia) (aAW _) (λb o _ e=>k1 b o e) st1 hS ⟨rfl,λj v h=>by simp at h⟩ λh' jt c' kp jm hP=>hR _ (hQ h' jt c' (λb o hb e=>kp b o ?_ (k1 b o e)) jm hP);have:=aAi (aAf e);simp only[aAe,aAG,or_false,not_or]at hb⊢;exact⟨hb.1,hb.2.1,hb.2.2.1,hb.2.2.2,this⟩
def CZ:typeLookup (.type "list_reverseiterator") "__len__"=pure none:=by rw[aDg,aCh];kernel_rfl
def GP:typeLookup (.type "list_reverseiterator") "__length_hint__"=pure (some (.builtin "list_reverseiterator.__length_hint__")):=by rw[aDg,aCh];kernel_rfl
def GG {Q:C5}(hh:A.handled=none)(bf:l≠r)(hn:xs.size<=sizeLine)(hr:s.heap.IsRevIter r l ((xs.size:Int)-1))(hl:s.heap.IsList l xs)(hQ:∀h' tk c,(∀b o,b≠r->s.heap.get? b=some o->h'.get? b=some o)->h'.get? s.heap.objs.size=some {cls:=.type "list",dict:=none,data:=.seq xs.reverse c,slots:=#[]}->Q (.ref s.heap.objs.size) {s with heap:=h',toks:=tk}):
  wpAny (model prog w) A (call (.type "list") [.ref r]) Q E s:=by
 have lr:r≠s.heap.objs.size:=by obtain⟨o,g,_⟩:=hr;exact aAi (aAf g)
 have ll:l≠s.heap.objs.size:=by obtain⟨o,g,_⟩:=hl;exact aAi (aAf g)
 refine bH (T:= "list_reverseiterator") (room:=false) (λh=>h.IsRevIter r l ((xs.size:Int)-1)/\h.IsList l xs) (λs1 h=>h.1.typeIs) (λh h' x k=>⟨x.1.at λo e=>k r o lr e,x.2.at λo e=>k l o ll e⟩) lr (by decide) (by decide)
  (λh1 h2=>by rw[if_neg (by decide)];exact h2 rfl) (λs1 Q E x q=>wpAny_pyIter_revIter x.1 q) (λs1 Q E x q=>?_) ⟨hr,hl⟩ λh1 c R k1 st1 hS hR=>?_
 ·have hT:=x.1.typeIs;unfold aCw;refine aAa (aBl hT CZ ?_);show wpAny _ _ (specialOf (aCJ r) (aDd "__length_hint__")>>=_) _ _ _;refine aAa (aBl hT GP ?_)
  (generalize hid:("list_reverseiterator.__length_hint__":String)=id0;(fail_if_success (clear hid id0));wp_delta;rw[show splitId id0=some ("list_reverseiterator", "__length_hint__")from by subst hid;decide+kernel];subst hid)
  refine aAa (aDv (b:=true) hT (by rw[aEI];kernel_rfl) ?_);exact aAb q
 ·have W:=(Walks.listRev (prog:=prog) (w:=w) (A:=A.in1.in1) (by simp[hh]) r l bf xs).toS;refine codeAny_extend_loopS W hn s.heap.objs.size (by simp only[aAe,aAG,or_false,not_or];exact⟨aCm lr,aCm ll⟩) .none xs.size 0 _ #[] c (by lia) (aAW _) ⟨aAW _,by simpa using st1.1,st1.2⟩ hS (ItemsOf.nil _) λs' jt c' hm jm gi=>hR _ ?_;have ea:jt=xs.reverse:=by
   apply Array.ext';apply aET;intro i;rw[aAA,aAA];by_cases hi:i<xs.size
   ·have ze:i<jt.size:=by rw[gi.1];exact hi
    have:=gi.2 i _ (aAE ze);rw[aAE ze,Array.getElem?_reverse hi,this]
   ·rw[aCy (by rw[gi.1];lia),aCy (by simp;lia)]
  subst ea;have g0:s'.gens=s.gens:=hm.gens;have d0:s'.drawn=s.drawn:=hm.drawn;have o0:s'.os=s.os:=hm.os;obtain⟨h',g',d',yf,os'⟩:=s';subst g0 d0 o0;refine hQ h' yf c' (λb o hb e=>?_) jm;exact hm.heap b o (by simp only[aAe,aAG,or_false,not_or];exact⟨aAi (aAf e),hb⟩) (k1 b o e)
end
end SZ
namespace DL
open PySem PySem.Spec L2
open PyProof.Rows hiding St
variable [Tabs]
def JG (P:Program)(w:World):GS:=λouter H s E e s'=>∃(a:Addr) (cls a0:Value) (B:Heap) (H':Hp),e=.ref a/\s'.os=s.os/\AllBare s'.gens/\Heap.FlyingW B outer a cls a0 s'.heap/\
 Un (T3 outer) [] H H' s.heap s'.heap/\W7 P w H' s'.heap/\(∀b o,s.heap.get? b=some o->H b=none->b∉T3 outer->B.get? b=some o)/\
 (∀b o,s.heap.get? b=some o->b∉T3 outer->∃u,B.get? b=some u)/\(∀b u,H' b=some u->∃o,B.get? b=some o)/\E cls none H'
structure LeavesBy (X:Cx)(E:XK):Prop where
 xe:∀e s',wpAny (model X.prog X.w) X.A (leaving X.env e) (λ_ s''=>JG X.prog X.w X.outer X.Ha X.se E e s'') (λe' s''=>JG X.prog X.w X.outer X.Ha X.se E e' s'') s'->X.xe e s'
 stk:X.stack=X.env::X.outer
 fr:X.env.frame=some X.env.locals
 ex:X.ex=[]
def _root_.L2.ObjOk.live (x:ObjOk P w H h a o):h.get? a≠none:=by
 intro z;have key:∀{u:Obj},h.get? a=some u->False:=λq=>by rw[z]at q;cases q
 cases o with
 |lst xs=>obtain⟨_,_,_,_,e⟩:=x;exact key e
 |tup xs=>obtain⟨_,_,_,o,e,_⟩:=x;exact key e
 |dK kvs=>obtain⟨_,_,_,_,o,_,_,e,_⟩:=x;exact key e
 |dT kvs=>obtain⟨_,_,_,_,o,_,_,e,_⟩:=x;exact key e
 |set S n=>obtain⟨o,_,_,_,e,_⟩:=x;exact key e
 |ins C dx fs=>obtain⟨_,_,_,e,_⟩:=x;exact key e
 |own y=>obtain⟨_,e⟩:=x;exact key e
 |xd fs=>obtain⟨_,⟨_,_,_,e,_⟩,_⟩:=x;exact key e
 |rng lo hi=>obtain⟨_,_,_,e⟩:=x;exact key e
 |frz ob u=>obtain⟨e,_⟩:=x;exact key e
 |tbl tb=>obtain⟨_,e,_⟩:=x;exact key e
 |met f y=>exact key (show h.get? a=some _ from x)
 |ext φ=>obtain⟨_,⟨_,e⟩,_⟩:=x;exact key e
def W7.over {P:Program}{w:World}{H:Hp}{h h' B:Heap}(x:W7 P w H h)(b1:B.StaysIn h)(b2:B.StaysIn h')(t:∀b u,H b=some u->∃o,B.get? b=some o):W7 P w H h':=λa o e=>
 (x a o e).ab7 (λb u hb q=>by
  have:∃o,B.get? b=some o:=by
   rcases hb with rfl|hb
   ·exact t _ _ e
   ·exact t _ _ hb
  obtain⟨o',z⟩:=this;have:=b1 b o' z;rw[q]at this;cases this;exact b2 b _ z) (λ_ q=>q) λ_ _ _ q=>q
section
def yZ (L:LeavesBy X E):T3 X.stack=X.env.locals::T3 X.outer:=by rw[L.stk];unfold T3;rw[aBY,L.fr]
def zQ (L:LeavesBy X E)(I:Inv X pins σ H s){h2 h3 B:Heap}(U:Un (T3 X.stack) [] H H' s.heap h2)(k:W7 X.prog X.w H' h2)(b2:B.StaysIn h2)(b3:B.StaysIn h3)(us:h2.UpToSlots h3)
  (c1:∀b o,s.heap.get? b=some o->H b=none->b∉T3 X.stack->B.get? b=some o) (c2:∀b o,s.heap.get? b=some o->b∉T3 X.stack->∃u,B.get? b=some u) (c3:∀b u,H' b=some u->∃o,B.get? b=some o):
  Un (T3 X.outer) [] X.Ha H' X.se.heap h3/\W7 X.prog X.w H' h3/\(∀b o,X.se.heap.get? b=some o->X.Ha b=none->b∉T3 X.outer->B.get? b=some o)/\
   (∀b o,X.se.heap.get? b=some o->b∉T3 X.outer->∃u,B.get? b=some u):=by
 have U0:Un (T3 X.outer) [] X.Ha H X.se.heap s.heap:=by have:=I.base;rw[L.ex]at this;exact this
 have nx:∀b:Addr,b∉([]:List Addr):=λb=>aAG;have ns:∀b o,X.se.heap.get? b=some o->b∉T3 X.outer->b∉T3 X.stack:=λb o q n=>by
  rw[yZ L];intro z;rcases aAe.mp z with z|z
  ·exact absurd (aAf q) (Nat.not_lt_of_le (by rw[z];exact I.ok.above))
  ·exact n z
 have d1:∀b o,X.se.heap.get? b=some o->X.Ha b=none->b∉T3 X.outer->B.get? b=some o:=λb o q n hb=>c1 b o (U0.keep b o q n hb<|nx b) (U0.free b o q n<|nx b) (ns b o q hb);have d2:∀b o,X.se.heap.get? b=some o->b∉T3 X.outer->∃u,B.get? b=some u:=λb o q hb=>by obtain⟨o',q'⟩:=U0.there b o q (nx b);exact c2 b o' q' (ns b o q hb)
 have sl:∀b o,X.se.heap.get? b=some o->b∈T3 X.outer->∃sl,h3.get? b=some {o with slots:=sl}:=λb o q hb=>by have n:=I.ok.frf b hb;obtain⟨_,o',ho,hd⟩:=I.ok.funs.mem hb;rw[q]at ho;cases ho;obtain⟨s1,e1⟩:=U0.slot b o q n hb (nx b);obtain⟨s2,e2⟩:=U.slot b _ e1 (U0.free b o q n<|nx b) (by rw[yZ L];exact aAd _ hb) (nx b);obtain⟨s3,e3⟩:=us b _ e2 hd;exact⟨s3,e3⟩
 refine⟨⟨λb o q n hb _=>b3 b o (d1 b o q n hb),λb o q n hb _=>sl b o q hb,λb o q n _=>?_,λb o q _=>?_,λb xs q=>U.tups b xs (U0.tups b xs q),λb o u q=>U.frzs b o u (U0.frzs b o u q),λb ps q=>?_⟩,W7.over k b2 b3 c3,d1,d2⟩
 ·obtain⟨o',q'⟩:=U0.there b o q (nx b);exact U.free b o' q' (U0.free b o q n<|nx b) (nx b)
 ·by_cases hb:b∈T3 X.outer
  ·obtain⟨s3,e3⟩:=sl b o q hb;exact⟨_,e3⟩
  ·obtain⟨u,z⟩:=d2 b o q hb;exact⟨u,b3 b u z⟩
 ·exact U.tbls b ps (U0.tbls b ps q)
def IY (L:LeavesBy X E):mJ (JG X.prog X.w) X E:=λpins σ H s e s' I ⟨a,cls,a0,B,H',e1,os,bare,fl,U,k,c1,c2,c3,w⟩=>by subst e1;refine L.xe _ _ (wpAny_leaves_onW (by rw[I.ok.frames,L.stk]) L.fr (by rw[<-L.stk];exact fl) λh' fl' us=>?_);obtain⟨q1,q2,q3,q4⟩:=zQ L I U k fl.1 fl'.1 us c1 c2 c3;exact⟨a,cls,a0,B,H',rfl,os.trans I.os,bare,fl',q1,q2,q3,q4,c3,w⟩
def EG (L:LeavesBy X E)(I:Inv X pins σ H s){h':Heap}{e:Addr}{cls:Value}{args:List Value}(hx:Heap.MadeExcOf s.heap h' e cls args)(w:E cls none H):X.xe (.ref e) {s with heap:=h'}:=by
 have ff:s.heap.FunFrames (PySem.W.hideAll s.heap<|T3 X.stack) X.stack:=PySem.W.funFrames_hide I.stack λenv he b hb=>aBC.mpr ⟨env,he,hb⟩;have st:(PySem.W.hideAll s.heap<|T3 X.stack).StaysIn s.heap:=λb o q=>PySem.W.of_hideAll _ q;refine L.xe _ _ (wpAny_leaves_madeW (base:=PySem.W.hideAll s.heap (T3 X.stack)) (h:=s.heap) (by rw[I.ok.frames,L.stk]) L.fr st (by rw[<-L.stk];exact ff) hx λh'' t fl _ _ us=>?_);have c3:∀b u,H b=some u->∃o,(PySem.W.hideAll s.heap<|T3 X.stack).get? b=some o:=λb u q=>by
  have hn:b∉T3 X.stack:=λz=>by rw[I.ab8 b z]at q;cases q
  have:∃o,s.heap.get? b=some o:=by
   cases z:s.heap.get? b with
   |some o=>exact⟨o,rfl⟩
   |none=>exact absurd z (I.hok b u q).live
  obtain⟨o,z⟩:=this;exact⟨o,PySem.W.hideAll_get _ z hn⟩
 obtain⟨q1,q2,q3,q4⟩:=zQ (H':=H) L I Un.refl I.hok st fl.1 ((Heap.UpToSlots.of_keeps hx.keeps).trans us) (λb o q _ n=>PySem.W.hideAll_get _ q n) (λb o q n=>⟨o,PySem.W.hideAll_get _ q n⟩) c3;exact⟨e,cls,.ref t,_,H,rfl,I.os,I.bare,fl,q1,q2,q3,q4,c3,w⟩
end
end DL
namespace DL
open PySem PySem.Spec L2
open PyProof.Rows hiding St
variable [Tabs]
section
def VE:D->R (List D)
 |.lst xs=>.ok xs.reverse
 |_=>.bad
def xF (ha:PB X e f)(hh:X.calm=true)(hg:Gl X "reversed":=by rfl)(hm:X.mg "reversed"=none:=by assumption)(hg2:Gl X "list":=by rfl)(lu:X.mg "list"=none:=by assumption)(hv:bootBuiltins "reversed"=some (.type "reversed"):=by decide+kernel)(hv2:bootBuiltins "list"=some (.type "list"):=by decide+kernel)(he:starEach [e] X.env=(false,eval e X.env)::starEach [] X.env:=by rfl)(br:(backTo ia (starEach [] X.env)).any (·.1)=false:=by rfl)(ju:starEach [.Call (.Name "reversed" p2) [e] [] ia] X.env=(false,eval (.Call (.Name "reversed" p2) [e] [] ia) X.env)::starEach [] X.env:=by rfl)(xi:(backTo pos (starEach [] X.env)).any (·.1)=false:=by rfl)(hnl:backTo pos (starEach [] X.env)=[]:=by rfl):
  PF X (.Call (.Name "list" p) [.Call (.Name "reversed" p2) [e] [] ia] [] pos) (λρ=>(f ρ).bind VE):=by
 refine sF λpins s σ H Q I Ha O0 O ρ E q=>?_;dsimp only at q;refine aAM (P3 I hg2 lu hv2 ?_ (by decide) (by decide));refine aBc ?_ ju xi;rw[ju];show wpAny _ _ (spliced ((false,eval (.Call (.Name "reversed" p2) [e] [] ia) X.env)::backTo pos (starEach [] X.env))) _ _ s;refine aDB (aAM (P3 I hg hm hv ?_ (by decide) (by decide)));have qu:PA X [e] _:=K1 ha aY he;refine aBc (C4 (qu ia pins s σ H (λvs H1=>∃v ds,vs=[v]/\f ρ=.ok (.lst ds)/\Same H H1/\A8 X.K H1 O v (.lst ds)) I ⟨Ha,O0,O,ρ,E,?_⟩) λus s1 ⟨vs,H1,I1,r1,v,ds,ev,ef,sm,rb⟩=>?_) he br
 ·cases e1:f ρ with
  |ex z=>rw[e1]at q;exact q
  |bad=>rw[e1]at q;exact q.elim
  |ok d=>
   rw[e1,R.aa0]at q;cases d with
   |lst ds=>exactλv H1 s1 r1=>⟨v,ds,rfl,rfl,s1,r1⟩
   |_=>exact aAh q
 ·subst ev;rw[ef,R.aa0]at q;obtain⟨a,ws,rfl,hS,rr⟩:=rb.aa7;obtain⟨u,rfl,ru⟩:=vals1 r1;cases ru;obtain⟨its,rv,⟨oL,nL,gL,cL,dL,sL⟩,zL⟩:=I1.list hS;have hl:s1.heap.IsList a its.toArray:=⟨oL,gL,cL,nL,sL⟩;refine call_reversed_list hl ?_;rw[hnl];refine aEN ?_;have ge:a≠s1.heap.objs.size:=aAi (aAf gL);have I2:=I1.kept (h':=s1.heap.push (revObj a<|(its.toArray.size:Int)-1)) (t':=s1.toks) λb u e=>aAc _ e;refine SZ.GG (s:={s1 with heap:=s1.heap.push (revObj a<|(its.toArray.size:Int)-1)}) (I1.ok.hd hh) ge (by rw[aAm,<-rv.length];exact zL) ⟨_,aAn _ rfl,rfl,rfl⟩ (hl.push _) λh' tk c kp gl=>?_;have kk:∀b u,s1.heap.get? b=some u->h'.get? b=some u:=λb u e=>kp b u (aAi<|aAf e) (aAc _ e);have hle:s1.heap.objs.size<=(s1.heap.push<|revObj a<|(its.toArray.size:Int)-1).objs.size:=by rw[aBn];lia
  have vrev:m6 ws.reverse its.reverse:=by
   have:∀{vs:List V} {us:List Value},m6 vs us->m6 vs.reverse us.reverse:=λ{vs us} r=>by
    induction r with
    |nil=>exact .nil
    |cons r t ih=>rw[aAO,aAO];exact ih.append (.cons r .nil)
   exact this rv
  have I3:=I1.laid (a:=(s1.heap.push<|revObj a<|(its.toArray.size:Int)-1).objs.size) (o:=.lst ws.reverse) (h':=h') (t':=tk) kk hle ⟨by rw[aCx];exact zL,its.reverse,c,vrev,by rw[gl];simp⟩;exact⟨.ref _,_,I3,rfl,q ws.reverse H1 _ sm (I1.hok.fresh hle) rr.reverse⟩
def _root_.L2.Inv.ad8 (I:Inv X pins σ H s)(k:∀b u,s.heap.get? b=some u->h'.get? b=some u)(sm:Same H Hn)(ki:∀b u,H b=none->Hn b=some u->s.heap.get? b=none/\ObjOk X.prog X.w Hn h' b u):
  Inv X pins σ Hn {s with heap:=h',toks:=t'}:=by
 refine I.un ⟨λb o e _ _ _=>k b o e,λb o e _ _ _=>⟨o.slots,k b o e⟩,λb o e n _=>?_,λb o e _=>⟨o,k b o e⟩,λb xs e=>sm _ _ e,λb o u e=>sm _ _ e,λb tb e=>sm _ _ e⟩ λb u e=>?_
 ·cases q:Hn b with
  |none=>rfl
  |some u=>rw[(ki b u n q).1]at e;cases e
 ·cases q:H b with
  |none=>exact(ki b u q e).2
  |some u'=>have:=sm b u' q;rw[e]at this;cases this;exact(I.hok b u q).ab7 (λc v _ z=>k c v z) (λc z=>sm _ _ z) λc u _ z=>sm _ _ z
def gH (xs ys:List D):List D:=List.zipWith (λa b=>D.tup [a,b]) xs ys
def LA:List D->R (List D)
 |[.lst xs,.lst ys]=>if xs.length=ys.length then .ok (gH xs ys)else .bad
 |_=>.bad
def BQ {K:PySem.W.Frag}{H1:Hp}{O:Addr->Prop}{h0 h':Heap}{l:Addr}(hf:∀b,h0.get? b=none->H1 b=none):∀{xs ys:List D} {ux uy acc:List Value},w5 K H1 O ux xs->w5 K H1 O uy ys->xs.length=ys.length->
  (∀(j:Nat) (v:Value),acc[j]?=some v->∃T x y,v=.ref T/\ux[j]?=some x/\uy[j]?=some y/\IsPair h' T x y/\T≠l/\h0.get? T=none)->acc.length=xs.length->
  ∃(vs:List V) (Hn:Hp),m6 vs acc/\Same H1 Hn/\(∀b u,H1 b=none->Hn b=some u->h0.get? b=none/\b≠l/\∃ws its,u=.tup ws/\ws.length<=2/\m6 ws its/\IsTup h' b its.toArray)/\Reps K Hn O vs (gH xs ys):=by
 intro xs ys ux uy acc;induction acc generalizing xs ys ux uy with
 |nil=>
  intro sx sy hl _ hz;cases xs with
  |nil=>cases ys with
   |nil=>exact⟨[],H1,.nil,Same.refl _,λb u n q=>(by rw[n]at q;cases q),.nil⟩
   |cons _ _=>cases hl
  |cons _ _=>cases hz
 |cons v acc ih=>
  intro sx sy hl hP hz;cases sx with
  |nil=>cases hz
  |@cons u d ux xs rx sx=>
   cases sy with
   |nil=>cases hl
   |@cons u' d' uy ys ry sy=>
    obtain⟨T,x,y,rfl,ex,ey,hp,nl,h0T⟩:=hP 0 v rfl;cases ex;cases ey;obtain⟨vs,Hn,r1,sm,ki,rr⟩:=ih sx sy (by simpa using hl) (λj v hj=>by obtain⟨T,x,y,e1,e2,e3,e4⟩:=hP (j+1) v (by simpa using hj);exact⟨T,x,y,e1,by simpa using e2,by simpa using e3,e4⟩) (by simpa using hz)
    obtain⟨vx,rvx,repx⟩:=rx;obtain⟨vy,rvy,repy⟩:=ry;have v2:m6 [vx,vy] [u,u']:=.cons rvx (.cons rvy .nil);cases q:Hn T with
    |none=>
     have s2:Same Hn (upd Hn T<|.tup [vx,vy]):=i5 q _;refine⟨.ref T::vs,upd Hn T (.tup [vx,vy]),.cons rfl r1,sm.trans s2,λb w n qb=>?_,.cons (.tup (V9.of i4) (.cons ((repx.same sm).same s2) (.cons ((repy.same sm).same s2) .nil))) (rr.same s2)⟩;by_cases hb:b=T
     ·subst hb;rw[i4]at qb;cases qb;exact⟨h0T,nl,_,_,rfl,by simp,v2,⟨_,hp,rfl,0,rfl⟩⟩
     ·rw[j7 hb]at qb;exact ki b w n qb
    |some w=>
     obtain⟨_,_,ws,its,rfl,_,vw,⟨o,g,_,n,dd⟩⟩:=ki T w (hf T h0T) q;have wu:h'.get? T=some {cls:=.type "tuple",data:=.seq #[u,u']}:=hp;rw[wu]at g;cases g;have e2:its=[u,u']:=by have:=congrArg (λd=>match d with|Data.seq a _=>a.toList|_=>[]) dd;simpa using this.symm
     subst e2;have:ws=[vx,vy]:=vw.inj v2;subst this;exact⟨.ref T::vs,Hn,.cons rfl r1,sm,ki,.cons (.tup (V9.of q) (.cons (repx.same sm) (.cons (repy.same sm) .nil))) rr⟩
def yS {e1 e2:Expr}{p p2 ia:Pos}{f1 f2:Ev->R D}(ha1:PB X e1 f1)(ha2:PB X e2 f2)(hh:X.calm=true)(hg:Gl X "zip":=by rfl)(hm:X.mg "zip"=none:=by assumption)(hg2:Gl X "list":=by rfl)(lu:X.mg "list"=none:=by assumption)
  (hv:bootBuiltins "zip"=some (.type "zip"):=by decide+kernel) (hv2:bootBuiltins "list"=some (.type "list"):=by decide+kernel)
  (he1:starEach [e2] X.env=(false,eval e2 X.env)::starEach [] X.env:=by rfl) (he:starEach [e1,e2] X.env=(false,eval e1 X.env)::starEach [e2] X.env:=by rfl) (br:(backTo ia (starEach [e2] X.env)).any (·.1)=false:=by rfl)
  (ju:starEach [.Call (.Name "zip" p2) [e1,e2] [] ia] X.env=(false,eval (.Call (.Name "zip" p2) [e1,e2] [] ia) X.env)::starEach [] X.env:=by rfl) (xi:(backTo pos (starEach [] X.env)).any (·.1)=false:=by rfl) (hnl:backTo pos (starEach [] X.env)=[]:=by rfl):
  PF X (.Call (.Name "list" p) [.Call (.Name "zip" p2) [e1,e2] [] ia] [] pos) (λρ=>(p5 f1 (p5 f2 U5) ρ).bind LA):=by
 refine sF λpins s σ H Q I Ha O0 O ρ E q=>?_;dsimp only at q;refine aAM (P3 I hg2 lu hv2 ?_ (by decide) (by decide));refine aBc ?_ ju xi;rw[ju];show wpAny _ _ (spliced ((false,eval (.Call (.Name "zip" p2) [e1,e2] [] ia) X.env)::backTo pos (starEach [] X.env))) _ _ s;refine aDB (aAM (P3 I hg hm hv ?_ (by decide) (by decide)));have qu:QH X [e1,e2] (p5 f1<|p5 f2 U5):=v6 ha1 (v6 ha2 F6 he1) he;refine aBc (C4 (qu ia pins s σ H (λvs H1=>∃v1 v2 xs ys,vs=[v1,v2]/\p5 f1 (p5 f2 U5) ρ=.ok [.lst xs,.lst ys]/\xs.length=ys.length/\Same H H1/\A8 X.K H1 O v1 (.lst xs)/\A8 X.K H1 O v2 (.lst ys)) I ⟨Ha,O0,O,ρ,E,?_⟩) λus s1 ⟨vs,H1,I1,r1,v1,v2,xs,ys,ev,ef,hxy,sm,rb1,rb2⟩=>?_) he br
 ·cases e1:p5 f1 (p5 f2 U5) ρ with
  |ex z=>rw[e1]at q;exact q
  |bad=>rw[e1]at q;exact q.elim
  |ok ds=>
   rw[e1,R.aa0]at q;match ds,q with
   |[.lst xs,.lst ys],q=>
    simp only[LA]at q;by_cases hc:xs.length=ys.length
    ·intro vs H1 s1 r1;cases r1 with
     |cons ra r1=>cases r1 with
      |cons rb r1=>cases r1 with
       |nil=>exact⟨_,_,xs,ys,rfl,rfl,hc,s1,ra,rb⟩
    ·rw[if_neg hc]at q;exact aAh q
 ·subst ev;rw[ef,R.aa0]at q;simp only[LA]at q;rw[if_pos hxy]at q;obtain⟨a,wx,rfl,hSx,rx⟩:=rb1.aa7;obtain⟨b,wy,rfl,hSy,ry⟩:=rb2.aa7;obtain⟨u1,u2,rfl,ru1,ru2⟩:=vals2 r1;cases ru1;cases ru2;obtain⟨itx,rvx,⟨oX,nX,gX,cX,dX,sX⟩,zX⟩:=I1.list hSx;obtain⟨ity,rvy,⟨oY,nY,gY,cY,dY,sY⟩,zY⟩:=I1.list hSy;have hlx:s1.heap.IsList a itx.toArray:=⟨oX,gX,cX,nX,sX⟩;have hly:s1.heap.IsList b ity.toArray:=⟨oY,gY,cY,nY,sY⟩;refine call_zip_2 hlx hly λh1 z1 z2 z3 z4 z5 zsz k1=>?_;rw[hnl];refine aEN ?_;have lx:itx.length=xs.length:=by rw[<-rvx.length,rx.length]
  have ly:ity.length=ys.length:=by rw[<-rvy.length,ry.length]
  have I2:=I1.kept (h':=h1) (t':=s1.toks) k1;have D:=zipApart_new (n:=s1.heap.objs.size) (aAf gX) (aAf gY);refine SZ.EW (s:={s1 with heap:=h1}) (I1.ok.hd hh) D (by rw[aAm,aAm,lx,ly,hxy]) (by rw[aAm,<-rvx.length];exact zX) ⟨⟨_,_,z1,.inl rfl⟩,z2,⟨_,_,z3⟩,z4,z5,hlx.at λo e=>k1 _ o e,hly.at λo e=>k1 _ o e⟩ λh' acc c kp gl hP=>?_;have k12:∀b u,s1.heap.get? b=some u->h'.get? b=some u:=λb u e=>kp b u (by have hb:=aAf e;simp only[aAe,aAG,or_false,not_or];exact⟨aAi (aAo hb<|aDu _ _),aAi (aAo hb<|aDu _ _),aAi hb,aAi (aAo hb<|aDu _ _)⟩) (k1 b u e)
  have sx:w5 X.K H1 O itx xs:=w5.of rvx rx;have sy:w5 X.K H1 O ity ys:=w5.of rvy ry;obtain⟨vs,Hn,rva,smn,ki,rr⟩:=BQ (h0:=h1) (h':=h') (l:=h1.objs.size) (λb hb=>by
   cases q:H1 b with
   |none=>rfl
   |some u=>exact absurd hb ((I2.hok b u q).live)) (acc:=acc.toList) sx sy hxy (λj v hj=>by
   obtain⟨T,x,y,e1,e2,e3,e4,e5,e6⟩:=hP.2 j v (by rw[<-aAA];exact hj);exact⟨T,x,y,e1,by simpa using e2,by simpa using e3,e4,λz=>e5 (by simp[z]),e6⟩) (by rw[aAU,hP.1,aAm,lx])
  have hls:Hn h1.objs.size=none:=by
   cases q:Hn h1.objs.size with
   |none=>rfl
   |some u=>have:=(ki _ u (I2.hok.fresh<|aAg _) q).2.1;exact absurd rfl this
  have hlen:vs.length<=sizeLine:=by rw[rva.length,aAU,hP.1,aAm,<-rvx.length];exact zX
  have s3:Same Hn (upd Hn h1.objs.size<|.lst vs):=i5 hls _;have I3:=I1.ad8 (Hn:=upd Hn h1.objs.size (.lst vs)) (h':=h') (t':=s1.toks) k12 (smn.trans s3) (λb u n qb=>by
   by_cases hb:b=h1.objs.size
   ·subst hb;rw[i4]at qb;cases qb;refine⟨aEc (by rw[zsz];lia),hlen,acc.toList,c,rva,by rw[gl]⟩
   ·rw[j7 hb]at qb;obtain⟨h0b,_,ws,its,rfl,l2,vw,tt⟩:=ki b u n qb;refine⟨?_,aAx l2 (by decide),its,vw,tt⟩;cases z:s1.heap.get? b with
    |none=>rfl
    |some o=>rw[k1 b o z]at h0b;cases h0b)
  exact⟨.ref _,_,I3,rfl,q vs Hn _ (sm.trans smn) hls rr⟩
end
mutual
def gJ:D->Nat
 |.tup xs=>I0 xs+1
 |_=>1
def I0:List D->Nat
 |[]=>0
 |x::xs=>gJ x+I0 xs
end
theorem bM:∀xs ys:List D,I0 (xs++ys)=I0 xs+I0 ys
 |[],ys=>by simp[I0]
 |x::xs,ys=>by rw[aBm,I0,I0,bM xs ys];lia
section
variable{prog:Program} {w:World}
def ZD (prog:Program)(w:World)(h:Heap)(v:Value)(d:D):Prop:=∀(A:Around) (E:C5) (s:Shared) (Q:Int->Shared->Prop),s.heap=h->A.units+8*E6 d<cLine->Q (m9 d) {s with toks:=s.toks+gJ d}->wpAny (model prog w) A (pyHash v) Q E s
mutual
theorem HK:∀{v:Value} {d:D},HV h v d->ZD prog w h v d
 |_,_,.int i t=>λA E s Q hs hu q=>(intKind prog w).pyHash (k:=i) (intKind_is _ _ _ _) q
 |_,_,.tup (a:=a) (items:=items) (ds:=ds) p r=>λA E s Q hs hu q=>by
  have fs:=AY r;subst hs;obtain⟨o,ho,hc,n,hd⟩:=p;have hT:s.TypeIs (.ref a) "tuple":=⟨o,ho,hc⟩;have hu0:A.units<cLine:=by lia
  rw[E6]at hu;unfold pyHash;first|unfold pyHashByItsType|skip
  first|refine aAa (wpAny_cRoomFor_or (.inr hu0) ?_)|skip
  refine aAa (aBl hT PySem.F.slot_tuple_hash.lookup ?_);show wpAny _ _ (if(some (aDj "tuple.__hash__")==some Value.none)=true then _ else _) Q E s;rw[if_neg (by rw[aFf];exact aAL)];refine aAa (aBl hT PySem.F.slot_tuple_hash.lookup ?_);show wpAny _ _ (callSpecialIfBoundUnlessNone? (.ref a) "__hash__" _>>=_) Q E s;refine aAa (aCZ hT PySem.F.slot_tuple_hash<|aBk PySem.F.slot_tuple_hash hT PySem.F.entry_tuple_hash ?_ (PySem.F.args_tuple_hash_1 _));show wpAny _ _ (aDl (.ref a)>>=_) _ _ s;refine aAa (wpAny_tupleItemsOf ho hd ?_);refine aAa ?_;rw[<-aCl];refine aCn _
   (λrest (b:Array Int) s'=>∃done left,ds=done++left/\Paired (ZD prog w s.heap) rest left/\b.toList=done.map m9/\s'={s with toks:=s.toks+I0 done})
   _ ?_ ?_ _ _ ⟨[],ds,rfl,fs,rfl,rfl⟩
  ·rintro x rest b s' ⟨done,left,e1,hl,hb,rfl⟩;cases hl with
   |@cons _ d _ left' h1 ji=>
    refine aAa (h1 _ _ _ _ rfl ?_ ?_)
    ·have:E6 d<=G3 ds:=by rw[e1];exact qL (j:=done.length) (by simp)
     rw[t7];lia
    have e3:s.toks+I0 done+gJ d=s.toks+I0 (done++[d]):=by rw[bM];simp[I0];lia
    first
     |exact aAb ⟨done++[d],left',by simp[e1],ji,by simp[hb],by rw[<-e3]⟩
     |exact aAa (aAb (aAb ⟨done++[d],left',by simp[e1],ji,by simp[hb],by rw[<-e3]⟩))
  ·rintro b s' ⟨done,left,e1,hl,hb,rfl⟩;cases hl;rw[aBr]at e1;subst e1;show wpAny _ _ (retInt<|aAH b.toList) _ _ _;rw[hb];refine wpAny_ret_mkInt ?_;show wpAny _ _ (if(decide (-(2:Int)^63<=aAH (ds.map m9))&&decide (aAH (ds.map m9)<2^63))=true then _ else _) Q E _;have q':=q;rw[m9,cV,gJ]at q';unfold reduceHash at q';by_cases hr:(decide (-(2:Int)^63<=aAH (ds.map m9))&&decide (aAH (ds.map m9)<2^63))=true
   ·rw[if_pos hr];rw[if_pos hr]at q';exact aAb q'
   ·rw[if_neg hr];rw[if_neg hr]at q';exact aAa (aDz<|aAb q')
theorem AY:∀{v:List Value} {d:List D},HVs h v d->Paired (ZD prog w h) v d
 |_,_,.nil=>.nil
 |_,_,.cons r t=>.cons (HK r) (AY t)
end
end
theorem kB:∀{n:Nat} {d:D},Q3 n d=true->mU d=true/\E6 d<=n
 |n,.int i,_=>⟨rfl,by simp[E6]⟩
 |0,.tup xs,h=>by simp[Q3]at h
 |n+1,.tup xs,h=>by
  have h':xs.all (Q3 n)=true:=by simpa[Q3]using h
  have key:∀ys:List D,ys.all (Q3 n)=true->cU ys=true/\G3 ys<=n:=λys=>by
   induction ys with
   |nil=>intro _;exact⟨rfl,aAW _⟩
   |cons y ys ih=>intro hy;simp only[aFW,aAF]at hy;obtain⟨a1,a2⟩:=kB hy.1;obtain⟨b1,b2⟩:=ih hy.2;exact⟨by show(mU y&&cU ys)=true;rw[a1,b1];rfl,by show max (E6 y) (G3 ys)<=n;lia⟩
  obtain⟨c1,c2⟩:=key xs h';exact⟨c1,by show G3 xs+1<=n+1;lia⟩
 |n,.non,h=>by cases n<;>simp[Q3]at h
 |n,.dct,h=>by cases n<;>simp[Q3]at h
 |n,.bl b,h=>by cases n<;>simp[Q3]at h
 |n,.str x,h=>by cases n<;>simp[Q3]at h
 |n,.lst xs,h=>by cases n<;>simp[Q3]at h
mutual
theorem HV.ac1 (k:∀b o,h.get? b=some o->(∃its n,o.data=.seq its n)->h'.get? b=some o):∀{v:Value} {d:D},HV h v d->HV h' v d
 |_,_,.int i t=>.int i t
 |_,_,.tup p r=>.tup (by obtain⟨o,e,c,n,d⟩:=p;exact⟨o,k _ _ e ⟨_,n,d⟩,c,n,d⟩) (HVs.ac1 k r)
theorem HVs.ac1 (k:∀b o,h.get? b=some o->(∃its n,o.data=.seq its n)->h'.get? b=some o):∀{v:List Value} {d:List D},HVs h v d->HVs h' v d
 |_,_,.nil=>.nil
 |_,_,.cons r t=>.cons (HV.ac1 k r) (HVs.ac1 k t)
end
instance decD:DecidableEq D:=λa b=>aDH _
def oV (prog:Program) (w:World):HeapKind prog w D where
 is:=λh d a=>HV h (.ref a) d/\E6 d<8
 hash:=m9
 draws:=gJ
 room:=λA=>A.units+128<cLine
 inj:=λx y=>HV.inj x.1 y.1
 keeps:=λ{h h' k a d o es ep} x ho hd hs=>⟨x.1.ac1 λb ob e ⟨its,n,q⟩=>(hs.2 b (λz=>by subst z;rw[ho]at e;cases e;rw[hd]at q;cases q)).trans e,x.2⟩
 pyHash:=λ{A E s k a Q} hu hk q=>HK hk.1 A E s Q rfl (by have:=hk.2;lia) q
 eqBool:=λ{A E s x y a b Q} hu hx hy q=>by
  have h1:=AG (A:=A) hx.1 hy.1 (by have:=hx.2;lia);refine h1 prog w E Q ?_;have e:u0 x y=decide (x=y):=by
   by_cases h:x=y
   ·subst h;rw[T0,decide_eq_true rfl]
   ·rw[decide_eq_false h];cases z:u0 x y with
    |false=>rfl
    |true=>exact absurd (fN hx.1.ok hy.1.ok z) h
  rw[e];exact q
 quiet:=λ{A E s k a Q} hk q=>fT 8 hk.1 hk.2 _ A E s Q rfl q
open Classical in
def cG (kvs:List (D×D)) (k v:D):List (D×D):=if k∈kvs.map (·.1)then kvs.map (λp=>if p.1=k then(p.1,v)else p)else kvs++[(k,v)]
def DZ (kvs:List (D×D))(k v:D)(h:(kvs.map (·.1)).Nodup):((cG kvs k v).map (·.1)).Nodup:=by
 unfold cG;split
 ·rw[aCi];have:((λx=>x.1)∘λp:D×D=>if p.1=k then(p.1,v)else p)=λp=>p.1:=by funext p;simp only[Function.comp];split<;>rfl
  rw[this];exact h
 ·rename_i n;rw[aBJ,aCN];refine⟨h,by simp,λa ha b hb=>?_⟩;simp at hb;subst hb;exactλe=>n (e▸ha)
section
theorem AO (I:Inv X pins σ H s):∀{es:List DictEntry} {kvs:List (D×D)},mL X.K H O es kvs->∃xs:List (D×Addr×Value),es=xs.map (entryOfKey (oV X.prog X.w))/\xs.map (·.1)=kvs.map (·.1)/\(∀x∈xs,(oV X.prog X.w).is s.heap x.1 x.2.1)/\
  Paired (λ(x:D×Addr×Value) (p:D×D)=>x.1=p.1/\Rep X.K H O (.ref x.2.1) p.1/\(∃v,RelV v x.2.2/\Rep X.K H O v p.2)/\Q3 7 p.1=true) xs kvs
 |_,_,.nil=>⟨[],rfl,rfl,λx h=>(by cases h),.nil⟩
 |e::_,p::_,.cons ⟨⟨a,e1,r1⟩,r2,e3,k⟩ t=>by
  obtain⟨xs,h1,h2,h3,h4⟩:=AO I t;obtain⟨ok,dp⟩:=kB k;refine⟨(p.1,a,e.val)::xs,?_,by rw[aAs,aAs,h2],λx hx=>?_,.cons ⟨rfl,r1,r2,k⟩ h4⟩
  ·rw[aAs,<-h1];congr 1;obtain⟨hsh,ky,vl⟩:=e;simp only at e1 e3;subst e1 e3;rfl
  ·rcases aAe.mp hx with rfl|hx
   ·exact⟨bC I r1 ok rfl,by show E6 p.1<8;lia⟩
   ·exact h3 x hx
theorem AQ {P:Program}{w:World}{K:PySem.W.Frag}{H:Hp}{O:Addr->Prop}:∀{xs:List (D×Addr×Value)} {kvs:List (D×D)},Paired (λ(x:D×Addr×Value) (p:D×D)=>x.1=p.1/\Rep K H O (.ref x.2.1) p.1/\(∃v,RelV v x.2.2/\Rep K H O v p.2)/\Q3 7 p.1=true) xs kvs->mL K H O (xs.map (entryOfKey (oV P w))) kvs
 |_,_,.nil=>.nil
 |_,_,.cons ⟨e,r1,r2,k⟩ t=>.cons ⟨⟨_,rfl,r1⟩,r2,by rw[<-e];rfl,k⟩ (AQ t)
def Y6 {xs:List (D×Addr×Value)}{k:D}:(atKey xs k).isSome=true↔k∈xs.map (·.1):=by unfold atKey;rw[Option.isSome_map,List.find?_isSome];simp only[decide_eq_true_eq,aAp]
def zU (I:Inv X pins σ H s)(h:H a=some (.ext λh=>h.get? a=some o))(d:KG a o es)(r:mL X.K H O es kvs)(nd:(kvs.map (·.1)).Nodup):
  ∃xs,s.heap.DictOfH (oV X.prog X.w) a xs/\xs.map (·.1)=kvs.map (·.1)/\Paired (λ(x:D×Addr×Value) (p:D×D)=>x.1=p.1/\Rep X.K H O (.ref x.2.1) p.1/\(∃v,RelV v x.2.2/\Rep X.K H O v p.2)/\Q3 7 p.1=true) xs kvs:=by
 obtain⟨xs,h1,h2,h3,h4⟩:=AO I r;obtain⟨_,ex,ea,ep,hd,he⟩:=d;have g:s.heap.get? a=some o:=(I.hok a _ h).1;exact⟨xs,⟨o,ea,ep,g,ex,hd,by rw[he,h1],h3,by rw[h2];exact nd⟩,h2,h4⟩
def DY {K:PySem.W.Frag}{xs:List (D×Addr×Value)}{kvs:List (D×D)}{k d:D}{b:Addr}{u:Value}{v:V}(hp:Paired (λ(x:D×Addr×Value) (p:D×D)=>x.1=p.1/\Rep K H O (.ref x.2.1) p.1/\(∃v,RelV v x.2.2/\Rep K H O v p.2)/\Q3 7 p.1=true) xs kvs)(hk:xs.map (·.1)=kvs.map (·.1))
  (rk:Rep K H O (.ref b) k) (kk:Q3 7 k=true) (ru:RelV v u) (rv:Rep K H O v d):
  Paired (λ(x:D×Addr×Value) (p:D×D)=>x.1=p.1/\Rep K H O (.ref x.2.1) p.1/\(∃v,RelV v x.2.2/\Rep K H O v p.2)/\Q3 7 p.1=true) (storedH xs k b u) (cG kvs k d):=by
 unfold storedH cG;by_cases h:k∈kvs.map (·.1)
 ·rw[if_pos h,if_pos (Y6.mpr (by rw[hk];exact h))];clear hk h;induction hp with
  |nil=>exact .nil
  |@cons x p xs kvs r t ih=>
   rw[aAs,aAs];refine .cons ?_ ih;unfold putAt;by_cases e:p.1=k
   ·rw[if_pos (r.1.trans e),if_pos e];exact⟨r.1,r.2.1,⟨v,ru,rv⟩,r.2.2.2⟩
   ·rw[if_neg (λz=>e (r.1.symm.trans z)),if_neg e];exact r
 ·rw[if_neg h,if_neg (λz=>h (by rw[<-hk];exact Y6.mp z))];clear hk h;induction hp with
  |nil=>exact .cons ⟨rfl,rk,⟨v,ru,rv⟩,kk⟩ .nil
  |cons r t ih=>exact .cons r ih
end
section
variable{K:Type} [DecidableEq K] {knd:HeapKind prog w K}
def nF {Q:rZ}(hu:knd.room A.in1)(hkey:knd.is s.heap k a)(hd:(d==sysModules)=false)(hm:s.heap.DictOfH knd d xs)
  (h:Q (atKey xs k).isSome {s with toks:=s.toks+knd.draws k}):wpAny (model prog w) A (contains (.ref d) (.ref a)) Q E s:=by
 unfold contains;try with_reducible refine aAJ ?_
 refine aAa (aBl hm.typeIs aEG.lookup ?_);show wpAny _ _ (if(some (aDj "dict.__contains__")==some Value.none)=true then _ else _) _ E s;rw[if_neg (by rw[aFf];exact aAL)];refine aAa (wpAny_callSpecialUnlessNone?_slot (name:=aDd "__contains__") hm.typeIs aEG
  (aBk aEG hm.typeIs entry_dict_contains ?_ (args_dict_contains _ _)))
 show wpAny _ _ (dictGet d (.ref a)>>=_) _ _ s;refine aAa (wpAny_dictGet_heap hu hkey hm ?_);cases hf:atKey xs k with
 |some p=>rw[hf]at h;show wpAny _ _ (ret<|.bool true) _ _ _;exact aAb ⟨_,rfl,aBM h⟩
 |none=>rw[hf]at h;show wpAny _ _ (Builtin.Dict.pendingKey? d (.ref a)>>=_) _ _ _;exact aAa (wpAny_pendingKey_other hd<|aAb ⟨_,rfl,aBM h⟩)
end
def CY:D->Bool
 |.tup _=>true
 |_=>false
open Classical in
def mQ (i:Nat) (ρ:Ev) (k:D):R Bool:=match ρ[i]? with
 |some (.d kvs)=>if Q3 7 k=true/\CY k=true then .ok (!decide (k∈kvs.map (·.1)))else .bad
 |_=>.bad
section
def kN {K:PySem.W.Frag}{H:Hp}{O:Addr->Prop}{v:V}{k:D}(r:Rep K H O v k)(h:CY k=true):∃a,v=.ref a:=by
 cases r with
 |tup h r=>exact⟨_,rfl⟩
 |_=>cases h
def CH (i:Nat){x:Str}{p:Pos}{f:Ev->R D}(ha:PD X e f)(hu:X.A.units+130<cLine)(hN:X.N[i]?=some x:=by rfl)(hv:sD X.env.scope x:=by first|exact aCt rfl|exact aBy (aCt rfl)|exact aBy (aBy rfl))
  (hd:(x==("__debug__":Str))=false:=by decide) (gc:(x==("__classdict__":Str))=false:=by decide) (hm:behindInMarks .NotIn (.Name x p)=false:=by first|rfl|with_unfolding_all rfl):
  wC X (.Compare e [.NotIn] [.Name x p] pos) (λρ=>(f ρ).bind (mQ i ρ)):=by
 refine sF λpins s σ H Q I Ha O0 O ρ E q=>?_;dsimp only at q;refine aDT (DD (ta:=tD X f) (tb:=VA i) ha (O7 hN hv hd gc) (R:=λy x H2=>∃a b o es kvs k,x=.ref a/\y=.ref b/\H2 a=some (.ext λh=>h.get? a=some o)/\KG a o es/\mL X.K H2 O es kvs/\(kvs.map (·.1)).Nodup/\Rep X.K H2 O (.ref b) k/\Q3 7 k=true/\Q (!(open Classical in decide (k∈kvs.map (·.1)))) H2) I ⟨Ha,O0,O,ρ,E,?_⟩ λu w s2 y x H2 I2 ry rx h=>?_) hm
 ·cases e1:f ρ with
  |ex z=>rw[e1]at q;exact q
  |bad=>rw[e1]at q;exact q.elim
  |ok k=>
   rw[e1,R.aa0]at q;intro v H1 sm r;unfold mQ at q;cases e2:ρ[i]? with
   |none=>rw[e2]at q;exact aAh q
   |some sl=>
    rw[e2]at q;cases sl with
    |d kvs=>
     dsimp only at q;by_cases hk:Q3 7 k=true/\CY k=true
     ·rw[if_pos hk]at q;obtain⟨a,o,es,h1,_,_,h4,h5,h6,h7⟩:=(E.grow sm).slot i _ e2;obtain⟨b,rfl⟩:=kN r hk.2;exact⟨_,h1,a,b,o,es,kvs,k,rfl,rfl,h4,h5,h6,h7,r,hk.1,q H1 sm⟩
     ·rw[if_neg hk]at q;exact aAh q
    |_=>exact aAh q
 ·obtain⟨a,b,o,es,kvs,k,rfl,rfl,h4,h5,h6,h7,rk,hk,qq⟩:=h;cases ry;cases rx;obtain⟨xs,hD,sr,hp⟩:=zU I2 h4 h5 h6 h7;obtain⟨ok,dp⟩:=kB hk;show wpAny _ _ (contains (.ref a) (.ref b)>>=λc=>pure (aBX (!c))) _ _ s2;refine aAa (nF (knd:=oV X.prog X.w) (by show X.A.in1.units+128<cLine;rw[t7];lia) ⟨bC I2 rk ok rfl,by lia⟩ h5.1 hD (aAb ?_));refine aBM ⟨H2,I2.tok _,?_⟩;have e3:(atKey xs k).isSome=(open Classical in decide (k∈kvs.map (·.1))):=by
   by_cases oh:k∈kvs.map (·.1)
   ·rw[decide_eq_true oh];exact Y6.mpr (by rw[sr];exact oh)
   ·rw[decide_eq_false oh];cases z:(atKey xs k).isSome with
    |false=>rfl
    |true=>exact absurd (by rw[<-sr];exact Y6.mp z) oh
  rw[e3];exact qq
def GV (i:Nat)(hN:X.N.Nodup)(hi:X.N[i]?=some x:=by rfl)(hx:Loc X.env.scope x:=by first|exact aCt rfl|exact aBy rfl)(hs:swapsWith (.Dict [] [] dpos) (some (.Name x pos')) pos.line X.env=pure false:=by rfl)(hf:X.fn x=true\/X.env.scope.names.lookup x=some .local:=by first|exact .inl rfl|exact .inr rfl|assumption):nJ X (.Assign [.Name x pos'] (.Dict [] [] dpos) pos) (λρ=>.ok (.nx (ρ.set i (.d [])))):=by
 intro Ha O0 pins s σ H D I ⟨O,ρ,E,fk,q⟩;refine aEM (wpAny_Dict_empty ?_) hs;have gn:(s.heap.push {cls:=.type "dict",data:=.dict #[]}).get? s.heap.objs.size=some {cls:=.type "dict",data:=.dict #[]}:=aAn _ rfl;have hn:=I.hok.fresh (aAg s.heap.objs.size);have I1:=I.laid (a:=s.heap.objs.size) (o:=.ext λh=>h.get? s.heap.objs.size=some {cls:=.type "dict",data:=.dict #[]}) (h':=s.heap.push {cls:=.type "dict",data:=.dict #[]}) (t':=s.toks) (λ_ _ q=>aAc _ q) (aAg _)
  ⟨gn,⟨_,gn⟩,λh1 h2 e k=>k _ e⟩
 have hk:=OV I1 (i4 (H:=H) (a:=s.heap.objs.size));have big:sysModules<s.heap.objs.size:=aGk (by decide) (I.mod.glob.keeps I.bk).lt;refine S7 I1 hN hi hx (show RelV (.ref s.heap.objs.size) _ from rfl) (λs3 I3=>⟨_,_,I3,?_⟩) hf;have E2:=E.ad9 (u:=.ext λh=>h.get? s.heap.objs.size=some {cls:=.type "dict",data:=.dict #[]}) (sl:=.d []) i hn hk trivial λh0=>⟨s.heap.objs.size,_,[],rfl,.inr rfl,h0,i4,⟨by simp[aDb big],⟨rfl,rfl,rfl⟩,#[],0,rfl,rfl⟩,.nil,aCU⟩;exact q _ _ _ E2 (pU I1 _ E2.trk) λb o hb n=>⟨by rw[j7 (t8 hb hn)];exact hb,λz=>z.elim n (t8 hb hn)⟩
def ZS (X:Cx):MB:=λx y v H Q=>∃O a b o es kvs k d,x=.ref a/\y=.ref b/\H a=some (.ext λh=>h.get? a=some o)/\KG a o es/\mL X.K H O es kvs/\(kvs.map (·.1)).Nodup/\es.length<=sizeLine/\Rep X.K H O (.ref b) k/\Q3 7 k=true/\Rep X.K H O v d/\
 ∀o' es',KG a o' es'->mL X.K H O es' (cG kvs k d)->Q (upd H a<|.ext λh=>h.get? a=some o')
def OF (hu:X.A.units+130<cLine):WE X (ZS X):=by
 intro pins s σ H x y v ov iv u Q I rx ry ru z;obtain⟨O,a,b,o,es,kvs,k,d,ex,ey,h4,h5,h6,h7,hz,rk,hk,rv,q⟩:=z;subst ex ey;cases rx;cases ry;obtain⟨xs,hD,sr,hp⟩:=zU I h4 h5 h6 h7;obtain⟨ok,dp⟩:=kB hk;have hlen:xs.length<=sizeLine:=by
  obtain⟨_,ex,ea,ep,hd,he⟩:=h5;obtain⟨o2,qf,ep2,g2,_,hd2,ju,_⟩:=hD;have g:s.heap.get? a=some o:=(I.hok a _ h4).1;rw[g]at g2;cases g2;rw[hd]at hd2;cases hd2;have:=congrArg aFO (he.symm.trans ju);rw[aAl]at this
  lia
 refine wpAny_setItem_heap (knd:=oV X.prog X.w) (by show X.A.in1.units+128<cLine;rw[t7];lia) ⟨bC I rk ok rfl,by lia⟩ hD (λh' hD' hs=>?_) hlen;obtain⟨o',es',ep',g',ex',og,ye,is',nd'⟩:=hD';have I1:=I.write (x:=a) (e:=a) (o:=.ext λh=>h.get? a=some o') (h':=h') (t':=s.toks+gJ k) (by rw[h4];trivial) (.inl rfl) (λb u hb e=>(hs.2 b hb).trans e) ⟨o',g'⟩ ⟨g',⟨o',g'⟩,λh1 h2 e k=>k _ e⟩;exact⟨_,I1,q o' _ ⟨h5.1,ex',es',ep',og,rfl⟩ (by rw[ye];exact AQ (DY hp sr rk hk ru rv))⟩
def uA (i:Nat) (ρ:Ev) (k d:D):R Out:=match ρ[i]? with
 |some (.d kvs)=>if Q3 7 k=true/\CY k=true/\kvs.length<=sizeLine then .ok (.nx (ρ.set i<|.d (cG kvs k d)))else .bad
 |_=>.bad
def xH (i:Nat){x:Str}{k:Expr}{f g:Ev->R D}{p ps:Pos}(he:PD X e f)(hk:PD X k g)(hu:X.A.units+130<cLine)(hN:X.N[i]?=some x:=by rfl)(hv:sD X.env.scope x:=by first|exact aCt rfl|exact aBy (aCt rfl)|exact aBy (aBy rfl))(hd:(x==("__debug__":Str))=false:=by decide)
  (gc:(x==("__classdict__":Str))=false:=by decide) (ha:∀v,assign (.Subscript (.Name x p) k ps) X.env v=(do
   let ov<-holding [v] (eval (.Name x p) X.env)
   let iv<-holding [v,ov] (eval k X.env)
   standAt ps
   holding [v,ov,iv] (setItem ov iv v)
   release [v,ov,iv] []):=by intro _;rfl)
  (hs:swapsWithSole [.Subscript (.Name x p) k ps] e pos.line X.env=pure false:=by rfl) (hw:swappedStores [.Subscript (.Name x p) k ps] e X.env=pure none:=by rfl) (h1:(assignEach [.Subscript (.Name x p) k ps] X.env).map (·.2)=[assign (.Subscript (.Name x p) k ps) X.env]:=by rfl):
  nJ X (.Assign [.Subscript (.Name x p) k ps] e pos) (λρ=>(f ρ).bind λd=>(g ρ).bind λkd=>uA i ρ kd d):=λHa O0=>
 CM (HE he (SB (O7 hN hv hd gc) hk (OF hu) ha) hs hw h1) λD σ H O ρ E fk q=>⟨Ha,O0,O,ρ,E,by
  cases e1:f ρ with
  |ex z=>rw[e1]at q;exactλH' s=>q H' (E.same.trans s)
  |bad=>rw[e1]at q;exact q
  |ok d=>
   rw[e1,R.aa0]at q;intro v H1 s1 r1;have E1:=E.grow s1;cases e2:g ρ with
   |ex z=>rw[e2]at q;exact(q H<|E.same.trans<|Same.refl _).elim
   |bad=>rw[e2]at q;exact aAh q
   |ok kd=>
    rw[e2,R.aa0]at q;unfold uA at q;cases e3:ρ[i]? with
    |none=>rw[e3]at q;exact aAh q
    |some sl=>
     rw[e3]at q;cases sl with
     |d kvs=>
      dsimp only at q;by_cases hk:Q3 7 kd=true/\CY kd=true/\kvs.length<=sizeLine
      ·rw[if_pos hk]at q;obtain⟨a,o,es,h1,h2,h3,h4,h5,h6,h7⟩:=E1.slot i _ e3;refine⟨_,h1,Ha,O0,O,ρ,E1,?_⟩;rw[e2];intro kv H2 s2 r2;have E2:=E1.grow s2;obtain⟨b,rfl⟩:=kN r2 hk.2.1;have h6':mL X.K H2 O es kvs:=h6.mono λr=>r.same s2;refine⟨O,a,b,o,es,kvs,kd,d,rfl,rfl,s2 _ _ h4,h5,h6',h7,by rw[h6.length];exact hk.2.2,r2,hk.1,r1.same s2,λo' es' d' r'=>?_⟩;obtain⟨E3,k3⟩:=E2.ad7 (sl':=.d (cG kvs kd d)) (u':=.ext λh=>h.get? a=some o') e3 trivial h1 (s2 _ _ h4) trivial trivial λhO h0 m=>⟨a,o',es',rfl,h2,h3,i4,d',r'.mono λr=>r.upd (s2 _ _ h4) trivial h2,DZ kvs kd d h7⟩;exact q _ _ _ E3 fk (((Kp.of s1).trans (Kp.of s2)).trans k3)
      ·rw[if_neg hk]at q;exact aAh q
     |_=>exact aAh q⟩
end
end DL
namespace MM
open PySem
def JH (prog:Program)(w:World)(A:Around)(op:CmpOp)(Hs:Heap->Prop)(P:Nat->Value->Prop)(bt:Nat->Nat->Bool):Prop:=
 ∀i j vi vj (s:Shared) (Q:C5) (E:C5),Hs s.heap->P i vi->P j vj->Q (.bool (bt i j)) s->wpAny (model prog w) A (richCompare op vi vj) Q E s
section
def DG (W:WalksS prog w A.in1 I fp wr G n P St){Hs:Heap->Prop}(hH:∀i s,St i s->Hs s.heap)(bt:Nat->Nat->Bool)(xm:JH prog w A.in1 .Lt Hs P bt)(S:Addr)(qg:S∉fp):
  ∀(k j:Nat) (s:Shared) (vb:Value) (c:Nat),n-(j+1)=k->j+1<=n->St (j+1) s->P (argBest bt j) vb->
  s.heap.get? S=some {cls:=.type "list",dict:=none,data:=.seq #[vb,vb] c,slots:=#[]}->
  (∀v s',P (argBest bt (n-1)) v->Moved (S::wr) G s s'->R (.ok (.ret v)) s')->codeAny (model prog w) A (.builtin "min.loop" ⟨[.ref I,.none,.ref S],[]⟩) R s:=by
 have hSw:S∉wr:=λh=>qg (W.sub _ h);have kl:∀b∈wr,b∈S::wr:=λb hb=>aAd _ hb;have mo:(toString "min"++toString ".loop":String)= "min.loop":=by decide
 have zj:∀{b:Addr},b∉S::wr->S≠b:=λhb h=>hb (by rw[h];exact aAX);intro k;induction k with
 |zero=>
  intro j s vb c hk hj jr hPb hS hR;have oh:j+1=n:=by omega
  refine aBu aFh ?_;rw[aBa aCB _];show wpAny _ A.in1 (seqItems? (.ref S)>>=_) _ _ s;refine aAa (aBH hS rfl ?_);show wpAny _ A.in1 (tryCatch (pyNext<|.ref I) _>>=_) _ _ s;refine aAa (aEJ<|W.done s _ _ (oh▸jr) λs' hm=>?_);have jm:=hm.heap S _ hSw hS;show wpAny _ A.in1 (updateSeq S (λ_=>#[])>>=_) _ _ _;refine aAa ?_;refine aBT jm rfl (aAa<|aDN<|aAb ?_);exact hR vb _ (by rw[<-oh];exact hPb) ((hm.mono kl).then_heap (tk:=s'.toks) (aAg _) λb o hb e=>(aAB _ _<|zj hb).trans e)
 |succ k ih=>
  intro j s vb c hk hj jr hPb hS hR;have ar:j+1<n:=by omega
  refine aBu aFh ?_;rw[aBa aCB _];show wpAny _ A.in1 (seqItems? (.ref S)>>=_) _ _ s;refine aAa (aBH hS rfl ?_);show wpAny _ A.in1 (tryCatch (pyNext<|.ref I) _>>=_) _ _ s;refine aAa (aEJ<|W.item (j+1) s _ _ ar jr λv s' hP me hm=>?_);have jm:=hm.heap S _ hSw hS;show wpAny _ A.in1 (tryCatch (holding [v,v]<|richCompare .Lt v vb>>=_) _>>=_) _ _ _;refine aAa (aEJ<|aAJ<|aAa<|xm (j+1) (argBest bt j) v vb _ _ _ (hH _ _ me) hP hPb ?_);refine aAa (aAJ<|aBM ?_);refine aAa (aDN<|aAb ?_);cases hb:bt (j+1) (argBest bt j)with
  |true=>
   simp only[if_true];refine aAa ?_;refine aBT jm rfl (aAa<|aDN ?_);rw[mo];refine aAb ⟨aBQ aCB _,ih (j+1) _ v _ (by omega) ar (W.frame _ s' _ s'.toks me (aAg _) λb hbf o e=>?_) (by simp only[argBest,hb,if_true];exact hP) (aBf _ jm rfl)
    λv' s'' hP' ni=>?_⟩
   ·exact(aAB _ _ (λh:S=b=>qg (by rw[h];exact hbf))).trans e
   ·exact hR v' s'' hP' (aFb W.gtrans ((hm.mono kl).then_heap (aAg _) λb o hb e=>(aAB _ _<|zj hb).trans e) ni)
  |false=>simp only[aAq,if_false];refine aAa (aDN ?_);rw[mo];refine aAb ⟨aBQ aCB _,ih (j+1) _ vb c (by omega) ar me (by simp only[argBest,hb,aAq,if_false];exact hPb) jm λv' s'' hP' ni=>?_⟩;exact hR v' s'' hP' (aFb W.gtrans (hm.mono kl) ni)
def wZ (W:WalksS prog w A.in1 I fp wr G n P St){Hs:Heap->Prop}(hH:∀i s,St i s->Hs s.heap)(bt:Nat->Nat->Bool)(xm:JH prog w A.in1 .Lt Hs P bt)(S:Addr)(qg:S∉fp)(hn:0<n)(jr:St 0 s)(hS:s.heap.get? S=some {cls:=.type "list",dict:=none,data:=.seq #[] c,slots:=#[]})(hR:∀v s',P (argBest bt (n-1)) v->Moved (S::wr) G s s'->R (.ok (.ret v)) s'):codeAny (model prog w) A (.builtin "min.loop" ⟨[.ref I,.none,.ref S],[]⟩) R s:=by
 have hSw:S∉wr:=λh=>qg (W.sub _ h);have kl:∀b∈wr,b∈S::wr:=λb hb=>aAd _ hb;have mo:(toString "min"++toString ".loop":String)= "min.loop":=by decide
 have zj:∀{b:Addr},b∉S::wr->S≠b:=λhb h=>hb (by rw[h];exact aAX);refine aBu aFh ?_;rw[aBa aCB _];show wpAny _ A.in1 (seqItems? (.ref S)>>=_) _ _ s;refine aAa (aBH hS rfl ?_);show wpAny _ A.in1 (tryCatch (pyNext<|.ref I) _>>=_) _ _ s;refine aAa (aEJ<|W.item 0 s _ _ hn jr λv s' hP me hm=>?_);have jm:=hm.heap S _ hSw hS;show wpAny _ A.in1 (updateSeq S (λ_=>#[v,v])>>=_) _ _ _;refine aAa ?_;refine aBT jm rfl ?_;rw[mo];refine aAb ⟨aBQ aCB _,DG W hH bt xm S qg _ 0 _ v _ rfl hn (W.frame _ s' _ s'.toks me (aAg _) λb hbf o e=>?_) hP (aBf _ jm rfl) λv' s'' hP' ni=>?_⟩
 ·exact(aAB _ _ (λh:S=b=>qg (by rw[h];exact hbf))).trans e
 ·exact hR v' s'' hP' (aFb W.gtrans ((hm.mono kl).then_heap (aAg _) λb o hb e=>(aAB _ _<|zj hb).trans e) ni)
def call_minH {E:C5}{Q:C5}(h:wpAny (model prog w) A.in1 (pyIter x) (λit ic=>∃I fp wr G n P St Hs bt,it=.ref I/\WalksS prog w A.in1 I fp wr G n P St/\St 0 ic/\(∀b∈fp,b<ic.heap.objs.size)/\0<n/\(∀i s,St i s->Hs s.heap)/\JH prog w A.in1 .Lt Hs P bt/\
   ∀v s',P (argBest bt (n-1)) v->Moved wr G ic s'->Q v s') E s):
  wpAny (model prog w) A (call (.builtin "min") [x]) Q E s:=by
 have mo:(toString "min"++toString ".loop":String)= "min.loop":=by decide
 refine call_function_tree F.kind_min F.plain_min F.entry_min (F.args_min1 _) ?_;show wpAny _ A.in1 (aEq "min" ["key", "default"] 0 ⟨[],[]⟩>>=_) _ _ s;refine aAa (wpAny_of_eq (show aEq "min" ["key", "default"] 0 ⟨[],[]⟩=pure [none,none]from rfl) ?_);refine aAa (aAb ?_);refine aAa (aBw h (λit ic jf=>?_) λ_ _ e=>e);obtain⟨I,fp,wr,G,n,P,St,Hs,bt,rfl,W,jr,wo,hn,hH,xm,hQ⟩:=jf;refine aAa (aBx ?_);have qg:ic.heap.objs.size∉fp:=λhm=>aAZ _ (wo _ hm);rw[mo];refine aAb ⟨aBQ aCB _,wZ W hH bt xm ic.heap.objs.size qg hn (W.frame 0 ic _ ic.toks jr (aAg _) λb _ o e=>aAc _ e) (aAn _ rfl) λv s' hP hm=>?_⟩;exact hQ v s' hP (Moved.drop_new (tk:=ic.toks) hm<|aAg _)
end
def walks_more {P:Nat->Value->Prop}{St:Nat->Heap->Prop}(W:Walks prog w A I fp wr n P St)(more:K7)(hd:∀p∈more,p.1∉wr):
  Walks prog w A I (fp++more.map (·.1)) wr n P (λi h=>St i h/\∀p∈more,h.get? p.1=some p.2)where
 sub:=λb hb=>aBz _ (W.sub b hb)
 frame:=λi h h' st k=>⟨W.frame i h h' st.1 λb hb o e=>k b (aBz _ hb) o e,λp hp=>k p.1 (aAC _<|aDx hp) _ (st.2 p hp)⟩
 item:=λi s Q E hi st hQ=>W.item i s Q E hi st.1 λv h' tk hP jr kp=>hQ v h' tk hP ⟨jr,λp hp=>kp p.1 p.2 (hd p hp) (st.2 p hp)⟩ kp
 done:=λs Q E st hQ=>W.done s Q E st.1 hQ
 self:=λi s Q E st hQ=>W.self i s Q E st.1 hQ
end MM
namespace DL
open PySem PySem.Spec L2
open PyProof.Rows hiding St
variable [Tabs]
section
def DH {x:Str}{a:Addr}{dd:Option Addr}{its:Array Value}{n:Nat}{sl:Array (Option Value)}{ns:List Int}(hm:X.mg x=some (.ref a))(hk:X.K.lookup a=some ⟨.type "tuple",dd,.seq its n,sl⟩)(hi:m6 (ns.map V.int) its.toList)(hz:its.size<=sizeLine)(hg:Gl X x:=by rfl)(dh:(x==("__debug__":Str))=false:=by decide):
 PD X (.Name x pos) (NG (.tup (ns.map D.int))):=lK (AE hg hm (show RelV (.ref a) _ from rfl) dh) λH O=>.tup (.inr ⟨_,its,n,hk,rfl,rfl,hz,hi⟩) (Reps.ints ns)
def HB:D->D->R D
 |.non,.non=>.ok (.bl true)
 |_,.non=>.ok (.bl false)
 |_,_=>.bad
def JC:iJ X (compareOp .Is) HB:=by
 intro H O x y dx dy Q fr rx ry q;refine⟨_,PZ,?_⟩;cases dy with
 |non=>
  refine⟨ry.ac3,?_⟩;cases dx with
  |non=>rw[rx.ac3];exact q _ H (Same.refl _) .bl
  |bl b=>rw[rx.blI];exact q _ H (Same.refl _) .bl
  |int i=>rw[rx.aa6];exact q _ H (Same.refl _) .bl
  |str z=>rw[rx.ac7];exact q _ H (Same.refl _) .bl
  |tup ds=>obtain⟨a,_,rfl,_⟩:=rx.tupI;exact q _ H (Same.refl _) .bl
  |lst ds=>obtain⟨a,_,rfl,_⟩:=rx.aa7;exact q _ H (Same.refl _) .bl
  |dct=>obtain⟨a,_,rfl,_⟩:=rx.af8;exact q _ H (Same.refl _) .bl
 |_=>cases dx<;>exact aAh q
def GQ (he:PD X e f)(hs:swapsWith e none pos.line X.env=pure false:=by rfl):nJ X (.Expr e pos) (λρ=>(f ρ).bind λ_=>.ok (.nx ρ)):=λHa O0=>
 CM (kC he hs) λD σ H O ρ E fk q=>⟨Ha,O0,O,ρ,E,by
  cases e1:f ρ with
  |ok d=>rw[e1]at q;exactλv H' s r=>q _ H' O (E.grow s) fk (Kp.of s)
  |ex x=>rw[e1]at q;exactλH' s=>q H' (E.same.trans s)
  |bad=>rw[e1]at q;exact q⟩
def aO:List D->Option (List Bool)
 |[]=>some []
 |.bl b::ds=>(aO ds).map (b::·)
 |_::_=>none
theorem lF:∀{ds:List D} {bs:List Bool},aO ds=some bs->ds=bs.map D.bl
 |[],bs,h=>by cases h;rfl
 |.bl b::ds,bs,h=>by
  unfold aO at h;cases e:aO ds with
  |none=>rw[e]at h;cases h
  |some l=>rw[e]at h;have h':b::l=bs:=aAj h;subst h';rw[lF e];rfl
 |.non::_,_,h|.int _::_,_,h|.str _::_,_,h|.tup _::_,_,h|.lst _::_,_,h|.dct::_,_,h=>by cases h
def anyR:List D->R D
 |[.lst ds]=>match aO ds with
  |some bs=>.ok (.bl (bs.any id))
  |none=>.bad
 |_=>.bad
def yA {K:PySem.W.Frag}{H:Hp}{O:Addr->Prop}{ws:List V}{bs:List Bool}{its:List Value}(r:Reps K H O ws (bs.map D.bl))(v:m6 ws its):its=bs.map aBX:=by
 induction bs generalizing ws its with
 |nil=>cases r;cases v;rfl
 |cons b bs ih=>
  cases r with
  |cons r t=>
   cases v with
   |cons rv tv=>cases r;have:_=aBX b:=rv;rw[this,ih t tv];rfl
def DA (bs:List Bool):(aBb bs.length).any (λi=>bs.getD i false)=bs.any id:=by
 rw[aDD,aDZ,aDZ];constructor
 ·rintro⟨i,hi,e⟩;have ib:i<bs.length:=by simpa using hi
  refine⟨bs[i],aCo ib,?_⟩;simpa[aAv,aAk ib]using e
 ·rintro⟨b,hb,e⟩;obtain⟨i,hi,rfl⟩:=aBt hb;exact⟨i,by simpa using hi,by simpa[aAv,aAk hi]using e⟩
def TF (hc:X.calm=true):bN X (.builtin "any") anyR:=by
 intro H O vs ds Q fr r q;match ds,q with
 |[.lst xs],q=>
  obtain⟨v,rfl,z⟩:=EZ r;obtain⟨p,ws,rfl,h1,h2⟩:=z.aa7;simp only[anyR]at q;cases e:aO xs with
  |none=>rw[e]at q;exact q.elim
  |some bs=>
   rw[e]at q;rw[lF e]at h2;refine⟨λvs H' Q'=>vs=[.ref p]/\H'=H/\Q'=Q,λpins s σ H' xs us Q' I rv ⟨e1,e2,e3⟩=>?_,rfl,rfl,rfl⟩;subst e1 e2 e3;obtain⟨u,rfl,ru⟩:=vals1 rv;cases ru;obtain⟨its,rv2,⟨oL,nL,gL,cL,dL,sL⟩,zL⟩:=I.list h1;have ei:=yA h2 rv2;have hl:s.heap.IsList p its.toArray:=⟨oL,gL,cL,nL,sL⟩;refine call_any_walk (aDh hl ⟨s.heap.objs.size,_,_,its.toArray.size,_,_,λi=>bs.getD i false,rfl,Walks.list (by simp[I.ok.hd hc]) s.heap.objs.size p (aAi<|aAf gL) its.toArray,⟨⟨_,aAn _ rfl,rfl,rfl⟩,hl.push _⟩,λi v s' Q E hP hq=>?_,λh' tk kp=>?_⟩)
   ·have hP:its.toArray[i]?=some v:=hP;have hq:Q (bs.getD i false) s':=hq;rw[aCD,ei,aAN]at hP;cases eb:bs[i]? with
    |none=>rw[eb]at hP;cases hP
    |some b=>rw[eb]at hP;have:aBX b=v:=aAj hP;subst this;rw[aAv,eb]at hq;exact aBM hq
   ·have I2:=I.kept (h':=h') (t':=tk) λb o e=>kp b o (by simp only[aBd];exact aAi (aAf e)) (aAc _ e);refine⟨.bl (bs.any id),_,I2,?_,q _ _ (Same.refl _) .bl⟩;show aBX _=aBX _;rw[aAm,ei,aAl,DA]
end
end DL
namespace DL
open PySem PySem.Spec L2
open PyProof.Rows hiding St
variable [Tabs]
def SU (ds:List D)(i j:Nat):Bool:=HT.lexLt (flat<|ds.getD i .non) (flat<|ds.getD j .non)
def HP:List D->R D
 |[.lst ds]=>if ds≠[]/\ds.all aL=true then .ok (ds.getD (argBest (SU ds) (ds.length-1)) .non)else .bad
 |_=>.bad
def qU (h:Heap)(its:List Value):List (Addr×Obj):=its.filterMap λv=>match v with
 |.ref b=>(h.get? b).map λo=>(b,o)
 |_=>none
def yH (hb:aCJ b∈its)(e:h.get? b=some o):(b,o)∈qU h its:=
 aBC.mpr ⟨_,hb,by show(h.get? b).map _=_;rw[e];rfl⟩
def dW (hp:p∈qU h its):h.get? p.1=some p.2:=by
 obtain⟨v,_,e⟩:=aBC.mp hp;cases v with
 |ref b=>
  have e:(h.get? b).map (λo=>(b,o))=some p:=e;cases q:h.get? b with
  |none=>rw[q]at e;cases e
  |some o=>rw[q]at e;cases e;exact q
 |_=>cases e
section
def NN (hc:X.calm=true)(hu:X.A.units+300<cLine):bN X (.builtin "min") HP:=by
 intro H O vs ds Q fr r q;match ds,q with
 |[.lst xs],q=>
  obtain⟨v,rfl,z⟩:=EZ r;obtain⟨p,ws,rfl,h1,h2⟩:=z.aa7;simp only[HP]at q;by_cases hp:xs≠[]/\xs.all aL=true
  ·rw[if_pos hp]at q;obtain⟨bf,hp⟩:=hp;have pt:∀d∈xs,aL d=true:=aBU.mp hp;refine⟨λvs H' Q'=>vs=[.ref p]/\H'=H/\Q'=Q,λpins s σ H' ud us Q' I rv ⟨e1,e2,e3⟩=>?_,rfl,rfl,rfl⟩;subst e1 e2 e3;obtain⟨u,rfl,ru⟩:=vals1 rv;cases ru;obtain⟨its,rv2,⟨oL,nL,gL,cL,dL,sL⟩,zL⟩:=I.list h1;have hl:s.heap.IsList p its.toArray:=⟨oL,gL,cL,nL,sL⟩;have st:w5 X.K H' O its xs:=w5.of rv2 h2;have hlen:its.toArray.size=xs.length:=by rw[aAm,<-rv2.length,h2.length]
   have ue:0<xs.length:=List.length_pos_iff.mpr bf;have W:=MM.walks_more (Walks.list (prog:=X.prog) (w:=X.w) (A:=X.A.in1) (by simp[I.ok.hd hc]) s.heap.objs.size p (aAi<|aAf gL) its.toArray) (qU s.heap its)
    (λq hq=>by simp only[aBd];exact aAi (aAf<|dW hq))
   refine MM.call_minH (aDh hl ⟨s.heap.objs.size,_,_,_,its.toArray.size,_,_,λh=>∀q∈qU s.heap its,h.get? q.1=some q.2,SU xs,rfl,W.toS,⟨⟨⟨_,aAn _ rfl,rfl,rfl⟩,hl.push _⟩,λq hq=>aAc _ (dW hq)⟩,λb hb=>?_,by rw[hlen];exact ue,λi s h=>h.2,λi j vi vj s' Q2 E2 hh hi hj hq=>?_,λv s' hP hm=>?_⟩)
   ·rw[aBn];rcases aAS.mp hb with hb|hb
    ·rcases aAe.mp hb with rfl|hb
     ·exact aDt _
     ·rcases aAe.mp hb with rfl|hb
      ·exact aBo (aAf gL)
      ·cases hb
    ·obtain⟨q,hq,rfl⟩:=aAp.mp hb;exact aBo (aAf<|dW hq)
   ·have one:∀i v,its.toArray[i]?=some v->∃b items,v=.ref b/\IsTup s'.heap b items/\IntsAre items.toList (flat<|xs.getD i .non):=λi v hi=>by
     rw[aCD]at hi;obtain⟨d,hd,w,ri,rp⟩:=F1 st hi;have og:xs.getD i .non=d:=by rw[aAv,hd];rfl
     rw[og];have hpt:=pt d (aAr hd);obtain⟨b,items,rfl,⟨o,g,c,n,dd⟩,hia⟩:=Z2 hpt (bC I rp (Q9 hpt) ri);exact⟨b,items,rfl,⟨o,hh _ (yH (aAr hi) g),c,n,dd⟩,hia⟩
    obtain⟨b,items,rfl,t1,i1⟩:=one i vi hi;obtain⟨b',xh,rfl,t2,i2⟩:=one j vj hj;exact HT.lt_tupInts t1 t2 i1 i2 (by rw[t7];lia) hq
   ·have hP:its.toArray[argBest (SU xs) (its.toArray.size-1)]?=some v:=hP;rw[aCD,hlen]at hP;obtain⟨d,hd,w,ri,rp⟩:=F1 st hP;have og:xs.getD (argBest (SU xs)<|xs.length-1) .non=d:=by rw[aAv,hd];rfl
    rw[og]at q;have I2:=I.kept (h':=s'.heap) (t':=s'.toks) λb o e=>hm.heap b o (by simp only[aBd];exact aAi (aAf e)) (aAc _ e);have es:s'={s with heap:=s'.heap,toks:=s'.toks}:=by have g1:=hm.gens;have g2:=hm.drawn;have g3:=hm.os;cases s';simp only at g1 g2 g3;subst g1 g2 g3;rfl
    rw[es];exact⟨w,_,I2,ri,q _ _ (Same.refl _) rp⟩
  ·rw[if_neg hp]at q;exact q.elim
def LP (h:KR ds)(n:Nat)(hn:n<ds.length):argBest (SU ds) n=0:=by
 induction n with
 |zero=>rfl
 |succ k ih=>
  have e:=ih (by lia);unfold argBest;rw[e];have:SU ds (k+1) 0=false:=by
   unfold SU;rw[aAv,aAv,aAk hn,aAk (by lia:0<ds.length)];have:=aCc.mp h 0 (k+1) (by lia) hn (by lia);cases q:HT.lexLt (flat<|(some ds[k+1]).getD .non) (flat ((some (ds[0]'(by lia))).getD .non))with
   |false=>rfl
   |true=>have z:HT.lexLt (flat (ds[0]'(by lia))) (flat (ds[0]'(by lia)))=true:=TS.lex_trans _ _ _ this q;rw[TS.lex_irrefl]at z;cases z
  rw[this];rfl
end
end DL
namespace DL
open PySem PySem.Spec L2
open PyProof.Rows hiding St sub_tuple_tuple sub_list_list sub_tuple_list sub_list_tuple
section
open PySem.MeetsSeq PySem.MeetsSeq2 PySem.MeetsSeq3 PySem.AutoSeq1
def GR (l:Addr)(xs:Array Value)(n:Nat)(b:Addr)(ys:Array Value)(n2:Nat)(sl:Array (Option Value))(hc0:¬(!xs.isEmpty&&aCk (xs.size+ys.size))=true)(yi:xs.size<=sizeLine)(zk:xs.size+ys.size<=sizeLine+1):
  Meets (Builtin.«list.extend» ⟨[.ref l,.ref b],[]⟩) (λ_ R s=>s.heap.get? l=some ⟨.type "list",none,.seq xs n,#[]⟩/\s.heap.get? b=some ⟨.type "list",none,.seq ys n2,sl⟩/\R (.ok (.ret Value.none)) {s with heap:=s.heap.update l (aBD λx=>x++ys),toks:=s.toks}):=
 .of_wp λprog w A R s q=>by
  obtain⟨hp,g,d,tk,os⟩:=s;obtain⟨q1,q2,q3⟩:=q;have g1:=idx_int;have g2:=sub_tuple_tuple;have g3:=sub_list_list;have g4:=sub_tuple_list;have g5:=sub_list_tuple;have z:(xs++ys).size<=sizeLine+1:=by rw[Array.size_append];exact zk
  wp_walk using(aBT q1 rfl (hz:=yi) (_hz':=z)),aEi q1,aEi q2
  exact⟨_,rfl,q3⟩
end
section
def VQ (K:PySem.W.Frag):V->List V->Hp->VK->Prop:=λx vs H Q=>∃l b xs zs,x=.ref l/\vs=[.ref b]/\H l=some (.lst xs)/\N1 K H b zs/\xs.length+zs.length<=sizeLine/\Q .non (upd H l<|.lst (xs++zs))
def RN:ZX X "list.extend" (VQ X.K):=by
 intro pins s σ H x vs v us Q I rx rv h;obtain⟨l,b,xs,zs,rfl,rfl,hH,hB,hz,q⟩:=h;cases rx;obtain⟨u,rfl,ru⟩:=rv.one;cases ru;obtain⟨z,its,n,r,hl,e⟩:=I.ae3 hH;obtain⟨md,r2,⟨⟨cl2,vt,da2,uo⟩,n2,e2,c2,d2,s2⟩,z2⟩:=I.list hB;simp only at c2 d2 s2;subst c2 d2 s2;have mn:=r2.length;have ir:its.toArray.size+md.toArray.size<=sizeLine:=by rw[aAm,aAm];lia
 have wm:¬(!its.toArray.isEmpty&&aCk (its.toArray.size+md.toArray.size))=true:=by rw[uS ir,aFL];exact aAL
 refine aFz F.slot_list_extend ⟨_,e,rfl⟩ F.entry_list_extend (F.args_list_extend_2 _ _) (GR l its.toArray n b md.toArray n2 uo wm (by rw[aAm];lia) (by lia)) ⟨e,e2,?_⟩;refine⟨.non,_,I.af0 (its':=its++md) hH e (by simp) (r.append r2) ?_,rfl,q⟩;rw[aAz]
 lia
end
variable [Tabs]
section
def xX (i:Nat)(he:PD X e f)(hN:X.N[i]?=some x:=by rfl)(hv:sD X.env.scope x:=by first|exact aCt rfl|exact aBy (aCt rfl)|exact aBy (aBy rfl))(hd:(x==("__debug__":Str))=false:=by decide)(gc:(x==("__classdict__":Str))=false:=by decide)(ie:attributeBase (.Name x p) "extend" X.env (eval (.Name x p) X.env)=eval (.Name x p) X.env:=by rfl)(wg:((backTo bp (starEach [e] X.env)).all (λx=>!x.1)&&(backToKw bp (keywordEach [] X.env)).all (λx=>x.1.isSome)
   &&decide ([e].length+([]:List Keyword).length+(if([]:List Keyword).isEmpty then 0 else 1)<30))=true:=by rfl) (fm:(apos.endLine==bp.line)=true:=by rfl) (hs:starEach [e] X.env=(false,eval e X.env)::starEach [] X.env:=by rfl) (kh:(backTo bp (starEach [] X.env)).any (·.1)=false:=by rfl) (za:swapsWith (.Call (.Attribute (.Name x p) "extend" apos) [e] [] bp) none pos.line X.env=pure false:=by rfl):
  nJ X (.Expr (.Call (.Attribute (.Name x p) "extend" apos) [e] [] bp) pos) (λρ=>(f ρ).bind (QS i ρ)):=λHa O0=>
 CM (kC (PJ PySem.F.plainAttrs_list PySem.F.slot_list_extend PySem.F.type_list_extend RN (O7 hN hv hd gc) (c9 he j4 hs) ie wg fm hs kh) za) λD σ H O ρ E fk q=>by
 cases e1:f ρ with
 |ok d=>
  rw[e1,R.aa0]at q;unfold QS at q;cases e2:ρ[i]? with
  |none=>rw[e2]at q;exact aAh q
  |some sl=>
   rw[e2]at q;cases sl with
   |x C=>exact aAh q
   |c m φ=>exact aAh q
   |d kvs=>exact aAh q
   |no=>exact aAh q
   |v d=>exact aAh q
   |o xs=>
    cases d with
    |lst ys=>
     dsimp only at q;split at q
     ·rename_i hz;obtain⟨a,vs,h1,h2,h3,h4,h5⟩:=E.own i xs e2;refine⟨_,h1,.inl ⟨rfl,vs,N1.of h4⟩,Ha,O0,O,ρ,E,?_⟩;show DJ X H O ((f ρ).bind λd=>(R.ok []).bind λds=>.ok (d::ds)) _;rw[e1];intro us H1 s1 r1;cases r1 with
      |cons r1 rn=>
       cases rn;have E1:=E.grow s1;cases r1 with
       |lst hb nb rb=>refine⟨a,_,vs,_,rfl,rfl,s1 _ _ h4,hb,by rw[h5.length,rb.length];exact hz,?_⟩;obtain⟨E2,k2⟩:=E1.write e2 h1 ((h5.same s1).append rb);exact q σ _ O E2 fk ((Kp.of s1).trans k2)
     ·exact aAh q
    |_=>exact aAh q
 |ex x=>
  rw[e1]at q;cases e2:ρ[i]? with
  |none=>exact(q H E.same).elim
  |some sl=>exact(q H E.same).elim
 |bad=>rw[e1]at q;exact aAh q
end
end DL
namespace TS
open PySem PyProof.Rows HT
section
def zZ (A:Around)(s:Shared)(x y:Value)(b:Bool):Prop:=∀(prog:Program) (w:World) (E:C5) (Q:rZ),Q b s->wpAny (model prog w) A (oneLt' false x y) Q E s
def lt_two {Q:rZ}(hl:IsTup s.heap l #[p,r])(hb:IsTup s.heap b #[p',r'])(hf:f=false)(h1:SeqAt.EqAt A s p p' e1)(h2:e1=false->zZ A s p p' b1)(h3:e1=true->SeqAt.EqAt A s r r' e2)(h4:e1=true->e2=false->zZ A s r r' b2)(q:Q (bif e1 then(bif e2 then false else b2)else b1) s):wpAny (model prog w) A (keyLt' (tupK f) (.ref l) (.ref b)) Q E s:=by
 obtain⟨o,ho,hc,n,hd⟩:=hl;obtain⟨o2,lg,kg,n2,hd2⟩:=hb;subst hf;rw[pG];refine aAa (aDX ho hd<|aAa<|aDX lg hd2 ?_);show wpAny _ _ (forIn [((p,p'),0),((r,r'),1)] _ _>>=_) _ _ _;rw[aCM];refine aAa (aAa ?_);refine aAa (h1 _ _ _ _ ?_);cases e1 with
 |false=>refine aAa (h2 rfl _ _ _ _ ?_);exact aAb (aAb<|aAb q)
 |true=>
  refine aAb ?_;dsimp only;rw[aCM];refine aAa ?_;refine aAa (h3 rfl _ _ _ _ ?_);cases e2 with
  |false=>refine aAa (h4 rfl rfl _ _ _ _ ?_);exact aAb (aAb<|aAb q)
  |true=>refine aAb ?_;dsimp only;rw[aDQ];exact aAb (aAb q)
def KH (h:∀(prog:Program) (w:World) (E:C5) (Q:C5),Q (.bool b) s->wpAny (model prog w) A (richCompare .Lt x y) Q E s):zZ A s x y b:=λprog w E Q q=>by rw[oneLt'_eq];simp only[aAq,if_false];exact aAa (h prog w _ _<|aBM q)
def oneLt_tup (hl:IsTup s.heap l items)(hb:IsTup s.heap b bg)(hi:IntsAre items.toList ns)(hj:IntsAre bg.toList ms)(hu:A.units<cLine):zZ A s (.ref l) (.ref b) (HT.lexLt ns ms):=
 KH λprog w E Q q=>HT.lt_tupInts hl hb hi hj hu q
end
end TS
namespace DL
open PySem PySem.Spec L2
open PyProof.Rows hiding St
def rT (k:D->List Int)(d:D):List D->List D
 |[]=>[d]
 |x::xs=>if HT.lexLt (k d) (k x)=true then d::x::xs else x::rT k d xs
def lT (k:D->List Int)(ds:List D):List D:=ds.foldr (rT k) []
def qD (k:D->List Int)(ds:List D):Prop:=ds.Pairwise λx y=>HT.lexLt (k x) (k y)=true
theorem iO (k:D->List Int)(d:D):∀xs:List D,(rT k d xs).Perm (d::xs)
 |[]=>.refl _
 |x::xs=>by
  unfold rT;split
  ·exact .refl _
  ·exact((iO k d xs).cons x).trans (.swap d x xs)
theorem U1 (k:D->List Int):∀ds:List D,(lT k ds).Perm ds
 |[]=>.refl _
 |d::ds=>(iO k d (lT k ds)).trans ((U1 k ds).cons d)
theorem uF:∀{xs:List D},qD k xs->(∀x∈xs,k x≠k d)->qD k (rT k d xs)
 |[],_,_=>aDF _ _
 |x::xs,h,n=>by
  have h1:=aAw.mp h;unfold rT;split
  ·rename_i lt;refine aAw.mpr ⟨λy hy=>?_,h⟩;rcases aAe.mp hy with rfl|hy
   ·exact lt
   ·exact TS.lex_trans _ _ _ lt (h1.1 y hy)
  ·rename_i nlt;refine aAw.mpr ⟨λy hy=>?_,uF h1.2 λz hz=>n z (.tail _ hz)⟩;rcases aAe.mp ((iO k d xs).mem_iff.mp hy)with rfl|hy
   ·cases q:HT.lexLt (k x) (k y)with
    |true=>rfl
    |false=>exact absurd (TS.lex_total _ _ q (by simpa using nlt)) (n x<|.head _)
   ·exact h1.1 y hy
theorem gF:∀{ds:List D},(ds.map k).Nodup->qD k (lT k ds)
 |[],_=>.nil
 |d::ds,h=>by rw[aAs,aAK]at h;refine uF (gF h.2) λx hx e=>h.1 ?_;rw[<-e];exact aDx ((U1 k ds).mem_iff.mp hx)
theorem iS:∀{xs ys:List D},qD k xs->qD k ys->xs.Perm ys->xs=ys
 |[],ys,_,_,p=>(List.nil_perm.mp p).symm
 |x::xs,[],_,_,p=>by have:=p.length_eq;simp at this
 |x::xs,y::ys,h1,h2,p=>by
  have a1:=aAw.mp h1;have a2:=aAw.mp h2;have exy:x=y:=by
   rcases aAe.mp (p.mem_iff.mp<|.head _)with q|q
   ·exact q
   ·rcases aAe.mp (p.mem_iff.mpr<|.head _)with q2|q2
    ·exact q2.symm
    ·have:=TS.lex_trans _ _ _ (a2.1 x q) (a1.1 y q2);rw[TS.lex_irrefl]at this;cases this
  subst exy;rw[iS a1.2 a2.2 ((List.perm_cons x).mp p)]
def MW [Tabs]{R:Value->D->Prop}{key:Value->List Int}{k:D->List Int}{us:List Value}{ds:List D}(st:Paired R us ds)(srt:us.Pairwise λx y=>HT.lexLt (key y) (key x)=false)(nd:(ds.map k).Nodup)(hk:∀u d,R u d->d∈ds->key u=k d):qD k ds:=by
 induction st with
 |nil=>exact .nil
 |@cons u d us ds r t ih=>
  have n1:=aAK.mp nd;have s1:=aAw.mp srt;refine aAw.mpr ⟨λe he=>?_,ih s1.2 n1.2 λu d h hd=>hk u d h (.tail _ hd)⟩;obtain⟨j,hj,rfl⟩:=aBt he;have vf:j<us.length:=by rw[t.length];exact hj
  obtain⟨d',og,qe⟩:=F1 t (aAk vf);rw[aAk hj]at og;cases og;have l:=s1.1 us[j] (aCo vf);rw[hk _ _ qe (.tail _ (aCo hj)),hk u d r (.head _)]at l;cases z:HT.lexLt (k d) (k ds[j])with
  |true=>rfl
  |false=>exact absurd (aAp.mpr ⟨ds[j],aCo hj,(TS.lex_total _ _ z l).symm⟩) n1.1
def SS:D->Bool
 |.tup [p,.lst _]=>aL p
 |_=>false
def P4:D->List Int
 |.tup (p::_)=>flat p
 |_=>[]
def TC (h:SS d=true):∃p r,d=.tup [p,.lst r]/\aL p=true/\P4 d=flat p:=by
 unfold SS at h;split at h
 ·exact⟨_,_,rfl,h,rfl⟩
 ·cases h
def VO:D->R (List D)
 |.lst ds=>if ds.all SS=true/\(ds.map P4).Nodup/\ds.length<=63 then .ok (lT P4 ds)else .bad
 |_=>.bad
variable [Tabs]
def FV (h:Heap)(u:Value)(l:List Int):Prop:=∃b p r d,u=.ref b/\IsTup h b #[p,r]/\aL d=true/\HV h p d/\flat d=l
def FV.inj (x:FV h u l)(y:FV h u l'):l=l':=by obtain⟨b,p,r,d,rfl,⟨o,g,_,n,dd⟩,_,hv,rfl⟩:=x;obtain⟨b',p',r',d',e,⟨o',g',_,n',zc⟩,_,hv',rfl⟩:=y;cases e;rw[g]at g';cases g';rw[dd]at zc;injection zc with e1 _;have e2:=congrArg aFo e1;simp only[aFx]at e2;obtain⟨rfl,_⟩:=e2;rw[HV.inj hv hv']
def BP (h:Heap) (u:Value):List Int:=open Classical in if p:∃l,FV h u l then p.choose else[]
def eV (x:FV h u l):BP h u=l:=by unfold BP;rw[dif_pos ⟨l,x⟩];exact FV.inj (Exists.choose_spec (⟨l,x⟩:∃l,FV h u l)) x
section
def GX (I:Inv X pins σ H s)(r:Rep X.K H O v d)(h:SS d=true)(ru:RelV v u):FV s.heap u (P4 d):=by
 obtain⟨p,ring,rfl,hp,hk⟩:=TC h;cases r with
 |tup q rr=>
  cases ru;obtain⟨its,rv,ht,_⟩:=I.tuple q;cases rr with
  |cons r1 rr=>
   cases rr with
   |cons r2 rr=>
    cases rr;cases rv with
    |cons v1 rv=>
     cases rv with
     |cons v2 rv=>cases rv;exact⟨_,_,_,p,rfl,ht,hp,bC I r1 (Q9 hp) v1,hk.symm⟩
end
section
def wS (ha:PB X e f)(hh:X.calm=true)(hu:X.A.units+300<cLine)(hg:Gl X "sorted":=by rfl)(hm:X.mg "sorted"=none:=by assumption)(hv:bootBuiltins "sorted"=some (.builtin "sorted"):=by decide+kernel)(he:starEach [e] X.env=(false,eval e X.env)::starEach [] X.env:=by rfl)(br:(backTo pos (starEach [] X.env)).any (·.1)=false:=by rfl):
  PF X (.Call (.Name "sorted" p) [e] [] pos) (λρ=>(f ρ).bind VO):=by
 refine sF λpins s σ H Q I Ha O0 O ρ E q=>?_;dsimp only at q;refine aAM (P3 I hg hm hv ?_ (by decide) (by decide));have qu:PA X [e] _:=K1 ha aY he;refine aCf (C4 (qu pos pins s σ H (λvs H1=>∃v ds,vs=[v]/\f ρ=.ok (.lst ds)/\Same H H1/\A8 X.K H1 O v (.lst ds)) I ⟨Ha,O0,O,ρ,E,?_⟩) λus s1 ⟨vs,H1,I1,r1,v,ds,ev,ef,sm,rb⟩=>?_) he br
 ·cases e1:f ρ with
  |ex z=>rw[e1]at q;exact q
  |bad=>rw[e1]at q;exact q.elim
  |ok d=>
   rw[e1,R.aa0]at q;cases d with
   |lst ds=>exactλv H1 s1 r1=>⟨v,ds,rfl,rfl,s1,r1⟩
   |_=>exact aAh q
 ·subst ev;rw[ef,R.aa0]at q;obtain⟨a,ws,rfl,hS,rr⟩:=rb.aa7;obtain⟨u,rfl,ru⟩:=vals1 r1;cases ru;obtain⟨its,rv,⟨oL,nL,gL,cL,dL,sL⟩,zL⟩:=I1.list hS;have hl:s1.heap.IsList a its.toArray:=⟨oL,gL,cL,nL,sL⟩;simp only[VO]at q;by_cases hc:ds.all SS=true/\(ds.map P4).Nodup/\ds.length<=63
  ·rw[if_pos hc]at q;obtain⟨ql,nd,zf⟩:=hc;have fc:∀d∈ds,SS d=true:=aBU.mp ql;have st:w5 X.K H1 O its ds:=w5.of rv rr;have hlen:its.length=ds.length:=st.length;have each:∀u∈its,∃i d,its[i]?=some u/\ds[i]?=some d/\FV s1.heap u (P4 d):=λu hu=>by obtain⟨i,hi,rfl⟩:=aBt hu;obtain⟨d,hd,w,ri,rp⟩:=F1 st (aAk hi);exact⟨i,d,aAk hi,hd,GX I1 rp (fc d<|aAr hd) ri⟩
   have keq:∀u∈its,∀u'∈its,BP s1.heap u=BP s1.heap u'->u=u':=λu hu u' bu e=>by
    obtain⟨i,d,hi,hd,fv⟩:=each u hu;obtain⟨j,d',hj,og,fv'⟩:=each u' bu;rw[eV fv,eV fv']at e;have eij:i=j:=by obtain⟨li,ei⟩:=aAy.mp hd;obtain⟨lj,ej⟩:=aAy.mp og;refine(List.getElem_inj (xs:=ds.map P4) (i:=i) (j:=j) (h₀:=by simpa using li) (h₁:=by simpa using lj) nd).mp ?_;rw[aEb,aEb,ei,ej];exact e
    subst eij;rw[hi]at hj;cases hj;rfl
   refine TS.sorted_keys (vs:=its) (f:=false) (key:=BP s1.heap) (C:=λs'=>∃h',s'={s1 with heap:=h'}/\∀b o,s1.heap.get? b=some o->h'.get? b=some o)
    (λ{Q'} hq=>collect_list hl (hq _ ⟨_,rfl,λb o e=>?_⟩) (by rw[hlen];exact aAx zf (by decide)))
    (λs' ⟨h',es',k⟩ s6 k6 x hx y hy prog w A E hA {Q} qq=>?_) (λh2 s' ⟨h',es',k⟩ s6 k6 A {Q} qq=>?_) (by rw[hlen];lia) λs' ja h' l ⟨h1,es',k⟩ pm srt k2 hl ⟨n,gl⟩=>?_
   ·exact(aAB _ _<|aCm<|aAi<|aAf e).trans (aAc _ e)
   ·subst es';have kk:∀b o,s1.heap.get? b=some o->s6.heap.get? b=some o:=λb o e=>k6 b o (k b o e);obtain⟨i,d,hi,hd,fv⟩:=each x hx;obtain⟨j,d',hj,og,fv'⟩:=each y hy;have kx:=eV fv;have ky:=eV fv';have eqk:=keq x hx y hy;rw[kx,ky]at qq;rw[kx,ky]at eqk;obtain⟨b,p1,r1,d1,rfl,⟨o,g,c,n,dd⟩,hp1,hv1,e1⟩:=fv;obtain⟨b',p2,r2,d2,rfl,⟨o',g',c',n',zc⟩,hp2,hv2,e2⟩:=fv';have zo:HV s6.heap p1 d1:=hv1.keeps λb o e _=>kk b o e;have hv2':HV s6.heap p2 d2:=hv2.keeps λb o e _=>kk b o e;have hA':A.units+8<cLine:=by lia
    obtain⟨c1,i1,rfl,t1,ia1⟩:=Z2 hp1 zo;obtain⟨c2,i2,rfl,t2,ia2⟩:=Z2 hp2 hv2';rw[<-e1,<-e2]at qq eqk;refine TS.lt_two (e1:=u0 d1 d2) (e2:=true) (b1:=HT.lexLt (flat d1) (flat d2)) (b2:=false) ⟨o,kk _ _ g,c,n,dd⟩ ⟨o',kk _ _ g',c',n',zc⟩ rfl (AG zo hv2' (by have:=rA hp1;lia)) (λ_=>TS.oneLt_tup t1 t2 ia1 ia2 (by lia)) (λeq=>?_) (λ_ z=>by cases z) ?_
    ·have ed:=fN (Q9 hp1) (Q9 hp2) eq;have er:=eqk (by rw[ed]);cases er;rw[g]at g';cases g';rw[dd]at zc;injection zc with e3 _;have e4:=congrArg aFo e3;simp only[aFx]at e4;rw[e4.2.1];exact aDE _
    ·cases z:u0 d1 d2 with
     |false=>exact qq
     |true=>have ed:=fN (Q9 hp1) (Q9 hp2) z;rw[ed,TS.lex_irrefl]at qq;exact qq
   ·subst es';have kk:∀b o,s1.heap.get? b=some o->s6.heap.get? b=some o:=λb o e=>k6 b o (k b o e);have sg:∀x∈its,∃p,∃b items,x=.ref b/\IsTup s6.heap b items/\items[0]?=some p/\s6.TypeIs p "tuple":=λx hx=>by obtain⟨i,d,hi,hd,fv⟩:=each x hx;obtain⟨b,p1,r1,d1,rfl,⟨o,g,c,n,dd⟩,hp1,hv1,e1⟩:=fv;have zo:HV s6.heap p1 d1:=hv1.keeps λb o e _=>kk b o e;obtain⟨c1,i1,rfl,⟨o1,g1,cc1,_⟩,ia1⟩:=Z2 hp1 zo;exact⟨_,b,_,rfl,⟨o,kk _ _ g,c,n,dd⟩,rfl,⟨o1,g1,cc1⟩⟩
    obtain⟨gf,hgf⟩:∃gf:Value->Value,∀x∈its,∃b items,x=.ref b/\IsTup s6.heap b items/\items[0]?=some (gf x)/\s6.TypeIs (gf x) "tuple":=by refine⟨λx=>open Classical in if z:x∈its then(sg x z).choose else .none,λx hx=>?_⟩;dsimp only;rw[dif_pos hx];exact(sg x hx).choose_spec
    exact TS.kind_tuples (T:= "tuple") gf hgf (λz=>by rw[z]at h2;simp at h2) (by decide) qq
   ·subst es';obtain⟨rg,p2,mf⟩:=aR pm st;have hk:∀u d,(∃v,RelV v u/\Rep X.K H1 O v d)->d∈ds->BP s1.heap u=P4 d:=λu d ⟨v,rv,rp⟩ hd=>eV (GX I1 rp (fc d hd) rv);have uf:(rg.map P4).Nodup:=(p2.map P4).nodup_iff.mpr nd;have srt2:qD P4 rg:=MW (R:=λu d=>∃v,RelV v u/\Rep X.K H1 O v d) mf srt uf λu d h hd=>hk u d h (p2.mem_iff.mp hd);have e2:rg=lT P4 ds:=iS srt2 (gF nd) (p2.trans (U1 P4 ds).symm);subst e2;obtain⟨wv,ri,qe⟩:=w5.ac6 mf;have I2':=I1.kept (h':=h1) (t':=s1.toks) k;have I3:=I2'.laid (a:=l) (o:=.lst wv) (h':=h') (t':=s1.toks) k2 hl ⟨by rw[qe.length,(U1 P4 ds).length_eq];exact aAx zf (by decide),ja,n,ri,gl⟩;exact⟨.ref l,_,I3,rfl,q wv _ l sm (I2'.hok.fresh hl) qe⟩
  ·rw[if_neg hc]at q;exact q.elim
end
end DL
namespace DL
open PySem PySem.Spec L2
open PyProof.Rows hiding St
variable [Tabs]
section
def IC (K:PySem.W.Frag)(mg:V5)(x:Str)(ns:List Int):Prop:=∃a dd its n sl,mg x=some (.ref a)/\K.lookup a=some ⟨.type "tuple",dd,.seq its n,sl⟩/\m6 (ns.map V.int) its.toList/\its.size<=sizeLine
omit [Tabs]in
def RH {K:PySem.W.Frag}{mg:V5}{x:Str}{a:Addr}{dd:Option Addr}{n:Nat}{sl:Array (Option Value)}{i j k:Int}{t u v:Tok}(hm:mg x=some (.ref a))(hk:K.lookup a=some ⟨.type "tuple",dd,.seq #[.int i t,.int j u,.int k v] n,sl⟩):IC K mg x [i,j,k]:=
 ⟨a,dd,_,n,sl,hm,hk,.cons ⟨t,rfl⟩ (.cons ⟨u,rfl⟩ (.cons ⟨v,rfl⟩ .nil)),show 3<=sizeLine by decide⟩
def qR (c:IC X.K X.mg x ns)(hg:Gl X x:=by rfl)(dh:(x==("__debug__":Str))=false:=by decide):PD X (.Name x pos) (NG (.tup (ns.map D.int))):=by obtain⟨a,dd,its,n,sl,hm,hk,hi,hz⟩:=c;exact DH hm hk hi hz hg dh
end
end DL
namespace DL
open PySem PySem.Spec L2
open PyProof.Rows hiding St
theorem Y8 {α β:Type}[BEq α][LawfulBEq α]:∀{l:List (α×β)} {a:α} {b:β},(l.map (·.1)).Nodup->(a,b)∈l->l.lookup a=some b
 |(x,y)::l,a,b,h,hm=>by
  rw[aAs,aAK]at h;rw[aAT];rcases aAe.mp hm with e|lu
  ·cases e;simp
  ·have:(a==x)=false:=by rw[beq_eq_false_iff_ne];rintro rfl;exact h.1 (aAp.mpr ⟨(a,b),lu,rfl⟩)
   rw[this];exact Y8 h.2 lu
theorem mem_lookup {α β:Type}[BEq α][LawfulBEq α]:∀{l:List (α×β)} {a:α} {b:β},l.lookup a=some b->(a,b)∈l
 |(x,y)::l,a,b,h=>by
  rw[aAT]at h;split at h
  ·rename_i q;cases h;rw[eq_of_beq q];exact .head _
  ·exact .tail _ (mem_lookup h)
def qE (o:Obj):Prop:=∃v,o.data=.cell v
def bA (H:Hp)(cs:K7):Hp:=λb=>match cs.lookup b with
 |some o=>some (.frz o (.own b))
 |none=>H b
def N5 (H:Hp)(cs:K7):Hp:=λb=>match cs.lookup b with
 |some _=>none
 |none=>H b
section
variable{K:PySem.W.Frag}
def bW (e:cs.lookup b=some o):bA H cs b=some (.frz o (.own b)):=by unfold bA;rw[e]
def M9 (e:cs.lookup b=none):bA H cs b=H b:=by unfold bA;rw[e]
def aE (e:cs.lookup b=some o):N5 H cs b=none:=by unfold N5;rw[e]
def K4 (e:cs.lookup b=none):N5 H cs b=H b:=by unfold N5;rw[e]
def D4 (hn:∀b o,cs.lookup b=some o->H b=none)(e:H b=some u):bA H cs b=some u:=by
 cases q:cs.lookup b with
 |none=>rw[M9 q];exact e
 |some o=>rw[hn b o q]at e;cases e
def bY (hn:∀b o,cs.lookup b=some o->H b=none):Same H (bA H cs):=λb u e=>D4 hn e
def u6 (hn:∀b o,cs.lookup b=some o->H b=some (.frz o (.own b)))(e:H b=some u)(ne:∀o,cs.lookup b=some o->u≠.frz o (.own b)):N5 H cs b=some u:=by
 cases q:cs.lookup b with
 |none=>rw[K4 q];exact e
 |some o=>rw[hn b o q]at e;cases e;exact absurd rfl (ne o q)
def HY (x:W7 P w H h)(hc:∀b o,cs.lookup b=some o->h.get? b=some o/\H b=none):W7 P w (bA H cs) h:=λb u e=>by
 have hn:∀b o,cs.lookup b=some o->H b=none:=λb o q=>(hc b o q).2;cases q:cs.lookup b with
 |some o=>rw[bW q]at e;cases e;exact⟨(hc b o q).1,⟨o,(hc b o q).1⟩⟩
 |none=>rw[M9 q]at e;exact(x b u e).ab7 (λ_ _ _ z=>z) (λc z=>D4 hn z) λc u _ z=>D4 hn z
def HZ (x:W7 P w H h)(hc:∀b o,cs.lookup b=some o->H b=some (.frz o (.own b))/\qE o):W7 P w (N5 H cs) h:=λb u e=>by
 have hn:∀b o,cs.lookup b=some o->H b=some (.frz o (.own b)):=λb o q=>(hc b o q).1;cases q:cs.lookup b with
 |some o=>rw[aE q]at e;cases e
 |none=>rw[K4 q]at e;refine(x b u e).ab7 (λ_ _ _ z=>z) (λc z=>u6 hn z λo _ z'=>by cases z') λc u f z=>u6 hn z λo q z'=>?_;subst z';obtain⟨vs,e1⟩:=f;obtain⟨v,e2⟩:=(hc c o q).2;rw[e1]at e2;cases e2
def TU (U:Un fs [] (bA H cs) H2 h h')(k:W7 P w H2 h')(hc:∀b o,cs.lookup b=some o->h.get? b=some o/\H b=none/\qE o):Un fs [] H (N5 H2 cs) h h'/\W7 P w (N5 H2 cs) h'/\∀b o,cs.lookup b=some o->H2 b=some (.frz o (.own b)):=by
 have hn:∀b o,cs.lookup b=some o->H b=none:=λb o q=>(hc b o q).2.1;have h2:∀b o,cs.lookup b=some o->H2 b=some (.frz o (.own b)):=λb o q=>U.frzs b o _ (bW q);refine⟨⟨λb o e n hb hx=>?_,λb o e n hb hx=>?_,λb o e n hx=>?_,λb o e hx=>U.there b o e hx,λb xs e=>?_,λb o u e=>?_,λb tb e=>?_⟩,HZ k λb o q=>⟨h2 b o q,(hc b o q).2.2⟩,h2⟩
 ·cases q:cs.lookup b with
  |none=>exact U.keep b o e (by rw[M9 q];exact n) hb hx
  |some o'=>have:=(hc b o' q).1;rw[e]at this;cases this;exact(k b _<|h2 b o q).1
 ·cases q:cs.lookup b with
  |none=>exact U.slot b o e (by rw[M9 q];exact n) hb hx
  |some o'=>have:=(hc b o' q).1;rw[e]at this;cases this;exact⟨o.slots,(k b _<|h2 b o q).1⟩
 ·cases q:cs.lookup b with
  |none=>rw[K4 q];exact U.free b o e (by rw[M9 q];exact n) hx
  |some o'=>exact aE q
 ·exact u6 h2 (U.tups b xs<|D4 hn e) λo _ z=>by cases z
 ·refine u6 h2 (U.frzs b o u<|D4 hn e) λo' q z=>?_;rw[hn b o' q]at e;cases e
 ·exact u6 h2 (U.tbls b tb<|D4 hn e) λo _ z=>by cases z
def QO (U:Un fs [] (N5 H cs) H2 h h')(k:W7 P w H2 h')(hc:∀b o,cs.lookup b=some o->h.get? b=some o/\H b=some (.frz o (.own b))/\b∉fs):Un fs [] H (bA H2 cs) h h'/\W7 P w (bA H2 cs) h'/\Same H2 (bA H2 cs):=by
 have hn:∀b o,cs.lookup b=some o->H b=some (.frz o (.own b)):=λb o q=>(hc b o q).2.1;have h2:∀b o,cs.lookup b=some o->H2 b=none:=λb o q=>U.free b o (hc b o q).1 (aE q) (by simp);have h3:∀b o,cs.lookup b=some o->h'.get? b=some o:=λb o q=>U.keep b o (hc b o q).1 (aE q) (hc b o q).2.2 (by simp);have out:∀b,H b=none->cs.lookup b=none:=λb n=>by
  cases q:cs.lookup b with
  |none=>rfl
  |some o=>rw[hn b o q]at n;cases n
 refine⟨⟨λb o e n hb hx=>U.keep b o e (by rw[K4 (out b n)];exact n) hb hx,λb o e n hb hx=>U.slot b o e (by rw[K4 (out b n)];exact n) hb hx,λb o e n hx=>?_,λb o e hx=>U.there b o e hx,λb xs e=>?_,λb o u e=>?_,λb tb e=>?_⟩,
  HY k λb o q=>⟨h3 b o q,h2 b o q⟩,bY h2⟩
 ·rw[M9 (out b n)];exact U.free b o e (by rw[K4 (out b n)];exact n) hx
 ·exact D4 h2 (U.tups b xs (u6 hn e λo _ z=>by cases z))
 ·cases q:cs.lookup b with
  |none=>exact D4 h2 (U.frzs b o u (by rw[K4 q];exact e))
  |some o'=>rw[hn b o' q]at e;cases e;exact bW q
 ·exact D4 h2 (U.tbls b tb (u6 hn e λo _ z=>by cases z))
def zB (hn:∀b o,cs.lookup b=some o->H b=some (.frz o (.own b)))(q:V9 K H a xs):V9 K (N5 H cs) a xs:=by
 rcases q with(q|⟨o,q⟩)|q
 ·exact .inl (.inl (u6 hn q λo _ z=>by cases z))
 ·exact .inl (.inr ⟨o,u6 hn q λo _ z=>by cases z⟩)
 ·exact .inr q
def AK (hn:∀b o,cs.lookup b=some o->H b=some (.frz o (.own b)))(q:N1 K H a xs):N1 K (N5 H cs) a xs:=by
 rcases q with(q|⟨o,q⟩)|q
 ·exact .inl (.inl (u6 hn q λo _ z=>by cases z))
 ·exact .inl (.inr ⟨o,u6 hn q λo _ z=>by cases z⟩)
 ·exact .inr q
def zI {cs:K7}{φ:Heap->Prop}(hn:∀b o,cs.lookup b=some o->H b=some (.frz o (.own b)))(q:H b=some (.ext φ)):N5 H cs b=some (.ext φ):=by
 unfold N5;cases e:cs.lookup b with
 |none=>simpa[e]using q
 |some o=>have:=hn b o e;rw[q]at this;cases this
def Rep.hid (hn:∀b o,cs.lookup b=some o->H b=some (.frz o (.own b)))(r:Rep K H O v d):Rep K (N5 H cs) O v d:=r.mono (λ_ _ q=>zB hn q) (λ_ _ n q=>⟨n,AK hn q⟩) λb φ n q=>⟨n,zI hn q⟩
def Reps.hid (hn:∀b o,cs.lookup b=some o->H b=some (.frz o (.own b)))(r:Reps K H O v d):Reps K (N5 H cs) O v d:=r.mono (λ_ _ q=>zB hn q) (λ_ _ n q=>⟨n,AK hn q⟩) λb φ n q=>⟨n,zI hn q⟩
end
variable [Tabs]
section
variable(P:Program) (w:World) (K:PySem.W.Frag) (mg:V5) (base:Heap) (k:Nat)
def EI (n:Nat)(m:List D->R D)(H:Hp)(O:Addr->Prop)(a:Addr):Prop:=
 (∃oc od fd sl,H a=some (.frz ⟨oc,od,.func fd,sl⟩ (.own a)))/\
 ∀(A:Around) (outer:List Env) (s:Shared) (us:List Value) (vs:List V) (ds:List D) (d:D) (Q:VK) (E:XK),Room k A->Env0 P w K mg base A outer s H->m6 vs us->Reps K H O vs ds->ds.length=n->(∀a,O a->∃o,H a=some o/\Mt o)->Tb H->R4 K O->m ds=.ok d->
  (∀v H',Same H H'->Rep K H' O v d->Q v H')->codeAny (model P w) A (.call (.ref a) ⟨us,[]⟩) (CR rG outer P w H s Q E) s
end
open Classical in
def callC (Φ:(List D->R D)->Hp->(Addr->Prop)->Addr->Prop) (i:Nat) (f:Ev->R (List D)):Ev->R D:=λρ=>match ρ[i]? with
 |some (.c m φ)=>if φ=Φ m then(f ρ).bind m else .bad
 |_=>.bad
section
def KD (i:Nat)(ha:xU X (e::es) f)(hl:vM f n)(hr:Room k X.A)(hN:X.N[i]?=some x:=by rfl)(hv:sD X.env.scope x:=by first|exact aCt rfl|exact aBy (aCt rfl)|exact aBy (aBy rfl))(hd:(x==("__debug__":Str))=false:=by decide)(gc:(x==("__classdict__":Str))=false:=by decide)(he:starEach (e::es) X.env=(false,eval e X.env)::starEach es X.env:=by rfl)(br:(backTo pos (starEach es X.env)).any (·.1)=false:=by rfl):
  PD X (.Call (.Name x p) (e::es) [] pos) (callC (EI X.prog X.w X.K X.mg X.base k n) i f):=by
 refine sF λpins s σ H Q I Ha O0 O ρ E q=>?_;unfold callC at q;cases e1:ρ[i]? with
 |none=>rw[e1]at q;exact q.elim
 |some sl=>
  rw[e1]at q;cases sl with
  |c m φ=>
   dsimp only at q;split at q
   ·rename_i hφ;subst hφ;obtain⟨a,h1,h2⟩:=E.slot i _ e1;obtain⟨⟨oc,od,fd,sl,hf⟩,_⟩:=h2 H O (Kp.refl _ _);refine aAM (C4 (O7 hN hv hd gc pins s σ H (λv H'=>v=.ref a/\H'=H) I ⟨_,h1,rfl,rfl⟩) λu s1 ⟨v,H1,I1,r1,ev,eH⟩=>?_);subst ev eH;obtain rfl:u=aCJ a:=r1;refine PySem.W.callWith_F ⟨oc,od,fd,sl,(I1.hok a _ hf).1⟩ (C4 (ha pos pins s1 σ H1 _ I1 ⟨Ha,O0,O,ρ,E,DJ.seq q⟩) λus s2 ⟨vs,H2,I2,rv,ds,e2,sm,rr,qq⟩=>⟨⟨oc,od,fd,sl,(I2.hok a _<|sm _ _ hf).1⟩,?_⟩) he br;cases e3:m ds with
    |ex z=>rw[e3]at qq;exact(qq H2<|Same.refl _).elim
    |bad=>rw[e3]at qq;exact qq.elim
    |ok d=>
     rw[e3]at qq;have E2:=E.grow sm;refine aFy (aDc ((h2 H2 O<|Kp.of sm).2 X.A X.stack s2 us vs ds d Q (λ_ _ _=>False) hr I2.ae2 rv rr (hl ρ ds e2) E2.trk E2.tab (pU I2 O E2.trk) e3 qq) λr s' hq=>?_);cases r with
     |error e=>exact hq.elim
     |ok fl=>
      cases fl with
      |ret u=>exact I2.after hq
      |next=>exact aAh hq
      |brk=>exact aAh hq
      |cont=>exact aAh hq
   ·exact q.elim
  |_=>exact q.elim
end
def YB (K:PySem.W.Frag)(Φ:(List D->R D)->Hp->(Addr->Prop)->Addr->Prop)(M:D->(List D->R D)->(List D->R D)->R D):Sp:=λvs H Q _=>∃O v1 d1 a1 m1 a2 m2 d,vs=[v1,.ref a1,.ref a2]/\Rep K H O v1 d1/\(∀H2 O2,Kp H O H2 O2->Φ m1 H2 O2 a1)/\(∀H2 O2,Kp H O H2 O2->Φ m2 H2 O2 a2)/\
 (∀a,O a->∃o,H a=some o/\Mt o)/\Tb H/\R4 K O/\M d1 m1 m2=.ok d/\∀v H',Same H H'->Rep K H' O v d->Q v H'
def iF (N:List Str)(Φ:(List D->R D)->Hp->(Addr->Prop)->Addr->Prop)(d1:D)(m1 m2:List D->R D):Ev:=.v d1::.c m1 (Φ m1)::.c m2 (Φ m2)::aAD (N.length-3) Sl.no
def yG {K:PySem.W.Frag}{H:Hp}{O:Addr->Prop}{N:List Str}{v1:V}{d1:D}{a1 a2:Addr}{m1 m2:List D->R D}{Φ:(List D->R D)->Hp->(Addr->Prop)->Addr->Prop}(r:Rep K H O v1 d1)(c1:∀H2 O2,Kp H O H2 O2->Φ m1 H2 O2 a1)(c2:∀H2 O2,Kp H O H2 O2->Φ m2 H2 O2 a2)
  (t:∀a,O a->∃o,H a=some o/\Mt o) (tb:Tb H):EnvOk K H O H O (start N [v1,.ref a1,.ref a2]) (iF N Φ d1 m1 m2)where
 len:=by simp[L2.start,iF]
 same:=Same.refl H
 sub:=λ_ h=>h
 trk:=t
 trk0:=λa h=>let⟨o,q,_⟩:=t a h;⟨o,q⟩
 tab:=tb
 slot:=λi sl h=>by
  match i with
  |0=>cases h;exact⟨v1,rfl,r⟩
  |1=>cases h;exact⟨a1,rfl,c1⟩
  |2=>cases h;exact⟨a2,rfl,c2⟩
  |i+3=>
   have h':(aAD (N.length-3) Sl.no)[i]?=some sl:=h;rw[aBg]at h';split at h'
   ·cases h';trivial
   ·cases h'
 inj:=λi j x y a h _ o=>by
  match i with
  |0=>cases h;exact o.elim
  |1=>cases h;exact o.elim
  |2=>cases h;exact o.elim
  |i+3=>
   have h':(aAD (N.length-3) Sl.no)[i]?=some x:=h;rw[aBg]at h';split at h'
   ·cases h';exact o.elim
   ·cases h'
section
variable{K:PySem.W.Frag}
def ww {x qual:Str}{st:Stmt}{f:Addr}{fd:FuncData}{N ps:List Str}{k:Nat}{M:D->(List D->R D)->(List D->R D)->R D}{Φ:(List D->R D)->Hp->(Addr->Prop)->Addr->Prop}{F:Ev->R Out}(F0:Fun K x qual st f fd)(S:FnScope N ps (c5 st))(h3:ps.length=3)
  (hb:∀(cdv:Value) (A:Around) (outer:List Env) (s:Shared) (H:Hp) (E:XK),Room k (A.deeper (envOfC qual (c5 st) s.heap.objs.size f cdv))->U6 (MI P w K mg base N qual (c5 st) f cdv A outer s H E) (o6 st) F)
  (hm:∀d1 m1 m2 d,M d1 m1 m2=.ok d->N4 (F (iF N Φ d1 m1 m2))=.ok d):FnOk P w K mg base rG (k+1) f fd ps (YB K Φ M):=by
 refine F0.ok S (λvs H Q E z=>by obtain⟨O,v1,d1,a1,m1,a2,m2,d,e,_⟩:=z;rw[e,h3];rfl) (λcdv A outer s H vs Q E hr z=>?_);obtain⟨O,v1,d1,a1,m1,a2,m2,d,e0,r,c1,c2,ht,tb,fk,e,q⟩:=z;subst e0;refine⟨_,hb cdv A outer s H E hr H O,O,_,yG r c1 c2 ht tb,fk,?_⟩;have h:=hm d1 m1 m2 d e;cases e1:F (iF N Φ d1 m1 m2)with
 |ok o=>
  rw[e1]at h;cases o with
  |rt d'=>have h':R.ok d'=R.ok d:=h;injection h' with h';subst h';exact q
  |nx ρ=>have h':R.ok D.non=R.ok d:=h;injection h' with h';subst h';exactλai H' O' E' _ _=>q .non H' E'.same .non
  |bk ρ=>cases h
  |ct ρ=>cases h
 |ex x=>rw[e1]at h;cases h
 |bad=>rw[e1]at h;cases h
end
structure NScope (ps ls fn:List Str)(sc:Scope):Prop where
 kind:sc.kind=.function
 co:sc.isCoroutine=false
 gen:sc.isGenerator=false
 nd:(ps++(ls++fn)).Nodup
 par:∀x∈ps,sc.names.lookup x=some .local
 fre:∀x∈fn,sc.names.lookup x=some .free
 all:∀x,sc.names.lookup x=some .free->x∈fn
 nocell:∀y∈sc.names,y.2≠.cell
abbrev XH (P:Program)(w:World)(K:PySem.W.Frag)(mg:V5)(base:Heap)(N:List Str)(env:Env)(A:Around)(outer:List Env)(s:Shared)(H:Hp):Cx where
 prog:=P
 w:=w
 K:=K
 mg:=mg
 base:=base
 A:=A.deeper env
 N:=N
 se:=s
 Ha:=H
 env:=env
 outer:=outer
 stack:=env::outer
 ex:=[]
 calm:=true
 fn:=λ_=>false
 pn:=[]
 xe:=λ_ _=>False
def K0 {α:Type}(vs:List α)(n:Nat)(no:α)(ws:List α):List α:=vs++(aAD n no++ws)
def dI {α:Type}{vs ws:List α}{n i:Nat}{no a:α}(h:(K0 vs n no ws)[i]?=some a):vs[i]?=some a\/a=no\/(vs.length+n<=i/\ws[i-(vs.length+n)]?=some a):=by
 unfold K0 at h;by_cases h1:i<vs.length
 ·rw[aAP h1]at h;exact .inl h
 ·rw[aAu (by lia)]at h;by_cases h2:i-vs.length<n
  ·rw[aAP (by simpa using h2),aBg,if_pos h2]at h;exact .inr (.inl (aAj h).symm)
  ·rw[aAu (by simpa using h2),aCe]at h;exact .inr (.inr ⟨by lia,by rw[show i-(vs.length+n)=i-vs.length-n by lia];exact h⟩)
def GO {α:Type}{vs ws:List α}{n i:Nat}{no a:α}(h:vs[i]?=some a):(K0 vs n no ws)[i]?=some a:=by unfold K0;rw[aAP (aAy.mp h).1];exact h
def IH {α:Type}{vs ws:List α}{n i:Nat}{no a:α}(h:ws[i]?=some a):(K0 vs n no ws)[vs.length+n+i]?=some a:=by unfold K0;rw[aAu (by lia),aAu (by simp;lia),aCe,show vs.length+n+i-vs.length-n=i by lia];exact h
section
variable{K:PySem.W.Frag}
def xM {A:Around}{outer:List Env}{s:Shared}{H:Hp}{us:List Value}{vs wv:List V}{h₁:Heap}{tk:Nat}(S:NScope ps ls fn scope)(hd:A.handled=none)(e0:Env0 P w K mg base A outer s H)(hl:vs.length=ps.length)(r:m6 vs us)(uc:wv.length=fn.length)
  (qh:∀(i:Nat) (x:Str) (v:V),fn[i]?=some x->wv[i]?=some v->∃c u,clos.lookup x=some c/\RelV v u/\s.heap.IsCell c (some u)) (hcc:∀x c,clos.lookup x=some c->(∃v,s.heap.IsCell c v)/\H c=none)
  (oh:∀x y c,clos.lookup x=some c->clos.lookup y=some c->x=y) (yu:h₁.Ns s.heap.objs.size (λx=>(ps.zip us).reverse.lookup x)) (hk:∀b o,s.heap.get? b=some o->h₁.get? b=some o):
  Inv (XH P w K mg base (ps++(ls++fn)) (PySem.W.envX qual scope s.heap.objs.size fa cd clos) A outer s H) [] (K0 (vs.map some) ls.length none (wv.map some)) H {s with heap:=h₁,toks:=tk}:=by
 have noA:∀b:Addr,b∉(XH P w K mg base (ps++(ls++fn)) (PySem.W.envX qual scope s.heap.objs.size fa cd clos) A outer s H).ex:=λb z=>absurd (show b∈([]:List Addr)from z) (by simp);have nd1:ps.Nodup:=(aCN.mp S.nd).1;refine⟨⟨e0.mod,S.kind,rfl,rfl,aAg _,oh,λy hy=>?_,λy c hf _=>(by cases hf),λ_=>hd,aFA e0.frames,.inr ⟨rfl,rfl⟩,λb z=>absurd z (noA b),e0.bs,e0.bsz,λb _ _=>noA b,λb z=>absurd z (noA b),e0.funs,e0.frf⟩,
  rfl,e0.bare,Un.kept hk,⟨_,yu,λi y v h1 h2 h3=>?_⟩,λy c h=>?_,e0.hok.fresh (aAg _),λy c h=>(hcc y c h).2,λp hp=>absurd (show p∈([]:K7)from hp) (by simp),e0.hok.kept hk,?_⟩
 ·have hy:scope.names.lookup y=some .cell\/scope.names.lookup y=some .free:=hy;rcases hy with hy|hy
  ·exact absurd rfl (S.nocell _<|PySem.mem_of_lookup hy)
  ·have hm:=S.all y hy;obtain⟨i,hi,e⟩:=aBt hm;have hw:i<wv.length:=by rw[uc];exact hi
   obtain⟨c,u,q,_⟩:=qh i y wv[i] (by rw[aAk hi,e]) (aAk hw);exact⟨c,q⟩
 ·have hN:(ps++(ls++fn))[i]?=some y:=h1;rcases dI h2 with h2|h2|⟨h4,h2⟩
  ·rw[aAN]at h2;cases e:vs[i]? with
   |none=>rw[e]at h2;cases h2
   |some a=>
    rw[e]at h2;have ea:a=v:=aAj (aAj h2);subst ea;obtain⟨u,hu,rv⟩:=r.get e;have hi:i<ps.length:=by rw[<-hl];exact(aAy.mp e).1
    rw[aAP hi]at hN;refine⟨u,rv,.inl ⟨S.par y (aAr hN),?_⟩⟩;refine Y8 ?_ ?_
    ·rw[aFi];refine(List.reverse_perm _).nodup_iff.mpr ?_;rw[List.map_fst_zip (by rw[<-hl,r.length];exact aAg _)];exact nd1
    ·rw[aCS];exact aAr (i:=i) (by rw[aBp];exact⟨hN,hu⟩)
  ·cases h2
  ·rw[aAl]at h4 h2;rw[aAN]at h2;cases e:wv[i-(vs.length+ls.length)]? with
   |none=>rw[e]at h2;cases h2
   |some a=>rw[e]at h2;have ea:a=v:=aAj (aAj h2);subst ea;rw[aAu (by lia),aAu (by lia),<-hl,show i-vs.length-ls.length=i-(vs.length+ls.length)by lia]at hN;obtain⟨c,u,q1,q2,q3⟩:=qh _ y a hN e;exact⟨u,q2,.inr ⟨.inr (S.fre y<|aAr hN),c,q1,q3.keeps hk⟩⟩
 ·obtain⟨⟨v,z⟩,_⟩:=hcc y c h;exact⟨v,z.keeps hk⟩
 ·unfold K0;simp[hl,uc]
def wR {H:Hp}{O:Addr->Prop}{vs wv:List V}{ds wd:List D}{n:Nat}(r:Reps K H O vs ds)(r2:Reps K H O wv wd)(t:∀a,O a->∃o,H a=some o/\Mt o)(tb:Tb H):
  EnvOk K H O H O (K0 (vs.map some) n none (wv.map some)) (K0 (ds.map Sl.v) n .no (wd.map Sl.v))where
 len:=by unfold K0;simp[r.length,r2.length]
 same:=Same.refl H
 sub:=λ_ h=>h
 trk:=t
 trk0:=λa h=>let⟨o,q,_⟩:=t a h;⟨o,q⟩
 tab:=tb
 slot:=λi sl h=>by
  rcases dI h with h|h|⟨h1,h⟩
  ·rw[aAN]at h;cases e:ds[i]? with
   |none=>rw[e]at h;cases h
   |some d=>rw[e]at h;have h':Sl.v d=sl:=aAj h;subst h';obtain⟨v,e1,e2⟩:=r.get e;exact⟨v,GO (by rw[aAN,e1];rfl),e2⟩
  ·subst h;trivial
  ·rw[aAN,aAl]at h;rw[aAl]at h1;cases e:wd[i-(ds.length+n)]? with
   |none=>rw[e]at h;cases h
   |some d=>rw[e]at h;have h':Sl.v d=sl:=aAj h;subst h';obtain⟨v,e1,e2⟩:=r2.get e;refine⟨v,?_,e2⟩;have:=IH (vs:=vs.map some) (n:=n) (no:=(none:Option V)) (ws:=wv.map some) (i:=i-(ds.length+n)) (a:=some v) (by rw[aAN,e1];rfl);rw[aAl,r.length,show ds.length+n+(i-(ds.length+n))=i by lia]at this;exact this
 inj:=λi j x y a h _ o=>by
  rcases dI h with h|h|⟨_,h⟩
  ·obtain⟨d,_,rfl⟩:=aAp.mp (aAr h);exact o.elim
  ·subst h;exact o.elim
  ·obtain⟨d,_,rfl⟩:=aAp.mp (aAr h);exact o.elim
def RV {name:Str}{params:Arguments}{body:List Stmt}{doc pm ctv:Value}{c':Addr}{oc:Obj}{k:Nat}{m:List D->R D}{F:Ev->R Out}{H:Hp}{O:Addr->Prop}{cs:K7}{wv:List V}{wd:List D}(S:NScope ps ls fn scope)
  (hb:∀(A:Around) (outer:List Env) (s:Shared) (H:Hp),Room k (A.deeper (PySem.W.envX qual scope s.heap.objs.size fa (.ref c') clos))->U6 (XH P w K mg base (ps++(ls++fn)) (PySem.W.envX qual scope s.heap.objs.size fa (.ref c') clos) A outer s H) body F)
  (hm:∀ds d,ds.length=ps.length->m ds=.ok d->N4 (F (K0 (ds.map Sl.v) ls.length .no (wd.map Sl.v)))=.ok d)
  (xn:∀(s:Shared) (us:List Value),us.length=ps.length->BindsTo s (PySem.W.fnX name qual params body scope clos .none .none doc pm none (.ref c') ctv) ⟨us,[]⟩ (ps.zip us))
  (hfa:H fa=some (.frz (PySem.W.fnMade name qual params body scope clos doc pm c' ctv) (.own fa))) (hc:H c'=some (.frz oc (.own c'))) (fg:∃vs t,oc.data=.fields vs/\vs[1]?=some (.str qual t))
  (we:∀b o,cs.lookup b=some o->H b=some (.frz o (.own b))/\qE o) (qh:∀(i:Nat) (x:Str) (v:V),fn[i]?=some x->wv[i]?=some v->∃c u o,clos.lookup x=some c/\cs.lookup c=some o/\o.data=.cell (some u)/\RelV v u)
  (hcc:∀x c,clos.lookup x=some c->∃o,cs.lookup c=some o) (oh:∀x y c,clos.lookup x=some c->clos.lookup y=some c->x=y) (uc:wv.length=fn.length) (hr:Reps K H O wv wd) (hO:∀a,O a->∃o,H a=some o/\Mt o):
  ∀H2 O2,Kp H O H2 O2->EI P w K mg base (k+1) ps.length m H2 O2 fa:=by
 intro H2 O2 kp;have fz:∀b o u,H b=some (.frz o u)->H2 b=some (.frz o u):=λb o u e=>(kp b _ e λz=>by obtain⟨o',q,mt⟩:=hO b z;rw[e]at q;cases q;exact mt).1;have zq:∀b o,cs.lookup b=some o->H2 b=some (.frz o (.own b)):=λb o q=>fz _ _ _ (we b o q).1;refine⟨⟨_,_,_,_,fz _ _ _ hfa⟩,λA outer s us vs ds d Q E oo e0 rv rr hl ht tb fk em q=>?_⟩;have KX:K.In s.heap:=e0.mod.kin.keeps λb o e=>(e0.bs b o e).1;have lim:s.heap.NoLimit:=e0.mod.nolimit.keeps λb o e=>(e0.bs b o e).1;have gfa:=(e0.hok fa _<|fz _ _ _ hfa).1;have goc:=(e0.hok c' _<|fz _ _ _ hc).1;obtain⟨ovs,ot,od1,od2⟩:=fg;have hidn:∀b,H2 b=none->N5 H2 cs b=none:=λb n=>by
  cases z:cs.lookup b with
  |none=>rw[K4 z];exact n
  |some o=>exact aE z
 have e1:Env0 P w K mg base A outer s (N5 H2 cs):=⟨e0.frames,e0.mod,λb o e=>⟨(e0.bs b o e).1,hidn b (e0.bs b o e).2⟩,e0.bsz,e0.funs,λb hb=>hidn b (e0.frf b hb),HZ e0.hok λb o z=>⟨zq b o z,(we b o z).2⟩,e0.bare⟩;have zu:∀b o,cs.lookup b=some o->s.heap.get? b=some o:=λb o z=>(e0.hok b _<|zq b o z).1;have cfs:∀b o,cs.lookup b=some o->b∉T3 outer:=λb o z hb=>by have:=e0.frf b hb;rw[zq b o z]at this;cases this
 have hul:us.length=ps.length:=by rw[<-rv.length,rr.length];exact hl
 have hvl:vs.length=ps.length:=by rw[rr.length];exact hl
 have rwv:Reps K (N5 H2 cs) O2 wv wd:=(kp.ac6 hO fk hr).hid zq;have tb1:Tb (N5 H2 cs):=λp hp=>u6 zq (tb p hp) λo _ z=>by cases z
 have ht1:∀a,O2 a->∃o,N5 H2 cs a=some o/\Mt o:=λa z=>by obtain⟨o,q1,q2⟩:=ht a z;exact⟨o,u6 zq q1 λo' _ z'=>by subst z';exact q2,q2⟩
 let Q':VK:=λv H3=>(∀b o,cs.lookup b=some o->H3 b=none)->Q v (bA H3 cs)
 have qq:∀v H',Same (N5 H2 cs) H'->Rep K H' O2 v d->Q' v H':=λv H' sm r hn=>by
  refine q v _ (λb u e=>?_) (r.same<|bY hn);cases z:cs.lookup b with
  |none=>exact D4 hn (sm b u (by rw[K4 z];exact e))
  |some o=>rw[zq b o z]at e;cases e;exact bW z
 have fin:∀{u:Value} {s':Shared},CE outer P w (N5 H2 cs) s Q' u s'->CE outer P w H2 s Q u s':=λ{u s'} ⟨v,H3,os,bare,un,hok,r,qv⟩=>by obtain⟨U2,k2,yy⟩:=QO un hok λb o z=>⟨zu b o z,zq b o z,cfs b o z⟩;exact⟨v,_,os,bare,U2,k2,r,qv λb o z=>un.free b o (zu b o z) (aE z) (by simp)⟩
 refine codeAny_call_def (fd:=PySem.W.fnX name qual params body scope clos .none .none doc pm none (.ref c') ctv) (body:=body) (binds:=ps.zip us) oo.depth gfa rfl lim ⟨c',oc,ovs,ot,rfl,goc,od1,od2⟩ rfl (xn s us hul) S.nocell (λy hy=>S.par y.1 (aDC hy).1) (λh₁ yu hk=>?_) S.co S.gen S.kind;show wpAny (model P w) (A.deeper<|PySem.W.envX qual scope s.heap.objs.size fa (.ref c') clos) (execs body<|PySem.W.envX qual scope s.heap.objs.size fa (.ref c') clos) _ _ _;have I:=xM (qual:=qual) (fa:=fa) (cd:=.ref c') (clos:=clos) (tk:=s.toks+(ps.zip us).length) S oo.hd e1 hvl rv uc (λi x v h1 h2=>by
   obtain⟨c,u,o,q1,q2,q3,q4⟩:=qh i x v h1 h2;exact⟨c,u,q1,q4,o,zu c o q2,q3⟩) (λx c h=>by
   obtain⟨o,z⟩:=hcc x c h;obtain⟨v,z2⟩:=(we c o z).2;exact⟨⟨v,o,zu c o z,z2⟩,aE z⟩) oh yu hk
 have hx:=hb A outer s (N5 H2 cs) (oo.deeper _) (N5 H2 cs) O2 [] _ _ _ {nx:=λ_ H'=>Q' .non H',rt:=Q'} I ⟨O2,_,wR (rr.hid zq) rwv ht1 tb1,fk,?_⟩
 ·refine aBw hx (λfl s' hs=>?_) λe s' hs=>hs.elim;have fin2:∀{ai:St} {H':Hp} {v:V} {u:Value},Inv (XH P w K mg base (ps++(ls++fn)) (PySem.W.envX qual scope s.heap.objs.size fa (.ref c') clos) A outer s<|N5 H2 cs) [] ai H' s'->RelV v u->Q' v H'->CE outer P w H2 s Q u s':=
   λ{ai H' v u} J rv q=>fin ⟨v,H',J.os,J.bare,J.base,J.hok,rv,q⟩
  cases fl with
  |ret u=>obtain⟨v,ai,H',J,rv,q⟩:=hs;exact fin2 J rv q
  |next=>obtain⟨ai,H',J,q⟩:=hs;exact fin2 (v:=V.non) (u:=Value.none) J rfl q
  |brk=>obtain⟨_,_,_,q⟩:=hs;exact aAh q
  |cont=>obtain⟨_,_,_,q⟩:=hs;exact aAh q
 ·have h:=hm ds d hl em;cases e1:F (K0 (ds.map Sl.v) ls.length .no (wd.map Sl.v))with
  |ok o=>
   rw[e1]at h;cases o with
   |rt d'=>have h':R.ok d'=R.ok d:=h;injection h' with h';subst h';exact qq
   |nx ρ=>have h':R.ok D.non=R.ok d:=h;injection h' with h';subst h';exactλai H' O' E' _ _=>qq .non H' E'.same .non
   |bk ρ=>cases h
   |ct ρ=>cases h
  |ex x=>rw[e1]at h;cases h
  |bad=>rw[e1]at h;cases h
end
def eN (mg:V5)(base:Heap):Prop:=∃bm ob,mg "__builtins__"=some (.ref bm)/\bm≠builtinsNs/\base.get? bm=some ob/\ob.cls=.type "module"/\ob.dict=some builtinsNs/\ob.data=.plain
def nV:∀(l:List Value),TriplesOk l->codeAmong pos l=some x->codeAmong pos (l++[rawInt a,rawInt b,c])=some x:=λl h e=>by
 fun_induction TriplesOk l with
 |case1=>simp[codeAmong]at e
 |case2 a' t b' u y rest ih=>
  simp only[aBm,codeAmong]at e⊢;split at e
  ·rename_i hc;rw[if_pos hc];exact e
  ·rename_i hc;rw[if_neg hc];exact ih h e
 |case3 l h1 h2=>exact h.elim
def HX (ne:¬(a=pos.line/\b=pos.col)):∀(l:List Value),TriplesOk l->codeAmong pos l=none->codeAmong pos (l++[rawInt a,rawInt b,c])=none:=λl h e=>by
 fun_induction TriplesOk l with
 |case1=>simp only[aDe,rawInt,codeAmong];rw[if_neg];simp only[aAF,beq_iff_eq];exact ne
 |case2 a' t b' u y rest ih=>
  simp only[aBm,codeAmong]at e⊢;split at e
  ·cases e
  ·rename_i hc;rw[if_neg hc];exact ih h e
 |case3 l h1 h2=>exact h.elim
def dC (H:Hp)(fa:Addr)(name qual:Str)(params:Arguments)(body:List Stmt)(scope:Scope)(clos:List (Str×Addr)):Prop:=
 ∃c' oc doc pm ctv,H fa=some (.frz (PySem.W.fnMade name qual params body scope clos doc pm c' ctv) (.own fa))/\H c'=some (.frz oc (.own c'))/\∃vs t,oc.data=.fields vs/\vs[1]?=some (.str qual t)
def dC.same (h:dC H fa name qual params body scope clos)(s:Same H H'):dC H' fa name qual params body scope clos:=
 let⟨c',oc,doc,pm,ctv,h1,h2,h3⟩:=h;⟨c',oc,doc,pm,ctv,s _ _ h1,s _ _ h2,h3⟩
section
def uY {Q:Flow->Shared->Prop}(I:Inv X pins σ H s)(hB:eN X.mg X.base)(km:X.env.code=.ref c)(hK:PySem.W.codeHdIn X.K c Pt=true)(hT:H Pt=some (.tbl tb))(hq:qualnameIn X.env name name=qual)(hm:(pos,qual)∈tb)(hu:∀p∈tb,p.1.line=pos.line->p.1.col=pos.col->p.2=qual)(qh:closureFor scope X.env=pure clos)(hd0:params.defaults=[])(hk0:params.kw_defaults=[])(ha:annTrees params none X.env=[])(hN:X.N.Nodup)(hi:X.N[i]?=some name)(hx:Loc X.env.scope name)(hf:X.fn name=true\/X.env.scope.names.lookup name=some .local)(h:∀fa H' s',Inv X pins (σ.set i (some (.ref fa))) H' s'->Same H H'->dC H' fa name qual params body scope clos->Q .next s'):wpAny (model X.prog X.w) X.A (exec (.FunctionDef name params body [] none [] scope none name pos) X.env) Q X.xe s:=by
 refine PySem.W.nestDef_K hd0 hk0 ha ?_;rw[hq];have hg:s.heap.Ns mainGlobals X.mg:=I.mod.glob.keeps I.bk;have C:PySem.W.CodeHd s.heap c Pt:=PySem.W.codeHd_of_K I.kIn hK;obtain⟨ps,hP,hTr,hTb⟩:=I.hok Pt _ hT;have hgP:mainGlobals≠Pt:=λq=>by obtain⟨o,es,ep,e,hd,_⟩:=hg;rw[q,hP]at e;cases e;cases hd
 have hb:s.heap.BuiltinsAt X.mg Pt:=by
  obtain⟨bm,ob,b1,b2,b3,b4,b5,b6⟩:=hB;have b3':=I.bk _ _ b3;refine⟨bm,ob,b1,b2,λq=>?_,λq=>?_,b3',b4,b5,b6⟩
  ·obtain⟨o,es,ep,e,hd,_⟩:=hg;rw[<-q,b3']at e;cases e;rw[hd]at b6;cases b6
  ·rw[q,hP]at b3';cases b3';cases b4
 have neP:∀b,H b=none->b≠Pt:=λb n z=>by rw[z,hT]at n;cases n
 have neL:X.env.locals≠Pt:=neP _ I.free;rcases hTb _ hm with hnf|⟨c',oc,vs,t,hf',hc',gc⟩
 ·refine PySem.W.makeFunction_K (mg:=X.mg) qh I.ok.glob hg km C hP hTr hnf hgP hb λc' ctv doc h' tk hx' hge ar hrec htb=>?_;obtain⟨c2,oc,vs,t,e2,fg,hd,hv⟩:=hrec;cases e2;have old:∀b u,H b=some u->b<s.heap.objs.size:=λb u e=>I.hok.lt e;have hcN:H c'=none:=I.hok.fresh hge;have hfN:H h'.objs.size=none:=I.hok.fresh (aAx hge<|aCP ar);have ncf:c'≠h'.objs.size:=aAi ar;have sm:Same H (upd (upd H c'<|.frz oc (.own c')) h'.objs.size<|.frz (PySem.W.fnMade name qual params body scope clos doc ((X.mg "__name__").getD .none) c' ctv) (.own h'.objs.size)):=λb u e=>by rw[j7 (t8 e hfN),j7 (t8 e hcN)];exact e
  have ph:∀b o,b≠Pt->s.heap.get? b=some o->(h'.push<|PySem.W.fnMade name qual params body scope clos doc ((X.mg "__name__").getD .none) c' ctv).get? b=some o:=λb o hb e=>aAc _ (hx' b o hb e);have lts:∀b o,s.heap.get? b=some o->b≠c'/\b≠h'.objs.size:=λb o e=>⟨aAi (aAo (aAf e) hge),aAi (aAo (aAf e)<|aAx hge<|aCP ar)⟩;have I1:=I.step (H':=upd (upd H c'<|.frz oc (.own c')) h'.objs.size (.frz (PySem.W.fnMade name qual params body scope clos doc ((X.mg "__name__").getD .none) c' ctv) (.own h'.objs.size)))
   (h':=h'.push (PySem.W.fnMade name qual params body scope clos doc ((X.mg "__name__").getD .none) c' ctv)) (g':=s.gens) (t':=tk) (d':=s.drawn) (ch:=[]) (λ_ z=>nomatch z) (λb o _ _ _ e n=>ph b o (neP b n) e) (λb o _ _ _ e n=>⟨o.slots,ph b o (neP b n) e⟩)
   (λb o _ e n=>by rw[j7 (lts b o e).2,j7 (lts b o e).1];exact n) (λb o _ e=>by
    by_cases hb:b=Pt
    ·subst hb;exact⟨_,aAc _ htb⟩
    ·exact⟨o,ph b o hb e⟩) (λb xs e=>sm _ _ e) (λb o u e=>sm _ _ e) (λb tb e=>sm _ _ e) (λm' hm'=>by
    obtain⟨o,es,ep,e,r⟩:=hm';exact⟨o,es,ep,ph _ o neL e,r⟩) (λb u e=>by
    by_cases hbf:b=h'.objs.size
    ·subst hbf;rw[i4]at e;cases e;exact⟨aAn _ rfl,_,aAn _ rfl⟩
    ·rw[j7 hbf]at e;by_cases hbc:b=c'
     ·subst hbc;rw[i4]at e;cases e;exact⟨aAc _ fg,_,aAc _ fg⟩
     ·rw[j7 hbc]at e;by_cases hbP:b=Pt
      ·subst hbP;rw[hT]at e;cases e;refine⟨_,aAc _ htb,?_,λp hp=>?_⟩
       ·rw[aFS];exact TriplesOk_snoc _ _ _ _ hTr
       ·rw[aFS];show codeAmong p.1 (ps.toList++[rawInt pos.line,rawInt pos.col,.ref c'])=none\/_;by_cases hpp:(pos.line:Int)=p.1.line/\(pos.col:Int)=p.1.col
        ·rcases hTb p hp with h0|⟨c3,oc3,vs3,t3,h0,h1,h2⟩
         ·have e1:pos.line=p.1.line:=by exact_mod_cast hpp.1
          have e2:pos.col=p.1.col:=by exact_mod_cast hpp.2
          refine .inr ⟨c',oc,vs,t,?_,by rw[j7 ncf,i4],hd,?_⟩
          ·rw[e1,e2];exact codeAmong_snoc _ hTr h0
          ·rw[hu p hp e1.symm e2.symm];exact hv
         ·exact .inr ⟨c3,oc3,vs3,t3,nV _ hTr h0,sm _ _ h1,h2⟩
        ·rcases hTb p hp with h0|⟨c3,oc3,vs3,t3,h0,h1,h2⟩
         ·exact .inl (HX hpp _ hTr h0)
         ·exact .inr ⟨c3,oc3,vs3,t3,nV _ hTr h0,sm _ _ h1,h2⟩
      ·refine(I.hok b u e).ab7 (λb2 v hc q=>ph b2 v (λz=>?_) q) (λb2 z=>sm _ _ z) λb2 u _ z=>sm _ _ z;rcases hc with hc|hc
       ·exact hbP (hc▸z)
       ·rw[z,hT]at hc;cases hc) I.bare
  refine S7 I1 hN hi hx (show RelV (.ref h'.objs.size) _ from rfl) (λs' I'=>h _ _ s' I' sm ⟨c',oc,doc,_,ctv,i4,by rw[j7 ncf,i4],vs,t,hd,hv⟩) hf
 ·refine PySem.W.makeFunction_hit (mg:=X.mg) qh I.ok.glob hg km C hP hTr hf' hb λctv doc h' tk hk ir=>?_;have hfN:H h'.objs.size=none:=I.hok.fresh ir;have I1:=I.laid (a:=h'.objs.size) (o:=.frz (PySem.W.fnMade name qual params body scope clos doc ((X.mg "__name__").getD .none) c' ctv) (.own h'.objs.size)) (h':=h'.push (PySem.W.fnMade name qual params body scope clos doc ((X.mg "__name__").getD .none) c' ctv)) (t':=tk)
   (λb u e=>aAc _ (hk b u e)) ir ⟨aAn _ rfl,_,aAn _ rfl⟩
  refine S7 I1 hN hi hx (show RelV (.ref h'.objs.size) _ from rfl) (λs' I'=>h _ _ s' I' (i5 hfN _) ⟨c',oc,doc,_,ctv,i4,i5 hfN _ _ _ hc',vs,t,gc⟩) hf
end
structure Nst where
 name:Str
 qual:Str
 params:Arguments
 body:List Stmt
 scope:Scope
 pos:Pos
 ps:List Str
 ls:List Str
 fn:List Str
 js:List Nat
 F:Ev->R Out
 mm:List D->List D->R D
 i:Nat
abbrev Nst.stmt (n:Nst):Stmt:=.FunctionDef n.name n.params n.body [] none [] n.scope none n.name n.pos
structure NstOk (X:Cx)(k:Nat)(n:Nst):Prop where
 sc:NScope n.ps n.ls n.fn n.scope
 one:n.ps.length=1
 body:∀(fa:Addr) (cd:Value) (clos:List (Str×Addr)) (A:Around) (outer:List Env) (s:Shared) (H:Hp),Room k (A.deeper (PySem.W.envX n.qual n.scope s.heap.objs.size fa cd clos))->U6 (XH X.prog X.w X.K X.mg X.base (n.ps++(n.ls++n.fn)) (PySem.W.envX n.qual n.scope s.heap.objs.size fa cd clos) A outer s H) n.body n.F
 mm:∀wd ds d,wd.length=n.fn.length->ds.length=n.ps.length->n.mm wd ds=.ok d->N4 (n.F (K0 (ds.map Sl.v) n.ls.length .no (wd.map Sl.v)))=.ok d
 bind:∀(clos:List (Str×Addr)) (doc pm cd ctv:Value) (us:List Value),us.length=n.ps.length->bindArgs (PySem.W.fnX n.name n.qual n.params n.body n.scope clos .none .none doc pm none cd ctv) ⟨us,[]⟩=pure (n.ps.zip us)
 len:n.js.length=n.fn.length
 at_:∀(i j:Nat) (x:Str),n.js[i]?=some j->n.fn[i]?=some x->X.N[j]?=some x/\X.env.scope.names.lookup x=some .cell
 d0:n.params.defaults=[]
 k0:n.params.kw_defaults=[]
 nm:X.N[n.i]?=some n.name
 lc:Loc X.env.scope n.name
 st:X.fn n.name=true\/X.env.scope.names.lookup n.name=some .local
 dbg:(n.name==("__debug__":Str))=false
 cdt:(n.name==("__classdict__":Str))=false
structure ClosOk (X:Cx)(n:Nst)(clos:List (Str×Addr)):Prop where
 eq:closureFor n.scope X.env=pure clos
 ann:annTrees n.params none X.env=[]
 qn:qualnameIn X.env n.name n.name=n.qual
 sub:∀x c,clos.lookup x=some c->X.env.cells.lookup x=some c
 has:∀x∈n.fn,∃c,clos.lookup x=some c
def bD:List Nat->Ev->R (List D)
 |[],_=>.ok []
 |j::js,ρ=>(aT j ρ).bind λd=>(bD js ρ).bind λds=>.ok (d::ds)
theorem IS {K:PySem.W.Frag}{Ha H:Hp}{O0 O:Addr->Prop}{σ:St}{ρ:Ev}(E:EnvOk K Ha O0 H O σ ρ):∀{js:List Nat} {wd:List D},bD js ρ=.ok wd->∃wv,Reps K H O wv wd/\wv.length=js.length/\∀(i j:Nat) (v:V),js[i]?=some j->wv[i]?=some v->σ[j]?=some (some v)
 |[],wd,h=>by cases h;exact⟨[],.nil,rfl,λi j v e=>by simp at e⟩
 |j::js,wd,h=>by
  unfold bD at h;cases e1:aT j ρ with
  |ok d=>
   rw[e1,R.aa0]at h;cases e2:bD js ρ with
   |ok ds=>
    rw[e2,R.aa0]at h;cases h;obtain⟨wv,r,hl,at_⟩:=IS E e2;have:ρ[j]?=some (.v d):=by
     unfold aT at e1;split at e1
     ·rename_i q;cases e1;exact q
     ·cases e1
    obtain⟨v,h1,h2⟩:=E.val j d this;refine⟨v::wv,.cons h2 r,by simp[hl],λi j' v' q1 q2=>?_⟩;cases i with
    |zero=>simp at q1 q2;subst q1 q2;exact h1
    |succ i=>exact at_ i j' v' (by simpa using q1) (by simpa using q2)
   |ex z=>rw[e2]at h;cases h
   |bad=>rw[e2]at h;cases h
  |ex z=>rw[e1]at h;cases h
  |bad=>rw[e1]at h;cases h
section
def R5 (h:Heap)(cl:List (Str×Addr)):List (Addr×Obj):=cl.filterMap λp=>(h.get? p.2).map λo=>(p.2,o)
def J6 (e:(R5 h cl).lookup b=some o):h.get? b=some o/\∃x,(x,b)∈cl:=by
 obtain⟨p,hp,q⟩:=aBC.mp (mem_lookup e);cases z:h.get? p.2 with
 |none=>rw[z]at q;cases q
 |some o'=>rw[z]at q;have q':(p.2,o')=(b,o):=aAj q;injection q' with q1 q2;subst q1 q2;exact⟨z,p.1,hp⟩
def jG (hm:(x,b)∈cl)(e:h.get? b=some o):∃o',(R5 h cl).lookup b=some o':=by
 have:(b,o)∈R5 h cl:=aBC.mpr ⟨(x,b),hm,by show(h.get? b).map _=_;rw[e];rfl⟩;cases q:(R5 h cl).lookup b with
 |some o'=>exact⟨o',rfl⟩
 |none=>have:=List.lookup_eq_none_iff.mp q (b,o) this;simp at this
def XJ (X:Cx)(n1 n2:Nst)(clos1 clos2:List (Str×Addr))(f:Ev->R D)(M:D->(List D->R D)->(List D->R D)->R D):TE:=λσ H Q=>∃Ha O0 O ρ ym fa2,EnvOk X.K Ha O0 H O σ ρ/\σ[n1.i]?=some (some<|V.ref ym)/\σ[n2.i]?=some (some<|V.ref fa2)/\
 dC H ym n1.name n1.qual n1.params n1.body n1.scope clos1/\dC H fa2 n2.name n2.qual n2.params n2.body n2.scope clos2/\RC X H O ((f ρ).bind λd1=>(bD n1.js ρ).bind λw1=>(bD n2.js ρ).bind λw2=>M d1 (n1.mm w1) (n2.mm w2)) Q
def uH {n:Nst}{clos clA:List (Str×Addr)}{k:Nat}{pins:K7}{σ:St}{H:Hp}{s:Shared}{Ha:Hp}{O0 O:Addr->Prop}{ρ:Ev}{fa:Addr}{wd:List D}(ok:NstOk X k n)(hc:ClosOk X n clos)(I:Inv X pins σ H s)(E:EnvOk X.K Ha O0 H O σ ρ)
  (hA:∀p∈clos,p∈clA) (hAc:∀x b,(x,b)∈clA->X.env.cells.lookup x=some b) (made:dC H fa n.name n.qual n.params n.body n.scope clos) (hw:bD n.js ρ=.ok wd):
  ∀H2 O2,Kp (bA H (R5 s.heap clA)) O H2 O2->EI X.prog X.w X.K X.mg X.base (k+1) 1 (n.mm wd) H2 O2 fa:=by
 obtain⟨c',oc,doc,pm,ctv,h1,h2,h3⟩:=made;obtain⟨wv,ri,hl,at_⟩:=IS E hw;have hn:∀b o,(R5 s.heap clA).lookup b=some o->H b=none:=λb o q=>by obtain⟨_,x,hm⟩:=J6 q;exact I.freeC x b (hAc x b hm)
 have sm:=bY hn
 suffices key:∀H2 O2,Kp (bA H<|R5 s.heap clA) O H2 O2->EI X.prog X.w X.K X.mg X.base (k+1) n.ps.length (n.mm wd) H2 O2 fa by rw[ok.one]at key;exact key
 refine RV (cs:=R5 s.heap clA) (wv:=wv) (wd:=wd) (F:=n.F) ok.sc (λA outer s H hr=>ok.body fa (.ref c') clos A outer s H hr) (λds d mn e=>ok.mm wd ds d (by rw[<-ri.length,hl,ok.len]) mn e) (λs us mn=>.of_eq (ok.bind clos doc pm (.ref c') ctv us mn)) (sm _ _ h1) (sm _ _ h2) h3
  (λb o q=>⟨bW q,?_⟩) (λi x v q1 q2=>?_) (λx c q=>?_) (λx y c q1 q2=>I.ok.inj x y c (hc.sub x c q1) (hc.sub y c q2)) (by rw[hl,ok.len]) (ri.same sm) (E.grow sm).trk
 ·obtain⟨e1,x,hm⟩:=J6 q;obtain⟨v,o',e2,e3⟩:=I.cell x b (hAc x b hm);rw[e1]at e2;cases e2;exact⟨v,e3⟩
 ·have hi:i<n.js.length:=by rw[ok.len];exact(aAy.mp q1).1
  have ej:n.js[i]?=some n.js[i]:=aAk hi;obtain⟨hN,hk⟩:=ok.at_ i _ x ej q1;have hσ:=at_ i _ v ej q2;obtain⟨m,yu,hloc⟩:=I.loc;obtain⟨u,ru,look⟩:=hloc _ x v hN hσ (.inr (.inl hk));rcases look with⟨mh,_⟩|⟨_,c,jd,o,ho,hd⟩
  ·have hk'':X.env.scope.names.lookup x=some .local:=mh;rw[hk]at hk'';cases hk''
  ·obtain⟨c2,q3⟩:=hc.has x (aAr q1);have q4:=hc.sub x c2 q3;rw[jd]at q4;cases q4;obtain⟨o',q5⟩:=jG (hA _<|PySem.mem_of_lookup q3) ho;have:=(J6 q5).1;rw[ho]at this;cases this;exact⟨c,u,o,q3,q5,hd,ru⟩
 ·obtain⟨v,o,ho,_⟩:=I.cell x c (hc.sub x c q);exact jG (hA _<|PySem.mem_of_lookup q) ho
def NR (qa:NstOk X k n1)(qc:NstOk X k n2)(yi:ClosOk X n1 clos1)(kg:ClosOk X n2 clos2)(hA:∀x b,(x,b)∈clos1++clos2->X.env.cells.lookup x=some b)(FF:FnOk X.prog X.w X.K X.mg X.base rG kf g gd ps3 (YB X.K (EI X.prog X.w X.K X.mg X.base (k+1) 1) M))(hr:Room kf X.A)(hm:X.mg x=some (.ref g))(hk:PySem.W.keepIn X.K (.ref g)=true)(hb:Binds X.K gd ps3 [])(h3:ps3.length=3)(he:PD X e f)(xv:∀y,X.fn y=true)(hg:Gl X x:=by rfl)(dh:(x==("__debug__":Str))=false:=by decide)(yx:starEach [e,.Name n1.name p1,.Name n2.name p2] X.env=(false,eval e X.env)::starEach [.Name n1.name p1,.Name n2.name p2] X.env:=by rfl)(zk:starEach [.Name n1.name p1,.Name n2.name p2] X.env=(false,eval (.Name n1.name p1) X.env)::starEach [.Name n2.name p2] X.env:=by rfl)(hs3:starEach [.Name n2.name p2] X.env=(false,eval (.Name n2.name p2) X.env)::starEach [] X.env:=by rfl)(br:(backTo pos (starEach [.Name n1.name p1,.Name n2.name p2] X.env)).any (·.1)=false:=by rfl):
  PE X (.Call (.Name x p) [e,.Name n1.name p1,.Name n2.name p2] [] pos) (XJ X n1 n2 clos1 clos2 f M):=by
 intro pins s σ H Q I ⟨Ha,O0,O,ρ,ym,fa2,E,h1,h2,md1,md2,q⟩;have vis:∀{y:Str},Loc X.env.scope y->sD X.env.scope y:=λh=>h.elim .inl λz=>.inr (.inl z);have qu:PA X [e,.Name n1.name p1,.Name n2.name p2] _:=K1 he (K1 (O7 qa.nm (vis qa.lc) qa.dbg qa.cdt) (K1 (O7 qc.nm (vis qc.lc) qc.dbg qc.cdt) aY hs3) zk) yx;refine aAM (Z7 I hg hm ?_ dh);refine PySem.W.callWith_K (h₀:=X.base) I.ok.mod.kin hk (C4 (qu pos pins s σ H (λvs H1=>∃v1 d1 w1 w2 d,vs=[v1,.ref ym,.ref fa2]/\Same H H1/\Rep X.K H1 O v1 d1/\bD n1.js ρ=.ok w1/\bD n2.js ρ=.ok w2/\M d1 (n1.mm w1) (n2.mm w2)=.ok d/\∀v H',Same H1 H'->Rep X.K H' O v d->Q v H') I ⟨Ha,O0,O,ρ,E,?_⟩) λus s1 ⟨vs,H1,I1,r,v1,d1,w1,w2,d,ev,sm,r1,c1,c2,em,qq⟩=>⟨I1.kIn,?_⟩) yx br
 ·cases e1:f ρ with
  |ex z=>rw[e1]at q;exact q
  |bad=>rw[e1]at q;exact q
  |ok d1=>
   rw[e1,R.aa0]at q;cases e2:bD n1.js ρ with
   |ex z=>rw[e2]at q;exact(q H<|Same.refl _).elim
   |bad=>rw[e2]at q;exact q.elim
   |ok w1=>
    rw[e2,R.aa0]at q;cases e3:bD n2.js ρ with
    |ex z=>rw[e3]at q;exact(q H<|Same.refl _).elim
    |bad=>rw[e3]at q;exact q.elim
    |ok w2=>
     rw[e3,R.aa0]at q;cases e4:M d1 (n1.mm w1) (n2.mm w2)with
     |ex z=>rw[e4]at q;exact(q H<|Same.refl _).elim
     |bad=>rw[e4]at q;exact q.elim
     |ok d=>rw[e4]at q;exactλv1 H1 s1 r1=>⟨_,h1,_,h2,v1,d1,w1,w2,d,rfl,s1,r1,rfl,rfl,e4,λv H' s2 r2=>q v H' (s1.trans s2) r2⟩
 ·subst ev;have E1:=E.grow sm;generalize we:R5 s1.heap (clos1++clos2)=cs;have hn:∀b o,cs.lookup b=some o->s1.heap.get? b=some o/\H1 b=none/\qE o:=λb o z=>by rw[<-we]at z;obtain⟨e1,y,hm⟩:=J6 z;obtain⟨v,o',e2,e3⟩:=I1.cell y b (hA y b hm);rw[e1]at e2;cases e2;exact⟨e1,I1.freeC y b (hA y b hm),v,e3⟩
  have hn0:∀b o,cs.lookup b=some o->H1 b=none:=λb o z=>(hn b o z).2.1;have smf:Same H1 (bA H1 cs):=bY hn0;have E2:=E1.grow smf;have e0:=I1.ae2;have nofr:∀b o,cs.lookup b=some o->b∉T3 X.stack:=λb o z hb=>by
   rw[<-we]at z;obtain⟨_,y,hmy⟩:=J6 z;rcases aAe.mp (I1.ab0 b hb)with e|hb
   ·exact I1.cne y b (hA y b hmy) e
   ·obtain⟨_,o',ho,_⟩:=I1.ok.funs.mem hb;exact absurd (aAo (aAf ho)<|I1.ok.cab y b (xv y)<|hA y b hmy) (aAZ _)
  have nob:∀b o,X.base.get? b=some o->cs.lookup b=none:=λb o e=>by
   cases z:cs.lookup b with
   |none=>rfl
   |some o'=>rw[<-we]at z;obtain⟨_,y,hm⟩:=J6 z;exact absurd (aAo (aAf e)<|aAx I1.ok.bsz<|I1.ok.cab y b (xv y)<|hA y b hm) (aAZ _)
  have e2:Env0 X.prog X.w X.K X.mg X.base X.A X.stack s1 (bA H1 cs):=⟨e0.frames,e0.mod,λb o e=>⟨(e0.bs b o e).1,by rw[M9 (nob b o e)];exact(e0.bs b o e).2⟩,e0.bsz,e0.funs,λb hb=>by
   cases z:cs.lookup b with
   |none=>rw[M9 z];exact e0.frf b hb
   |some o=>exact absurd hb (nofr b o z),HY e0.hok λb o z=>⟨(hn b o z).1,(hn b o z).2.1⟩,e0.bare⟩
  have cl1:=uH qa yi I1 E1 (λp hp=>aBz _ hp) hA (md1.same sm) c1;have cl2:=uH qc kg I1 E1 (λp hp=>aAC _ hp) hA (md2.same sm) c2;rw[we]at cl1 cl2;have hl:us.length=ps3.length:=by rw[<-r.length,h3];rfl
  have hbs:=hb s1 us I1.kIn (by rw[aBr];exact hl);rw[aBr]at hbs;refine aFy (aDc (FF.run X.A X.stack s1 (bA H1 cs) ⟨us,[]⟩ us _ (λv H'=>Q v (N5 H' cs)) (λ_ _ _=>False) hr e2 hbs r ⟨O,v1,d1,ym,_,fa2,_,d,rfl,r1.same smf,cl1,cl2,E2.trk,E2.tab,pU I1 O E1.trk,em,λv H' s2 r2=>?_⟩) λrr s' hq=>?_)
  ·have hz:∀b o,cs.lookup b=some o->H' b=some (.frz o (.own b)):=λb o z=>s2 _ _ (bW z);refine qq v _ (λb u e=>u6 hz (s2 b u<|smf b u e) λo z _=>?_) (r2.hid hz);rw[hn0 b o z]at e;cases e
  ·cases rr with
   |error e=>exact hq.elim
   |ok fl=>
    cases fl with
    |next=>exact aAh hq
    |brk=>exact aAh hq
    |cont=>exact aAh hq
    |ret u=>obtain⟨v,H',os,bare,un,hok,rv,qv⟩:=hq;obtain⟨U2,k2,_⟩:=TU un hok hn;exact I1.after ⟨v,_,os,bare,U2,k2,rv,qv⟩
def DR (qa:NstOk X k n1)(qc:NstOk X k n2)(yi:ClosOk X n1 clos1)(kg:ClosOk X n2 clos2)(hA:∀x b,(x,b)∈clos1++clos2->X.env.cells.lookup x=some b)(hB:eN X.mg X.base)(km:X.env.code=.ref c)(hK:PySem.W.codeHdIn X.K c Pt=true)(hTt:(Pt,tb)∈Tabs.tbs)(hm1:(n1.pos,n1.qual)∈tb)(lu:(n2.pos,n2.qual)∈tb)(jb:∀p∈tb,p.1.line=n1.pos.line->p.1.col=n1.pos.col->p.2=n1.qual)(hu2:∀p∈tb,p.1.line=n2.pos.line->p.1.col=n2.pos.col->p.2=n2.qual)(bf:n1.i≠n2.i)(hN:X.N.Nodup)(FF:FnOk X.prog X.w X.K X.mg X.base rG kf g gd ps3 (YB X.K (EI X.prog X.w X.K X.mg X.base (k+1) 1) M))(hr:Room kf X.A)(hm:X.mg x=some (.ref g))(hk:PySem.W.keepIn X.K (.ref g)=true)(hb:Binds X.K gd ps3 [])(h3:ps3.length=3)(he:PD X e f)(xv:∀y,X.fn y=true)(hg:Gl X x:=by rfl)(dh:(x==("__debug__":Str))=false:=by decide)(yx:starEach [e,.Name n1.name p1,.Name n2.name p2] X.env=(false,eval e X.env)::starEach [.Name n1.name p1,.Name n2.name p2] X.env:=by rfl)(zk:starEach [.Name n1.name p1,.Name n2.name p2] X.env=(false,eval (.Name n1.name p1) X.env)::starEach [.Name n2.name p2] X.env:=by rfl)(hs3:starEach [.Name n2.name p2] X.env=(false,eval (.Name n2.name p2) X.env)::starEach [] X.env:=by rfl)(br:(backTo pos (starEach [.Name n1.name p1,.Name n2.name p2] X.env)).any (·.1)=false:=by rfl):
  U6 X [n1.stmt,n2.stmt,.Return (some (.Call (.Name x p) [e,.Name n1.name p1,.Name n2.name p2] [] pos)) rpos] (λρ=>((f ((ρ.set n1.i .no).set n2.i .no)).bind λd1=>(bD n1.js ((ρ.set n1.i .no).set n2.i .no)).bind λw1=>(bD n2.js ((ρ.set n1.i .no).set n2.i .no)).bind λw2=>M d1 (n1.mm w1) (n2.mm w2)).bind λd=>.ok (.rt d)):=by
 intro Ha O0 pins s σ H D I ⟨O,ρ,E,fk,q⟩;refine aCA (uY (σ:=σ) I hB km hK (E.tab _ hTt) yi.qn hm1 jb yi.eq qa.d0 qa.k0 yi.ann hN qa.nm qa.lc qa.st λym H1 s1 I1 sm1 md1=>?_);have E1:EnvOk X.K Ha O0 H1 O (σ.set n1.i<|some<|.ref ym) (ρ.set n1.i .no):=(E.grow sm1).put n1.i (λz=>z) trivial;refine aCA (uY (σ:=σ.set n1.i (some<|.ref ym)) I1 hB km hK (E1.tab _ hTt) kg.qn lu hu2 kg.eq qc.d0 qc.k0 kg.ann hN qc.nm qc.lc qc.st λfa2 H2 s2 I2 yy md2=>?_);have E2:EnvOk X.K Ha O0 H2 O ((σ.set n1.i<|some<|.ref ym).set n2.i (some<|.ref fa2)) ((ρ.set n1.i .no).set n2.i .no):=(E1.grow yy).put n2.i (λz=>z) trivial;have l1:n1.i<σ.length:=by rw[I.len];exact(aAy.mp qa.nm).1
 have l2:n2.i<σ.length:=by rw[I.len];exact(aAy.mp qc.nm).1
 refine zV (GL<|NR qa qc yi kg hA FF hr hm hk hb h3 he xv hg dh yx zk hs3 br) pins s2 _ H2 D I2 ⟨Ha,O0,O,_,ym,fa2,E2,?_,?_,md1.same yy,md2,?_⟩
 ·rw[aCp (aCm bf),aBq l1]
 ·rw[aBq (by rw[List.length_set];exact l2)]
 ·revert q;dsimp only;generalize((f<|(ρ.set n1.i .no).set n2.i .no).bind λd1=>(bD n1.js<|(ρ.set n1.i .no).set n2.i .no).bind λw1=>(bD n2.js<|(ρ.set n1.i .no).set n2.i .no).bind λw2=>M d1 (n1.mm w1) (n2.mm w2))=rr;intro q;cases rr with
  |ok d=>exactλv H' s r=>q v H' (E2.same.trans s) (r.sub E2.sub)
  |ex z=>exactλH' s=>q H' (E2.same.trans s)
  |bad=>exact q
end
def rW (K:PySem.W.Frag):Sp:=λvs H Q _=>∃(a:Addr) (ns:List Int),vs=[.ref a]/\N1 K H a (ns.map V.int)/\ns.length<=63/\(∀x∈ns,aAQ x<=1048576)/\Tb H/\∀H',Q (.bl true) H'
def ND {P:Program}{w:World}{K:PySem.W.Frag}{mg:V5}{base:Heap}{k:Nat}{f:Addr}{fd:FuncData}{m:List D->R D}(F:FnOk P w K mg base rG k f fd ["script"] (UI K 1 m))
  (h:∀ns:List Int,ns.length<=63->(∀x∈ns,aAQ x<=1048576)->m [.lst (ns.map D.int)]=.ok (.bl true)):FnOk P w K mg base rG k f fd ["script"] (rW K):=
 F.imp λvs H Q E ⟨a,ns,e,hS,hl,hb,tb,q⟩=>⟨λ_=>False,_,_,by rw[e];exact .cons (.lst hS (λz=>z) (Reps.ints ns)) .nil,rfl,λ_ z=>z.elim,tb,λ_ _ _ z=>z,h ns hl hb,λv H' _ r=>by cases r;exact q H'⟩
def BX {P:Program}{w:World}{K:PySem.W.Frag}{mg mb:V5}{k:Nat}{fa a:Addr}{fd:FuncData}{ah:Shared}{vs:List Value}{ns:List Int}
  (KX:K.In ah.heap) (yu:ah.heap.Ns mainGlobals mg) (hb:ah.heap.Ns builtinsNs mb) (hbb:∀x:Str,x≠ "__name__"->mb x=bootBuiltins x) (hlim:ah.heap.NoLimit) (hB:eN mg ah.heap) (hg:ah.gens=#[])
  (ha:ah.heap.get? a=some {cls:=.type "list",data:=.seq vs.toArray}) (hi:IntsAre vs ns) (hl:ns.length<=63) (xo:∀x∈ns,aAQ x<=1048576) (hr:Room k callerA)
  (hT:∀p∈Tabs.tbs,ah.heap.get? p.1=some (PySem.W.tabObj #[])/\isCodeTable ah.heap p.1) (hTd:(Tabs.tbs.map (·.1)).Nodup) (hKn:PySem.W.noTabs K=true)
  (F:∀base:Heap,K.In base->base.Ns mainGlobals mg->eN mg base->FnOk P w K mg base rG k fa fd ["script"] (rW K)) (xn:∀(s:Shared) (u:Value),BindsTo s fd ⟨[u],[]⟩ [("script",u)]):
  codeAny (model P w) callerA (.call (.ref fa) ⟨[.ref a],[]⟩) (λr s'=>r=.ok (.ret (.bool true))/\OldK ah.heap s'.heap/\s'.os=ah.os/\AllBare s'.gens) ah:=by
 have rv:=L2.pJ hi;have lenV:=hi.length;have ji:ns.length<=sizeLine:=aAx hl (by decide);have uh:∀b tb,Tabs.tbs.lookup b=some tb->ah.heap.get? b=some (PySem.W.tabObj #[])/\isCodeTable ah.heap b:=λb tb e=>hT (b,tb) (mem_lookup e);have nta:Tabs.tbs.lookup a=none:=by
  cases e:Tabs.tbs.lookup a with
  |none=>rfl
  |some tb=>have:=(uh a tb e).1;rw[ha]at this;cases this
 have noK:∀b o,K.lookup b=some o->Tabs.tbs.lookup b=none:=λb o e=>by
  cases z:Tabs.tbs.lookup b with
  |none=>rfl
  |some tb=>have e1:=KX b o e;rw[(uh b tb z).1]at e1;cases e1;have h2:=aBU.mp hKn (b,_) (PySem.W.mem_of_lookupK e);exact absurd (show false=true from h2) aAL
 let put:Hp->Hp:=λH b=>match Tabs.tbs.lookup b with
  |some tb=>some (.tbl tb)
  |none=>H b
 have kP:∀(H:Hp) b tb,Tabs.tbs.lookup b=some tb->put H b=some (.tbl tb):=λH b tb e=>by show(match Tabs.tbs.lookup b with|some tb=>some (HO.tbl tb)|none=>H b)=_;rw[e]
 have ip:∀(H:Hp) b,Tabs.tbs.lookup b=none->put H b=H b:=λH b e=>by show(match Tabs.tbs.lookup b with|some tb=>some (HO.tbl tb)|none=>H b)=_;rw[e]
 have core:∀H0:Hp,(∀b,H0 b=none\/∃xs,H0 b=some (.frz {cls:=.type "list",data:=.seq vs.toArray} (.lst xs)))->N1 K (put H0) a (ns.map V.int)->(∀b u,H0 b=some u->ObjOk P w (put H0) ah.heap b u)->(∀b,H0 b≠none->b=a)->(H0 a≠none->K.lookup a=none)->
   codeAny (model P w) callerA (.call (.ref fa) ⟨[.ref a],[]⟩) (λr s'=>r=.ok (.ret (.bool true))/\OldK ah.heap s'.heap/\s'.os=ah.os/\AllBare s'.gens) ah:=by
  intro H0 hO hS hok0 hA hK;have hok:W7 P w (put H0) ah.heap:=λb u e=>by
   cases z:Tabs.tbs.lookup b with
   |none=>rw[ip _ b z]at e;exact hok0 b u e
   |some tb=>rw[kP _ b tb z]at e;cases e;exact⟨#[],(uh b tb z).1,trivial,λp _=>.inl rfl⟩
  have nu:∀{b:Addr} {o:Obj},ah.heap.get? b=some o->put H0 b=none->(nP ah.heap<|put H0).get? b=some o:=λe n=>GJ e n;have none_of:∀{b:Addr} {o:Obj},ah.heap.get? b=some o->o≠PySem.W.tabObj #[]->o≠{cls:=.type "list",data:=.seq vs.toArray}->put H0 b=none:=λ{b o} e n1 n2=>by
   cases z:Tabs.tbs.lookup b with
   |some tb=>have:=(uh b tb z).1;rw[e]at this;exact absurd (aAj this) n1
   |none=>
    rw[ip _ b z];cases q:H0 b with
    |none=>rfl
    |some u=>have e':b=a:=hA b (by rw[q];simp);subst e';rw[ha]at e;exact absurd (aAj e).symm n2
  have nsK:∀{b:Addr} {m:V5},ah.heap.Ns b m->(nP ah.heap<|put H0).Ns b m:=λ{b m} ⟨o,es,ep,e,d,r⟩=>⟨o,es,ep,nu e (none_of e (λz=>by rw[z]at d;cases d) λz=>by rw[z]at d;cases d),d,r⟩;have hKb:K.In (nP ah.heap<|put H0):=λb o e=>nu (KX b o e) (by
   rw[ip _ b (noK b o e)];cases q:H0 b with
   |none=>rfl
   |some u=>have e':b=a:=hA b (by rw[q];simp);subst e';rw[hK (by rw[q];simp)]at e;cases e)
  have hBb:eN mg (nP ah.heap<|put H0):=by obtain⟨bm,ob,b1,b2,b3,b4,b5,b6⟩:=hB;exact⟨bm,ob,b1,b2,nu b3 (none_of b3 (λz=>by rw[z]at b6;cases b6) λz=>by rw[z]at b6;cases b6),b4,b5,b6⟩
  have hM:Mod K mg (nP ah.heap<|put H0):=⟨hKb,nsK yu,⟨mb,nsK hb,hbb⟩,let⟨mc,h1,h2⟩:=hlim;⟨mc,nsK h1,h2⟩⟩;have e0:Env0 P w K mg (nP ah.heap<|put H0) callerA [] ah (put H0):=⟨rfl,hM,λb o e=>OC e,aDU (BH _ _),trivial,λb hb=>absurd (show b∈([]:List Addr)from hb) (by simp),hok,.of_eq hg⟩;have tb0:Tb (put H0):=λp hp=>kP _ p.1 p.2 (Y8 hTd hp);refine aDc ((F _ hKb (nsK yu) hBb).run callerA [] ah (put H0) ⟨[.ref a],[]⟩ [.ref a] [.ref a] (λv _=>v=.bl true) (λ_ _ _=>False) hr e0 (xn ah<|.ref a) (.cons rfl .nil) ⟨a,ns,rfl,hS,hl,xo,tb0,λ_=>rfl⟩) λr s' h=>?_;cases r with
  |error e=>exact(show False from h).elim
  |ok fl=>
   cases fl with
   |next=>exact aAh h
   |brk=>exact aAh h
   |cont=>exact aAh h
   |ret u=>
    obtain⟨v,H',os,bare,un,yz,r',q⟩:=h;have q':v=.bl true:=q;subst q';obtain rfl:u=aBX true:=r';have each:∀b o,ah.heap.get? b=some o->s'.heap.get? b=some o\/(isCodeTable ah.heap b/\o=PySem.W.tabObj #[]/\∃ps,s'.heap.get? b=some (PySem.W.tabObj ps)):=λb o e=>by
     cases z:Tabs.tbs.lookup b with
     |some tb=>have:=(uh b tb z).1;rw[e]at this;obtain⟨ps,hps,_⟩:=yz b _ (un.tbls b tb<|kP _ b tb z);exact .inr ⟨(uh b tb z).2,aAj this,ps,hps⟩
     |none=>
      refine .inl ?_;rcases hO b with n|⟨xs,n⟩
      ·exact un.keep b o e (by rw[ip _ b z];exact n) (by intro z;exact absurd (show b∈([]:List Addr)from z) (by simp)) (by simp)
      ·have z1:put H0 b=some (.frz {cls:=.type "list",data:=.seq vs.toArray} (.lst xs)):=by rw[ip _ b z];exact n
       have z2:=un.frzs b _ _ z1;obtain⟨e1,_⟩:=hok b _ z1;obtain⟨e2,_⟩:=yz b _ z2;rw[e]at e1;cases e1;exact e2
    refine⟨rfl,⟨λb o e=>?_,λb o e=>?_⟩,os,bare⟩
    ·rcases each b o e with h|⟨h1,h2,ps,h3⟩
     ·exact .inl h
     ·subst h2;exact .inr (.inl ⟨h1,rfl,#[],ps,rfl,by rw[Array.empty_append];exact h3⟩)
    ·rcases each b o e with h|⟨h1,h2,ps,h3⟩
     ·exact⟨o,h⟩
     ·exact⟨_,h3⟩
 cases hk:K.lookup a with
 |some o=>have e:=KX a o hk;rw[ha]at e;cases e;refine core (λ_=>none) (λ_=>.inl rfl) (.inr ⟨_,vs.toArray,_,hk,rfl,rfl,rfl,by rw[aAm,lenV];exact ji,by simpa using rv⟩) (λb u z=>by have z':(none:Option HO)=some u:=z;cases z') (λb z=>absurd rfl z) λz=>absurd rfl z
 |none=>
  obtain⟨H0,h1,h2⟩:∃H0:Hp,H0 a=some (.frz {cls:=.type "list",data:=.seq vs.toArray} (.lst (ns.map V.int)))/\∀b,b≠a->H0 b=none:=⟨λb=>if b=a then _ else none,if_pos rfl,λb hb=>if_neg hb⟩;refine core H0 (λb=>?_) (.inl (.inr ⟨{cls:=.type "list",data:=.seq vs.toArray},(ip H0 a nta).trans h1⟩)) (λb u z=>?_) (λb z=>?_) λ_=>hk
  ·by_cases hb:b=a
   ·subst hb;exact .inr ⟨_,h1⟩
   ·exact .inl (h2 b hb)
  ·by_cases hb:b=a
   ·subst hb;rw[h1]at z;cases z;exact⟨ha,by rw[aAl];exact ji,vs,_,rv,ha⟩
   ·rw[h2 b hb]at z;cases z
  ·by_cases hb:b=a
   ·exact hb
   ·exact absurd (h2 b hb) z
def LM {l:PySem.W.OpenLaw}{k:Nat}{q:Program}{loose:List Str}{XP:(Str->Option Value)->Heap->Prop}{YP:World->Heap->Prop}{d:DefRec}{K:Params->PySem.W.Frag}{ts:List Addr}
  (hn:l.most=some 63) (hdf:d.params.defaults=[]) (hr:Room k callerA)
  (hY:∀(w:World) (h:Heap),YP w h->(K w.params).In h/\∀P∈ts,h.get? P=some (PySem.W.tabObj #[]))
  (hTs:∀p∈Tabs.tbs,p.1∈ts/\∃c,∀w:World,PySem.W.codeHdIn (K w.params) c p.1=true) (hTd:(Tabs.tbs.map (·.1)).Nodup) (hKn:∀w:World,PySem.W.noTabs (K w.params)=true)
  (F:∀(w:World) (mg:V5) (fa:Addr) (h:Heap),(K w.params).In h->h.Ns mainGlobals mg->mg d.name=some (.ref fa)->
   ∃fd:FuncData,(∀(s:Shared) (u:Value),BindsTo s fd ⟨[u],[]⟩ [("script",u)])/\
    ∀base:Heap,(K w.params).In base->base.Ns mainGlobals mg->eN mg base->FnOk l.prog w (K w.params) mg base rG k fa fd ["script"] (rW (K w.params))):
  PySem.W.WalkO q loose XP YP l.row.toRowW d [] (λf vs=>PySem.call f vs):=by
 refine Att2.attach_bits hn hdf λw se ah mg mb fa o pm cd doc a vs ns G Y ho hd gc jl hobj hints hlen xo hg=>?_;obtain⟨KX,hT⟩:=hY w _ Y;obtain⟨fd,hb,hF⟩:=F w mg fa _ KX G.T.g jl;refine BX KX G.T.g G.T.b G.T.builtins G.T.nolimit G.T.bmain hg hobj hints hlen xo hr (λp hp=>?_) hTd (hKn w) hF hb;obtain⟨h1,c,h2⟩:=hTs p hp;have h3:=hT p.1 h1;exact⟨h3,((PySem.W.codeHd_of_K KX<|h2 w).tab h3).isCodeTable⟩
section
variable{K:PySem.W.Frag}
structure FunC (K:PySem.W.Frag)(x qual:Str)(st:Stmt)(f:Addr)(fd:FuncData)(cd:Addr):Prop where
 ex:∃(oc:Value) (od:Option Addr) (kV doc pm:Value) (an:Option Addr) (ct:Value) (osl:Array (Option Value)),
  fd=PySem.W.fnOf x qual (D7 st) (o6 st) (c5 st) .none kV doc pm an (.ref cd) ct/\K.lookup f=some ⟨oc,od,.func fd,osl⟩/\PySem.W.codeIn K (.ref cd) qual=true
 kp:PySem.W.keepIn K (.ref f)=true
omit [Tabs]in
def FunC.fn {x qual:Str}{st:Stmt}{f:Addr}{fd:FuncData}{cd:Addr}(F:FunC K x qual st f fd cd):Fun K x qual st f fd:=
 let⟨oc,od,kV,doc,pm,an,ct,osl,h1,h2,h3⟩:=F.ex
 ⟨⟨oc,od,kV,doc,pm,an,.ref cd,ct,osl,h1,h2,h3⟩,F.kp⟩
omit [Tabs]in
def LJ {x qual:Str}{st:Stmt}{f cd:Addr}{oc:Value}{od an:Option Addr}{osl:Array (Option Value)}{kV doc pm cdv ct:Value}(l:K.lookup f=some ⟨oc,od,.func (PySem.W.fnOf x qual (D7 st) (o6 st) (c5 st) .none kV doc pm an cdv ct),osl⟩)
  (e:cdv=.ref cd) (c:PySem.W.codeIn K cdv qual=true) (k:PySem.W.keepIn K (.ref f)=true):FunC K x qual st f (PySem.W.fnOf x qual (D7 st) (o6 st) (c5 st) .none kV doc pm an cdv ct) cd:=by
 subst e;exact⟨⟨oc,od,kV,doc,pm,an,ct,osl,rfl,l,c⟩,k⟩
def cx {x qual:Str}{st:Stmt}{f cd:Addr}{fd:FuncData}{N ps:List Str}{k:Nat}{m:List D->R D}{F:Ev->R Out}(F0:FunC K x qual st f fd cd)(S:FnScope N ps (c5 st))
  (hb:∀(A:Around) (outer:List Env) (s:Shared) (H:Hp) (E:XK),Room k (A.deeper (envOfC qual (c5 st) s.heap.objs.size f (.ref cd)))->U6 (MI P w K mg base N qual (c5 st) f (.ref cd) A outer s H E) (o6 st) F)
  (hm:∀ds d,ds.length=ps.length->m ds=.ok d->N4 (F (i6 N ds))=.ok d):FnOk P w K mg base rG (k+1) f fd ps (UI K ps.length m):=by
 obtain⟨oc,od,kV,doc,pm,an,ct,osl,rfl,lk,gc⟩:=F0.ex;refine JR lk gc S (λvs H Q E ⟨O,ds,d,r,hl,_⟩=>by rw[r.length];exact hl) λA outer s H vs Q E hr ⟨O,ds,d,r,hl,ht,tb,fk,e,q⟩=>?_;refine⟨_,qT.nox (hb A outer s H E hr H O),O,_,iC r ht tb,fk,?_⟩;have h:=hm ds d hl e;cases e1:F (i6 N ds)with
 |ok o=>
  rw[e1]at h;cases o with
  |rt d'=>have h':R.ok d'=R.ok d:=h;injection h' with h';subst h';exact q
  |nx ρ=>have h':R.ok D.non=R.ok d:=h;injection h' with h';subst h';exactλai H' O' E' _ _=>q .non H' E'.same .non
  |bk ρ=>cases h
  |ct ρ=>cases h
 |ex x=>rw[e1]at h;cases h
 |bad=>rw[e1]at h;cases h
def MC {x qual:Str}{st:Stmt}{f cd:Addr}{fd:FuncData}{N ps:List Str}{k:Nat}{m:List D->R D}{F:Ev->R Out}(F0:FunC K x qual st f fd cd)(S:FnScope N ps (c5 st))(zb:Binds K fd ps [])(jl:mg x=some (.ref f))
  (hb:∀(A:Around) (outer:List Env) (s:Shared) (H:Hp) (E:XK),Room k (A.deeper (envOfC qual (c5 st) s.heap.objs.size f (.ref cd)))->U6 (MI P w K mg base N qual (c5 st) f (.ref cd) A outer s H E) (o6 st) F)
  (hm:∀ds d,ds.length=ps.length->m ds=.ok d->N4 (F (i6 N ds))=.ok d):z9 P w K mg base (k+1) x ps.length m:=
 ⟨f,fd,ps,cx F0 S hb hm,zb,F0.kp,jl⟩
def NU (P:Program)(w:World)(K:PySem.W.Frag)(mg:V5)(base:Heap)(k kc:Nat)(x:Str)(M:D->(List D->R D)->(List D->R D)->R D):Prop:=
 ∃g gd ps,FnOk P w K mg base rG k g gd ps (YB K (EI P w K mg base kc 1) M)/\Binds K gd ps []/\PySem.W.keepIn K (.ref g)=true/\mg x=some (.ref g)/\ps.length=3
def OE {x qual:Str}{st:Stmt}{f:Addr}{fd:FuncData}{N ps:List Str}{k kc:Nat}{M:D->(List D->R D)->(List D->R D)->R D}{F:Ev->R Out}(F0:Fun K x qual st f fd)(S:FnScope N ps (c5 st))(h3:ps.length=3)(zb:Binds K fd ps [])(jl:mg x=some (.ref f))
  (hb:∀(cdv:Value) (A:Around) (outer:List Env) (s:Shared) (H:Hp) (E:XK),Room k (A.deeper (envOfC qual (c5 st) s.heap.objs.size f cdv))->U6 (MI P w K mg base N qual (c5 st) f cdv A outer s H E) (o6 st) F)
  (hm:∀d1 m1 m2 d,M d1 m1 m2=.ok d->N4 (F (iF N (EI P w K mg base kc 1) d1 m1 m2))=.ok d):NU P w K mg base (k+1) kc x M:=
 ⟨f,fd,ps,ww F0 S h3 hb hm,zb,F0.kp,jl,h3⟩
end
section
def tW (i:Nat){Φ:(List D->R D)->Hp->(Addr->Prop)->Addr->Prop}(hΦ:EI X.prog X.w X.K X.mg X.base k n=Φ)(ha:xU X (e::es) f)(hl:vM f n)(hr:Room k X.A)(hN:X.N[i]?=some x:=by rfl)(hv:sD X.env.scope x:=by first|exact aCt rfl|exact aBy (aCt rfl)|exact aBy (aBy rfl))(hd:(x==("__debug__":Str))=false:=by decide)(gc:(x==("__classdict__":Str))=false:=by decide)(he:starEach (e::es) X.env=(false,eval e X.env)::starEach es X.env:=by rfl)(br:(backTo pos (starEach es X.env)).any (·.1)=false:=by rfl):
  PD X (.Call (.Name x p) (e::es) [] pos) (callC Φ i f):=by
 subst hΦ;exact KD i ha hl hr hN hv hd gc he br
def yR (qa:NstOk X k n1)(qc:NstOk X k n2)(yi:ClosOk X n1 clos1)(kg:ClosOk X n2 clos2)(hA:∀x b,(x,b)∈clos1++clos2->X.env.cells.lookup x=some b)(hB:eN X.mg X.base)(km:X.env.code=.ref c)(hK:PySem.W.codeHdIn X.K c Pt=true)(hTt:(Pt,tb)∈Tabs.tbs)(hm1:(n1.pos,n1.qual)∈tb)(lu:(n2.pos,n2.qual)∈tb)(jb:∀p∈tb,p.1.line=n1.pos.line->p.1.col=n1.pos.col->p.2=n1.qual)(hu2:∀p∈tb,p.1.line=n2.pos.line->p.1.col=n2.pos.col->p.2=n2.qual)(bf:n1.i≠n2.i)(hN:X.N.Nodup)(cf:NU X.prog X.w X.K X.mg X.base kf (k+1) x M)(hr:Room kf X.A)(he:PD X e f)(xv:∀y,X.fn y=true)(hg:Gl X x:=by rfl)(dh:(x==("__debug__":Str))=false:=by decide)(yx:starEach [e,.Name n1.name p1,.Name n2.name p2] X.env=(false,eval e X.env)::starEach [.Name n1.name p1,.Name n2.name p2] X.env:=by rfl)(zk:starEach [.Name n1.name p1,.Name n2.name p2] X.env=(false,eval (.Name n1.name p1) X.env)::starEach [.Name n2.name p2] X.env:=by rfl)(hs3:starEach [.Name n2.name p2] X.env=(false,eval (.Name n2.name p2) X.env)::starEach [] X.env:=by rfl)(br:(backTo pos (starEach [.Name n1.name p1,.Name n2.name p2] X.env)).any (·.1)=false:=by rfl):
  U6 X [n1.stmt,n2.stmt,.Return (some (.Call (.Name x p) [e,.Name n1.name p1,.Name n2.name p2] [] pos)) rpos] (λρ=>((f ((ρ.set n1.i .no).set n2.i .no)).bind λd1=>(bD n1.js ((ρ.set n1.i .no).set n2.i .no)).bind λw1=>(bD n2.js ((ρ.set n1.i .no).set n2.i .no)).bind λw2=>M d1 (n1.mm w1) (n2.mm w2)).bind λd=>.ok (.rt d)):=by
 obtain⟨g,gd,ps,FF,hb,hk,hm,h3⟩:=cf;exact DR qa qc yi kg hA hB km hK hTt hm1 lu jb hu2 bf hN FF hr hm hk hb h3 he xv hg dh yx zk hs3 br
end
end DL
namespace DL
open PySem L2
def _root_.L2.Room.ae4 (r:Room k A):A.units+130<cLine:=by have:=r.un;lia
def _root_.L2.Room.ae5 (r:Room k A)(h:7<=k):A.units+300<cLine:=by have:=r.un;lia
def DU {y:Str}{b0:Addr}{cells:List (Str×Addr)}(h:cells.lookup y=some b0:=by rfl):∀(x:Str) (b:Addr),(x,b)∈[(y,b0)]++[(y,b0)]->cells.lookup x=some b:=λx b hm=>by
 have:(x,b)=(y,b0):=by simpa using hm
 injection this with h1 h2;subst h1 h2;exact h
def AV {sc:Scope}{fn:List Str}{x:Str}(h:sc.names.lookup x=some .free)(hs:(sc.names.all λp=>p.2 !=.free||fn.contains p.1)=true:=by decide+kernel):x∈fn:=by have h1:=aBU.mp hs _ (PySem.mem_of_lookup h);simpa using h1
def BB:Stmt->Pos
 |.FunctionDef _ _ _ _ _ _ _ _ _ p=>p
 |_=>⟨0,0,0,0⟩
end DL
namespace G
def fQ {a b:V}(h:a-b=0):a=b:=by have q1:=congrArg V.x h;have q2:=congrArg V.y h;have q3:=congrArg V.z h;simp at q1 q2 q3;exact ext (by lia) (by lia) (by lia)
def IsFace.aa2 (ho:pts.Pairwise (λa b=>d9 (b-a)))(h:IsFace pts n d):Sheet n (v7 n d pts)where
 nz:=h.prim.ne
 pl:=λX hX Y hY=>by have:=(c8.mp hX).2;have:=(c8.mp hY).2;rw[f8];lia
 ord:=aFF _ ho
 two:=by obtain⟨A,hA,B,hB,C,hC,a,b,c,e⟩:=h.three;refine⟨A,c8.mpr ⟨hA,a⟩,B,c8.mpr ⟨hB,b⟩,λz=>e ?_⟩;subst z;rw[u7];apply ext<;>simp
def IsFace.ac8 {pts:List V}{n:V}{d:Int}(h:IsFace pts n d){a b:V}(he:EdgeOf n (λX=>X∈v7 n d pts) a b):∃X∈v7 n d pts,0<f9 n (b-a) (X-a):=by
 by_cases z:∃X∈v7 n d pts,0<f9 n (b-a) (X-a)
 ·exact z
 ·exfalso;have hn:=h.prim.ne;obtain⟨pa,da⟩:=c8.mp he.p;obtain⟨pb,db⟩:=c8.mp he.q;have hba:d8 n (b-a)=0:=by rw[f8];lia
  have bf:b-a≠0:=λe=>he.ne (fQ e).symm;have k:∀X∈pts,d8 n X=d->cr (b-a) (X-a)=0:=λX hX dX=>by have tX:=c8.mpr ⟨hX,dX⟩;have l:=he.left X tX;have l':¬0<f9 n (b-a) (X-a):=λq=>z ⟨X,tX,q⟩;exact dA hn hba (by rw[f8];lia) (by lia)
  obtain⟨A,hA,B,hB,C,hC,eA,eB,eC,e⟩:=h.three;have k2:∀X∈pts,d8 n X=d->∀Y∈pts,d8 n Y=d->cr (X-Y) (b-a)=0:=λX hX dX Y hY dY=>by have q1:=k X hX dX;have q2:=k Y hY dY;have a1:=congrArg V.x q1;have a2:=congrArg V.y q1;have a3:=congrArg V.z q1;have b1:=congrArg V.x q2;have b2:=congrArg V.y q2;have b3:=congrArg V.z q2;simp at a1 a2 a3 b1 b2 b3;apply ext<;>simp<;>grind
  exact e (qG bf (k2 B hB eB A hA eA)<|k2 C hC eC A hA eA)
def JP (hs:n4 pts)(hf:IsFace pts n d)(hg:IsFace pts m e)(h1:EdgeOf n (λX=>X∈v7 n d pts) a b)(h2:EdgeOf m (λX=>X∈v7 m e pts) b a)(hX:X∈v7 n d pts)(hx:0<f9 n (b-a) (X-a)):d8 m X<e:=by
 obtain⟨pX,dX⟩:=c8.mp hX;have le:=hg.sup X pX;by_cases z:d8 m X=e
 ·exfalso;obtain⟨pa,da⟩:=c8.mp h1.p;obtain⟨pb,db⟩:=c8.mp h1.q;obtain⟨_,ea⟩:=c8.mp h2.q;obtain⟨_,eb⟩:=c8.mp h2.p;obtain⟨Z,hZ,hz⟩:=hs.below hf.prim.ne hf.sup;have hc:cr (b-a) (X-a)≠0:=λq=>by unfold f9 at hx;rw[q,N8]at hx;lia
  obtain⟨rfl,rfl⟩:=kE hf.prim hg.prim hf.sup hg.sup da db dX ea eb z hc hZ hz;have:=h2.left X hX;have e1:f9 n (a-b) (X-b)=-f9 n (b-a) (X-a):=by simp[f9,d8];grind
  lia
 ·lia
def sG:List V->V
 |[]=>0
 |X::l=>X+sG l
theorem lH (n:V):∀l:List V,d8 n (sG l)=(l.map (d8 n)).sum
 |[]=>N8 n
 |X::l=>by simp only[sG,aAs,aDJ];rw[Z1,lH n l]
theorem yE {α:Type}(f g:α->Int):∀l:List α,(∀x∈l,f x<=g x)->(l.map f).sum<=(l.map g).sum
 |[],_=>aCI _
 |x::l,h=>by
  simp only[aAs,aDJ];have:=h x (by simp);have:=yE f g l (λy hy=>h y (aAd _ hy))
  lia
theorem xL {α:Type}(f g:α->Int):∀l:List α,(∀x∈l,f x<=g x)->(∃x∈l,f x<g x)->(l.map f).sum<(l.map g).sum
 |[],_,⟨x,hx,_⟩=>by cases hx
 |x::l,h,⟨y,hy,ar⟩=>by
  simp only[aAs,aDJ];have h1:=h x (by simp);have h2:=yE f g l (λy hy=>h y (aAd _ hy));rcases aAe.mp hy with e|e
  ·subst e;lia
  ·have:=xL f g l (λy hy=>h y (aAd _ hy)) ⟨y,e,ar⟩
   lia
theorem X9 {α:Type}(c:Int):∀l:List α,(l.map λ_=>c).sum=(l.length:Int)*c
 |[]=>by simp
 |x::l=>by simp only[aAs,aDJ,aAt];rw[X9 c l];push_cast;grind
def A5 (pts:List V)(X:V):V:=(pts.length:Int)*X-sG pts
def Q6 (pts:List V)(n:V)(d:Int):Int:=(pts.length:Int)*d-d8 n (sG pts)
def rH (pts:List V)(n X:V):d8 n (A5 pts X)=(pts.length:Int)*d8 n X-d8 n (sG pts):=by unfold A5;rw[f8,u5]
def bS (hs:n4 pts)(hn:n≠0)(h:∀X∈pts,d8 n X<=d):0<Q6 pts n d:=by
 unfold Q6;rw[lH,<-X9];have:=xL (d8 n) (λ_=>d) pts h (hs.below hn h)
 lia
def len_pos (hs:n4 pts):0<(pts.length:Int):=by
 obtain⟨A,hA,_⟩:=hs;have:0<pts.length:=aDL hA
 lia
def W6 (h:d8 n X=d):d8 n (A5 pts X)=Q6 pts n d:=by rw[rH,h];rfl
def lD (h:d8 n X<=d):d8 n (A5 pts X)<=Q6 pts n d:=by
 rw[rH];unfold Q6;have:=aAR h (show(0:Int)<=pts.length by lia)
 lia
def JQ (hl:0<(pts.length:Int))(h:d8 n X<d):d8 n (A5 pts X)<Q6 pts n d:=by
 rw[rH];unfold Q6;have:=aEx h hl
 lia
def MP (pts:List V)(a b X:V):f9 (A5 pts a) (A5 pts b) (A5 pts X)=(pts.length:Int)*(pts.length:Int)*d8 (A5 pts a) (cr (b-a) (X-a)):=by unfold A5;generalize(pts.length:Int)=N;generalize sG pts=s;simp[f9,d8];grind
def tV (h:cr w c=0)(x y:V):d8 w y*d8 c x=d8 w x*d8 c y:=by
 have e:d8 w y*d8 c x-d8 w x*d8 c y=d8 (cr w c) (cr y x):=by simp[d8];grind
 rw[h]at e;have:d8 0 (cr y x)=0:=by simp[d8]
 lia
def zS (hs:n4 pts)(hf:IsFace pts n d)(ha:d8 n a=d)(hb:d8 n b=d)(hX:d8 n X=d)(h:0<f9 n (b-a) (X-a)):0<f9 (A5 pts a) (A5 pts b) (A5 pts X):=by
 rw[MP];have hl:=len_pos hs;refine aBA (aBA hl hl) ?_;have hn:=hf.prim.ne;have p:cr n (cr (b-a)<|X-a)=0:=R1 (by rw[f8];lia) (by rw[f8];lia);have q:=tV p n (A5 pts a);have h1:0<d8 n (A5 pts a):=by rw[W6 ha];exact bS hs hn hf.sup
 have h2:0<d8 (cr (b-a)<|X-a) n:=by rw[bE];exact h
 have h3:=aBA h1 h2;have h4:=B8 hn;rw[bE (A5 pts a)];by_cases z:0<d8 (cr (b-a)<|X-a) (A5 pts a)
 ·exact z
 ·exfalso;have:d8 n n*d8 (cr (b-a)<|X-a) (A5 pts a)<=0:=by have:=aAR (show d8 (cr (b-a)<|X-a) (A5 pts a)<=0 by lia) (aBe h4);simpa using this
  lia
def MD (hs:n4 pts)(hf:IsFace pts n d)(hg:IsFace pts m e)(h1:EdgeOf n (λX=>X∈v7 n d pts) a b)(h2:EdgeOf m (λX=>X∈v7 m e pts) b a)(hB:d8 m B*Q6 pts n d<=d8 n B*Q6 pts m e):0<=f9 (A5 pts a) (A5 pts b) B:=by
 obtain⟨X,hX,hx⟩:=hf.ac8 h1;have ar:=JP hs hf hg h1 h2 hX hx;obtain⟨pX,dX⟩:=c8.mp hX;obtain⟨pa,da⟩:=c8.mp h1.p;obtain⟨pb,db⟩:=c8.mp h1.q;obtain⟨_,ea⟩:=c8.mp h2.q;obtain⟨_,eb⟩:=c8.mp h2.p;have c0:=bS hs hf.prim.ne hf.sup;have c1:=bS hs hg.prim.ne hg.sup;have dp:=zS hs hf da db dX hx;by_cases z:0<=f9 (A5 pts a) (A5 pts b) B
 ·exact z
 ·exfalso;have wd:∀y,d8 (Q6 pts n d*m-Q6 pts m e*n) y=Q6 pts n d*d8 m y-Q6 pts m e*d8 n y:=λy=>by rw[bE,f8,u5,u5,bE y m,bE y n]
  have wa:d8 (Q6 pts n d*m-Q6 pts m e*n) (A5 pts a)=0:=by rw[wd,W6 da,W6 ea];grind
  have wb:d8 (Q6 pts n d*m-Q6 pts m e*n) (A5 pts b)=0:=by rw[wd,W6 db,W6 eb];grind
  have wx:d8 (Q6 pts n d*m-Q6 pts m e*n) (A5 pts X)<0:=by
   rw[wd,W6 dX];have h3:=JQ (len_pos hs) ar;have:=aEx h3 c0;have e1:Q6 pts m e*Q6 pts n d=Q6 pts n d*Q6 pts m e:=aGn _ _
   lia
  have p:=tV (R1 wa wb) (A5 pts X) B;have e2:d8 (cr (A5 pts a)<|A5 pts b) (A5 pts X)=f9 (A5 pts a) (A5 pts b) (A5 pts X):=Q8 _ _ _;have e3:d8 (cr (A5 pts a)<|A5 pts b) B=f9 (A5 pts a) (A5 pts b) B:=Q8 _ _ _;rw[e2,e3]at p;have r:0<d8 (Q6 pts n d*m-Q6 pts m e*n) (A5 pts X)*f9 (A5 pts a) (A5 pts b) B:=Int.mul_pos_of_neg_of_neg wx (by lia);rw[<-p]at r;have s:0<d8 (Q6 pts n d*m-Q6 pts m e*n) B:=by
   by_cases q:0<d8 (Q6 pts n d*m-Q6 pts m e*n) B
   ·exact q
   ·have:=aAV (show d8 (Q6 pts n d*m-Q6 pts m e*n) B<=0 by lia) (aBe dp);simp at this;lia
  rw[wd]at s;have e4:d8 m B*Q6 pts n d=Q6 pts n d*d8 m B:=aGn _ _;have e5:d8 n B*Q6 pts m e=Q6 pts m e*d8 n B:=aGn _ _
  lia
def wN {a b c d e f:Int}(hb:0<b)(hd:0<d)(hf:0<f)(h1:a*d<=c*b)(h2:c*f<=e*d):a*f<=e*b:=by
 have h3:=aAV h1 (aBe hf);have h4:=aAV h2 (aBe hb);have h5:(a*f)*d<=(e*b)*d:=by grind
 exact aEy h5 hd
theorem AD {α:Type}(p q:α->Int):∀(l:List α),l≠[]->(∀x∈l,0<q x)->∃x∈l,∀y∈l,p y*q x<=p x*q y
 |[],h,_=>absurd rfl h
 |[x],_,_=>⟨x,by simp,λy hy=>by simp at hy;subst hy;exact aCI _⟩
 |x::y::l,_,hq=>by
  obtain⟨z,hz,h⟩:=AD p q (y::l) (by simp) (λw hw=>hq w (aAd _ hw));by_cases c:p x*q z<=p z*q x
  ·refine⟨z,aAd _ hz,λw hw=>?_⟩;rcases aAe.mp hw with e|e
   ·subst e;exact c
   ·exact h w e
  ·refine⟨x,by simp,λw hw=>?_⟩;rcases aAe.mp hw with e|e
   ·subst e;exact aCI _
   ·exact wN (hq w hw) (hq z<|aAd _ hz) (hq x (by simp)) (h w e) (by lia)
theorem WK (h:V->Int):∀(x:V) (l:List V),0<=h x->(∀z,(x::l).getLast?=some z->h z<=0)->l≠[]->∃u v,(u,v)∈o9 (x::l)/\0<=h u/\h v<=0
 |x,[],_,_,hl=>absurd rfl hl
 |x,y::r,h1,h2,_=>by
  by_cases c:h y<=0
  ·exact⟨x,y,by simp[o9],h1,c⟩
  ·match r,h2 with
   |[],h2=>exact absurd (h2 y rfl) c
   |z::r,h2=>obtain⟨u,v,m,p⟩:=WK h y (z::r) (by lia) (λw hw=>h2 w (by rw[aAY];exact hw)) (by simp);exact⟨u,v,by simp only[o9]at m⊢;exact aAd _ m,p⟩
theorem jA:∀(l:List V) (x z w:V),(x::l).getLast?=some z->(z,w)∈o9 (x::l++[w])
 |[],x,z,w,h=>by simp at h;subst h;simp[o9]
 |y::l,x,z,w,h=>by rw[aAY]at h;have:=jA l y z w h;simp only[aBm,o9]at this⊢;exact aAd _ this
theorem dM:∀(l:List V) (x w:V),∀e∈o9 (x::l),e∈o9 (x::l++[w])
 |[],x,w,e,h=>by simp[o9]at h
 |y::l,x,w,e,h=>by
  simp only[aBm,o9]at h⊢;rcases aAe.mp h with q|q
  ·subst q;simp
  ·exact aAd _ (dM l y w e q)
def U3 (ho:pts.Pairwise (λa b=>d9 (b-a)))(hf:IsFace pts n d):∃r s t l,j6 n (v7 n d pts)=r::s::t::l:=by
 have S:=hf.aa2 ho;obtain⟨r,l,e,_⟩:=S.ab4;match l,e with
 |[],e=>
  have h:(r,r)∈S6 (j6 n<|v7 n d pts):=by rw[e];simp[S6]
  exact absurd rfl (S.pair h).ne
 |[s],e=>
  have h1:(r,s)∈S6 (j6 n<|v7 n d pts):=by rw[e];simp[S6]
  have h2:(s,r)∈S6 (j6 n<|v7 n d pts):=by rw[e];simp[S6]
  have g1:=S.pair h1;have g2:=S.pair h2;obtain⟨X,hX,hx⟩:=hf.ac8 g1;have:=g2.left X hX;have e1:f9 n (r-s) (X-s)=-f9 n (s-r) (X-r):=by simp[f9,d8];grind
  lia
 |s::t::l,e=>exact⟨r,s,t,l,e⟩
def oM (hs:n4 pts)(ho:pts.Pairwise (λa b=>d9 (b-a)))(fs:List (V×Int))(bf:fs≠[])(hf:∀f∈fs,IsFace pts f.1 f.2)(hc:∀f∈fs,∀a b,EdgeOf f.1 (λX=>X∈v7 f.1 f.2 pts) a b->∃g∈fs,EdgeOf g.1 (λX=>X∈v7 g.1 g.2 pts) b a)(hn:IsFace pts n d):(n,d)∈fs:=by
 obtain⟨B,hBd⟩:∃B,B=sG ((v7 n d pts).map (A5 pts)):=⟨_,rfl⟩;have dB:∀m,d8 m B=((v7 n d pts).map λX=>d8 m (A5 pts X)).sum:=λm=>by rw[hBd,lH,aCi];rfl
 have cn:=bS hs hn.prim.ne hn.sup;have ub:∀m e,(∀X∈pts,d8 m X<=e)->d8 m B<=((v7 n d pts).length:Int)*Q6 pts m e:=λm e hm=>by rw[dB,<-X9];exact yE _ _ _ λX hX=>lD (hm X (c8.mp hX).1)
 have eB:d8 n B=((v7 n d pts).length:Int)*Q6 pts n d:=by rw[dB,<-X9];congr 1;exact List.map_congr_left λX hX=>W6 (c8.mp hX).2
 obtain⟨⟨m,e⟩,hm,htop⟩:=AD (λf:V×Int=>d8 f.1 B) (λf=>Q6 pts f.1 f.2) fs bf λf h=>bS hs (hf f h).prim.ne (hf f h).sup;have xp:=hf _ hm;have ins:∀a b,EdgeOf m (λX=>X∈v7 m e pts) a b->0<=f9 (A5 pts a) (A5 pts b) B:=λa b hab=>by obtain⟨g,hg,hg2⟩:=hc _ hm a b hab;exact MD hs xp (hf g hg) hab hg2 (htop g hg)
 have S:=xp.aa2 ho;obtain⟨r,s,t,l,er⟩:=U3 ho xp;have nd:=S.aa4;have pr:=λ{P Q}=>S.aa1 (P:=P) (Q:=Q);rw[er]at pr nd;have rm:r∈j6 m (v7 m e pts):=by rw[er];simp
 have on:∀X∈r::s::t::l,d8 m X=e:=λX hX=>by rw[<-er]at hX;exact(c8.mp<|S.aa5 hX).2
 obtain⟨z,hz⟩:∃z,(s::t::l).getLast?=some z:=by simp[aEC]
 have c1:(r,s)∈S6 (r::s::t::l):=by rw[T4];simp[o9]
 have c2:(z,r)∈S6 (r::s::t::l):=by rw[T4];exact jA _ _ _ _ (by rw[aAY];exact hz)
 have w1:=ins _ _ (pr.mp c1);have w2:=ins _ _ (pr.mp c2);obtain⟨u,v,huv,hu,hv⟩:=WK (λX=>f9 (A5 pts r) (A5 pts X) B) s (t::l) w1 (λy hy=>by
  have:y=z:=aAj (hy.symm.trans hz);subst this;have e1:f9 (A5 pts r) (A5 pts y) B=-f9 (A5 pts y) (A5 pts r) B:=by simp[f9,d8];grind
  lia) (by simp)
 have c3:(u,v)∈S6 (r::s::t::l):=by rw[T4];have:=dM (t::l) s r _ huv;simp only[aBm,o9]at this⊢;exact aAd _ this
 have g3:=pr.mp c3;have mu:u∈s::t::l/\v∈s::t::l:=by
  have:=huv;have hh:∀(l:List V) (p q:V),(p,q)∈o9 l->p∈l/\q∈l:=λl=>by
   induction l with
   |nil=>intro p q h;simp[o9]at h
   |cons x l ih=>
    intro p q h;match l,h,ih with
    |[],h,_=>simp[o9]at h
    |y::l,h,ih=>
     simp only[o9]at h;rcases aAe.mp h with c|c
     ·cases c;simp
     ·have:=ih p q c;exact⟨aAd _ this.1,aAd _ this.2⟩
  exact hh _ _ _ huv
 have nr:=(aAK.mp nd).1;have ru:r≠u:=λq=>by subst q;exact nr mu.1
 have rv:r≠v:=λq=>by subst q;exact nr mu.2
 have st:=S.strict g3 rm ru rv;have du:=on u (aAd _ mu.1);have dv:=on v (aAd _ mu.2);have dr:=on r (by simp);have D0:=zS hs xp du dv dr st;have w3:=ins _ _ g3;have cram:=BJ B (A5 pts r) (A5 pts u) (A5 pts v);have a1:f9 B (A5 pts u) (A5 pts v)=f9 (A5 pts u) (A5 pts v) B:=by simp[f9,d8];grind
 have a2:f9 B (A5 pts v) (A5 pts r)=-f9 (A5 pts r) (A5 pts v) B:=by simp[f9,d8];grind
 have a3:f9 B (A5 pts r) (A5 pts u)=f9 (A5 pts r) (A5 pts u) B:=by simp[f9,d8];grind
 have a4:f9 (A5 pts r) (A5 pts u) (A5 pts v)=f9 (A5 pts u) (A5 pts v) (A5 pts r):=by simp[f9,d8];grind
 rw[a1,a2,a3,a4]at cram;obtain⟨al,hal⟩:∃al,al=f9 (A5 pts u) (A5 pts v) B:=⟨_,rfl⟩;obtain⟨be,yn⟩:∃be,be=-f9 (A5 pts r) (A5 pts v) B:=⟨_,rfl⟩;obtain⟨ga,hga⟩:∃ga,ga=f9 (A5 pts r) (A5 pts u) B:=⟨_,rfl⟩;obtain⟨De,hDe⟩:∃De,De=f9 (A5 pts u) (A5 pts v) (A5 pts r):=⟨_,rfl⟩;rw[<-hal,<-yn,<-hga,<-hDe]at cram;have al0:0<=al:=by lia
 have be0:0<=be:=by lia
 have ga0:0<=ga:=by lia
 have De0:0<De:=by lia
 have cd:∀f:V,De*d8 f B=ga*d8 f (A5 pts v)+al*d8 f (A5 pts r)+be*d8 f (A5 pts u):=λf=>by
  have:=congrArg (d8 f) cram;rw[Z1,Z1,u5,u5,u5,u5]at this
  lia
 have q1:=cd m;rw[W6 dr,W6 du,W6 dv]at q1;have q2:=cd n;have cm:=bS hs xp.prim.ne xp.sup;have pt:∀X∈r::s::t::l,X∈pts:=λX hX=>by rw[<-er]at hX;exact(c8.mp<|S.aa5 hX).1
 have r1:=lD (pts:=pts) (hn.sup r (pt r (by simp)));have r2:=lD (pts:=pts) (hn.sup u<|pt u<|aAd _ mu.1);have r3:=lD (pts:=pts) (hn.sup v<|pt v<|aAd _ mu.2);have s1:=aAR r1 al0;have s2:=aAR r2 be0;have s3:=aAR r3 ga0;obtain⟨L,hL⟩:∃L:Int,L=((v7 n d pts).length:Int):=⟨_,rfl⟩;have ub1:=ub m e xp.sup;rw[<-hL]at eB ub1;have k1:De*L<=al+be+ga:=by
  have:(De*L)*Q6 pts n d<=(al+be+ga)*Q6 pts n d:=by
   rw[eB]at q2;have e1:De*L*Q6 pts n d=De*(L*Q6 pts n d):=aFY _ _ _;have e2:(al+be+ga)*Q6 pts n d=al*Q6 pts n d+be*Q6 pts n d+ga*Q6 pts n d:=by grind
   lia
  exact aEy this cn
 have k2:De*d8 m B=(al+be+ga)*Q6 pts m e:=by rw[q1];grind
 have k3:(De*L)*Q6 pts m e<=De*d8 m B:=by rw[k2];exact aAV k1 (aBe cm)
 have k4:L*Q6 pts m e<=d8 m B:=by rw[aFY]at k3;exact Int.le_of_mul_le_mul_left k3 De0
 have all:∀X∈v7 n d pts,d8 m X=e:=λX hX=>by
  have le:d8 m X<=e:=xp.sup X (c8.mp hX).1;by_cases z:d8 m X=e
  ·exact z
  ·exfalso;have:=xL (λX=>d8 m (A5 pts X)) (λ_=>Q6 pts m e) (v7 n d pts) (λY hY=>lD (xp.sup Y (c8.mp hY).1)) ⟨X,hX,JQ (len_pos hs) (by lia)⟩;rw[<-dB,X9,<-hL]at this
   lia
 obtain⟨A,hA,B',hB',C,hC,ea,eb,ec,hcr⟩:=hn.three;obtain⟨Z,hZ,hz⟩:=hs.below hn.prim.ne hn.sup;obtain⟨rfl,rfl⟩:=kE hn.prim xp.prim hn.sup xp.sup ea eb ec (all A<|c8.mpr ⟨hA,ea⟩) (all B'<|c8.mpr ⟨hB',eb⟩) (all C<|c8.mpr ⟨hC,ec⟩) hcr hZ hz;exact hm
end G
namespace G
def j9 (pts:List V)(f:V×Int):List V:=j6 f.1 (v7 f.1 f.2 pts)
structure LInv (pts:List V)(p0:V×V)(fs:List (V×Int))(walked:V×V->Prop)(waiting:List (V×V)):Prop where
 face:∀f∈fs,IsFace pts f.1 f.2
 nd:fs.Nodup
 wk:∀e,walked e↔∃f∈fs,e∈S6 (j9 pts f)
 cl:∀f∈fs,∀a b,(a,b)∈S6 (j9 pts f)->(∃g∈fs,(b,a)∈S6 (j9 pts g))\/(b,a)∈waiting
 wt:∀p∈waiting,(∃f∈fs,(p.2,p.1)∈S6 (j9 pts f))\/(fs=[]/\p=p0)
 ne:fs=[]->waiting=[p0]
structure Good (pts:List V)(m:V):Prop where
 solid:n4 pts
 ord:pts.Pairwise (λa b=>d9 (b-a))
 mem:m∈pts
 least:∀X∈pts,X=m\/d9 (X-m)
section
variable{pts:List V} {m:V} (G:Good pts m) {fs:List (V×Int)} {walked:V×V->Prop} {waiting rest:List (V×V)} {p:V×V}
include G
theorem xR:LInv pts (d6 m pts) [] (λ_=>False) [d6 m pts]where
 face:=λf h=>by cases h
 nd:=aCU
 wk:=λe=>⟨λh=>h.elim,λ⟨f,h,_⟩=>by cases h⟩
 cl:=λf h=>by cases h
 wt:=λq h=>.inr ⟨rfl,by simpa using h⟩
 ne:=λ_=>rfl
theorem GY (h:LInv pts (d6 m pts) fs walked waiting)(hW:waiting=rest++[p])(hp:walked p):LInv pts (d6 m pts) fs walked rest:=by
 have hw:∀q,q∈waiting↔q=p\/q∈rest:=λq=>by rw[hW];simp[or_comm]
 obtain⟨f0,hf0,e0⟩:=(h.wk p).mp hp;have bf:fs≠[]:=λe=>by subst e;cases hf0
 refine⟨h.face,h.nd,h.wk,λf hf a b hab=>?_,λq hq=>h.wt q ((hw q).mpr (.inr hq)),λe=>absurd e bf⟩;rcases h.cl f hf a b hab with q|q
 ·exact .inl q
 ·rcases(hw (b,a)).mp q with z|z
  ·subst z;exact .inl ⟨f0,hf0,e0⟩
  ·exact .inr z
theorem tU (h:LInv pts (d6 m pts) fs walked waiting)(hp:p∈waiting)(hn:¬walked p):IsFace pts (b8 p.1 p.2 pts).1 (b8 p.1 p.2 pts).2/\b8 p.1 p.2 pts∉fs/\(fs≠[]->p∈S6 (j9 pts (b8 p.1 p.2 pts))):=by
 rcases h.wt p hp with⟨f,hf,he⟩|⟨e1,e2⟩
 ·have hfc:=h.face f hf;have S:=hfc.aa2 G.ord;have ed:=S.aa1.mp he;obtain⟨t1,t2⟩:=oT hfc.prim.ne hfc.sup (G.solid.below hfc.prim.ne hfc.sup) ed;have S':=t1.aa2 G.ord;have e3:p∈S6 (j9 pts<|b8 p.1 p.2 pts):=S'.aa1.mpr t2;exact⟨t1,λz=>hn ((h.wk p).mpr ⟨_,z,e3⟩),λ_=>e3⟩
 ·subst e1 e2;exact⟨kS G.solid G.ord G.mem G.least,by simp,λz=>absurd rfl z⟩
theorem IQ (h:LInv pts (d6 m pts) fs walked waiting)(hW:waiting=rest++[p])(hn:¬walked p){walked':V×V->Prop}(h1:∀e,walked' e↔walked e\/e∈S6 (j9 pts (b8 p.1 p.2 pts)))(h2:∀q,q∈waiting'↔q∈rest\/(q.2,q.1)∈S6 (j9 pts (b8 p.1 p.2 pts))):
  LInv pts (d6 m pts) (fs++[b8 p.1 p.2 pts]) walked' waiting':=by
 have hw:∀q,q∈waiting↔q=p\/q∈rest:=λq=>by rw[hW];simp[or_comm]
 obtain⟨n1,n2,n3⟩:=tU G h ((hw p).mpr (.inl rfl)) hn;refine⟨λf hf=>?_,?_,λe=>?_,λf hf a b hab=>?_,λq hq=>?_,λe=>by simp at e⟩
 ·rcases aAS.mp hf with z|z
  ·exact h.face f z
  ·have:f=b8 p.1 p.2 pts:=by simpa using z
   subst this;exact n1
 ·rw[aCN];exact⟨h.nd,by simp,λa ha b hb=>λe=>by
   have:b=b8 p.1 p.2 pts:=by simpa using hb
   subst e this;exact n2 ha⟩
 ·rw[h1,h.wk];constructor
  ·rintro(⟨f,hf,he⟩|he)
   ·exact⟨f,aBz _ hf,he⟩
   ·exact⟨_,aAC _ (by simp),he⟩
  ·rintro⟨f,hf,he⟩;rcases aAS.mp hf with z|z
   ·exact .inl ⟨f,z,he⟩
   ·have:f=b8 p.1 p.2 pts:=by simpa using z
    subst this;exact .inr he
 ·rcases aAS.mp hf with z|z
  ·rcases h.cl f z a b hab with⟨g,hg,e⟩|q
   ·exact .inl ⟨g,aBz _ hg,e⟩
   ·rcases(hw (b,a)).mp q with y|y
    ·have bf:fs≠[]:=λe=>by subst e;cases z
     exact .inl ⟨b8 p.1 p.2 pts,aAC _ (by simp),by rw[y];exact n3 bf⟩
    ·exact .inr ((h2 _).mpr (.inl y))
  ·have:f=b8 p.1 p.2 pts:=by simpa using z
   subst this;exact .inr ((h2 _).mpr (.inr hab))
 ·rcases(h2 q).mp hq with z|z
  ·rcases h.wt q ((hw q).mpr (.inr z))with⟨f,hf,e⟩|⟨e1,e2⟩
   ·exact .inl ⟨f,aBz _ hf,e⟩
   ·have:=h.ne e1;exfalso;rw[hW]at this;have hl:=congrArg aFO this;simp at hl;subst hl;cases z
  ·exact .inl ⟨_,aAC _ (by simp),z⟩
theorem JD (h:LInv pts (d6 m pts) fs walked []):fs≠[]/\∀n d,(n,d)∈fs↔IsFace pts n d:=by
 have bf:fs≠[]:=λe=>by have:=h.ne e;cases this
 refine⟨bf,λn d=>⟨λhf=>h.face _ hf,λhf=>?_⟩⟩;refine oM G.solid G.ord fs bf h.face (λf hf a b hab=>?_) hf;have S:=(h.face f hf).aa2 G.ord;rcases h.cl f hf a b (S.aa1.mpr hab)with⟨g,hg,e⟩|q
 ·exact⟨g,hg,((h.face g hg).aa2 G.ord).aa1.mp e⟩
 ·cases q
end
def DF (h:IsFace pts n d):∃A∈pts,∃B∈pts,∃C∈pts,cr (B-A) (C-A)≠0/\j1 A B C=(n,d):=by
 obtain⟨A,hA,B,hB,C,hC,a,b,c,e⟩:=h.three;have key:∀B∈pts,∀C∈pts,d8 n B=d->d8 n C=d->cr (B-A) (C-A)≠0->0<d8 n (cr (B-A)<|C-A)->j1 A B C=(n,d):=λB hB C hC b c e pos=>by
  obtain⟨g,g0,ge,gp,gd⟩:=mE e;have p:cr n (cr (B-A)<|C-A)=0:=R1 (by rw[f8];lia) (by rw[f8];lia);obtain⟨k,l,hk,e1⟩:=D2 h.prim.ne p;have hl:0<l:=by
   have q:=congrArg (d8 n) e1;rw[u5,u5]at q;have:=aBA hk pos;have hn:=B8 h.prim.ne;by_cases z:0<l
   ·exact z
   ·have:=aAV (show l<=0 by lia) (aBe hn);simp at this;lia
  rw[ge]at e1;have e2:(k*g)*(j1 A B C).1=l*n:=by rw[<-e1];apply ext<;>simp<;>grind
  have e3:=zM gp h.prim (aBA hk g0) hl e2;refine aFV e3 ?_;rw[gd,e3];exact a
 by_cases z:0<d8 n (cr (B-A)<|C-A)
 ·exact⟨A,hA,B,hB,C,hC,e,key B hB C hC b c e z⟩
 ·have sw:cr (C-A) (B-A)=-cr (B-A) (C-A):=by apply ext<;>simp<;>grind
  have e':cr (C-A) (B-A)≠0:=λq=>e (by rw[sw]at q;have q1:=congrArg V.x q;have q2:=congrArg V.y q;have q3:=congrArg V.z q;simp only[XD,WB,VG,bB,aW,aS]at q1 q2 q3;exact ext (by simp only[bB];lia) (by simp only[aW];lia) (by simp only[aS];lia))
  have bf:d8 n (cr (B-A)<|C-A)≠0:=λq=>e (dA h.prim.ne (by rw[f8];lia) (by rw[f8];lia) q);refine⟨A,hA,C,hC,B,hB,e',key C hC B hB c b e' ?_⟩;have:d8 n (cr (C-A)<|B-A)=-d8 n (cr (B-A)<|C-A):=by rw[sw];simp[d8];grind
  lia
def cands (pts:List V):List (V×Int):=pts.flatMap λA=>pts.flatMap λB=>pts.map λC=>j1 A B C
theorem Y5 {α:Type}[DecidableEq α]:∀{l m:List α},l.Nodup->(∀x∈l,x∈m)->l.length<=m.length
 |[],_,_,_=>aAW _
 |x::l,m,h,hs=>by
  have hx:=hs x (by simp);have h':=aAK.mp h;have:=Y5 (l:=l) (m:=m.erase x) h'.2 (λy hy=>by
   have ne:y≠x:=λe=>by subst e;exact h'.1 hy
   exact(aFG ne).mpr (hs y<|aAd _ hy))
  rw[aES hx]at this;have:0<m.length:=aDL hx;simp only[aAt]
  lia
end G
namespace G
section
variable{pts:List V} (hs:n4 pts) (ho:pts.Pairwise (λa b=>d9 (b-a)))
include hs ho
theorem qO (hf:IsFace pts n d)(h:EdgeOf n (λX=>X∈v7 n d pts) a b):
 IsFace pts (b8 b a pts).1 (b8 b a pts).2/\EdgeOf (b8 b a pts).1 (λX=>X∈v7 (b8 b a pts).1 (b8 b a pts).2 pts) b a:=oT hf.prim.ne hf.sup (hs.below hf.prim.ne hf.sup) h
theorem LG (hf:IsFace pts n d)(h1:EdgeOf n (λX=>X∈v7 n d pts) a b)(h2:EdgeOf n (λX=>X∈v7 n d pts) b a):False:=by
 obtain⟨X,hX,hx⟩:=hf.ac8 h1;have:=h2.left X hX;have e1:f9 n (a-b) (X-b)=-f9 n (b-a) (X-a):=by simp[f9,d8];grind
 lia
theorem BL (hf:IsFace pts n d)(hg:IsFace pts m e)(h:EdgeOf n (λX=>X∈v7 n d pts) a b)(ga:d8 m a=e)(gb:d8 m b=e):(m,e)=(n,d)\/(m,e)=b8 b a pts:=by
 obtain⟨pa,da⟩:=c8.mp h.p;obtain⟨pb,db⟩:=c8.mp h.q;obtain⟨f1,b1⟩:=qO hs ho hf h;have hab:d8 n (a-b)=0:=by rw[f8];lia
 have C:=oK (n:=n) hf.prim.ne hab;have bf:a-b≠0:=λq=>h.ne (fQ q);obtain⟨P,pP,eP,hP⟩:∃P∈pts,d8 m P=e/\cr (a-b) (P-b)≠0:=by
  by_cases z:∃P∈pts,d8 m P=e/\cr (a-b) (P-b)≠0
  ·exact z
  ·exfalso;obtain⟨A,hA,B,hB,D,hD,eA,eB,eD,hc⟩:=hg.three;have k:∀X∈pts,d8 m X=e->cr (a-b) (X-b)=0:=λX hX dX=>by
    by_cases q:cr (a-b) (X-b)=0
    ·exact q
    ·exact absurd ⟨X,hX,dX,q⟩ z
   have k2:∀X∈pts,d8 m X=e->∀Y∈pts,d8 m Y=e->cr (X-Y) (a-b)=0:=λX hX dX Y hY dY=>by have q1:=k X hX dX;have q2:=k Y hY dY;have a1:=congrArg V.x q1;have a2:=congrArg V.y q1;have a3:=congrArg V.z q1;have b1:=congrArg V.x q2;have b2:=congrArg V.y q2;have b3:=congrArg V.z q2;simp at a1 a2 a3 b1 b2 b3;apply ext<;>simp<;>grind
   exact hc (qG bf (k2 B hB eB A hA eA)<|k2 D hD eD A hA eA)
 have mab:d8 m (a-b)=0:=by rw[f8];lia
 have mP:d8 m (P-b)=0:=by rw[f8];lia
 have par:cr m (cr (a-b)<|P-b)=0:=R1 mab mP;obtain⟨k,l,hk,ek⟩:=D2 hg.prim.ne par;have dl:∀w,k*f9 (a-b) (P-b) w=l*d8 m w:=λw=>by have:=congrArg (λv=>d8 v w) ek;simp only[V2,Q8]at this;exact this
 have l0:l≠0:=λq=>hP (by rw[q,t9]at ek;have q1:=congrArg V.x ek;have q2:=congrArg V.y ek;have q3:=congrArg V.z ek;simp only[FS,IP,KA,bB,aW,aS]at q1 q2 q3;exact ext ((aAI.mp q1).resolve_left (by lia)) ((aAI.mp q2).resolve_left (by lia)) ((aAI.mp q3).resolve_left (by lia)))
 have mle:∀Q∈pts,d8 m (Q-b)<=0:=λQ hQ=>by rw[f8];have:=hg.sup Q hQ;lia
 obtain⟨Z,hZ,hz⟩:=hs.below hf.prim.ne hf.sup;by_cases hl:0<l
 ·
  right;obtain⟨O,hO,eO⟩:∃O∈v7 (b8 b a pts).1 (b8 b a pts).2 pts,0<f9 (b8 b a pts).1 (a-b) (O-b):=f1.ac8 b1;obtain⟨pO,dO⟩:=c8.mp hO;obtain⟨_,e1b⟩:=c8.mp b1.p;obtain⟨_,e1a⟩:=c8.mp b1.q;have t1:f9 (a-b) (P-b) (O-b)<=0:=by
   have q:=dl (O-b);have:=aAR (mle O pO) (aBe hl);rw[aEH]at this;by_cases z:f9 (a-b) (P-b) (O-b)<=0
   ·exact z
   ·have:=aBA hk (show 0<f9 (a-b) (P-b) (O-b)by lia);lia
  have par2:cr (b8 b a pts).1 (cr (a-b)<|O-b)=0:=R1 (by rw[f8];lia) (by rw[f8];lia);obtain⟨k',l',mh,ek'⟩:=D2 f1.prim.ne par2;have dl':∀w,k'*f9 (a-b) (O-b) w=l'*d8 (b8 b a pts).1 w:=λw=>by have:=congrArg (λv=>d8 v w) ek';simp only[V2,Q8]at this;exact this
  have ji:0<l':=by
   have q:=congrArg (d8 (b8 b a pts).1) ek';rw[u5,u5]at q;have q2:0<d8 (b8 b a pts).1 (cr (a-b)<|O-b):=eO;have:=aBA mh q2;have hn:=B8 f1.prim.ne;by_cases z:0<l'
   ·exact z
   ·have:=aAV (show l'<=0 by lia) (aBe hn);simp at this;lia
  have t2:f9 (a-b) (O-b) (P-b)<=0:=by
   have q:=dl' (P-b);have h0:d8 (b8 b a pts).1 (P-b)<=0:=by rw[f8];have:=f1.sup P pP;lia
   have:=aAR h0 (aBe ji);rw[aEH]at this;by_cases z:f9 (a-b) (O-b) (P-b)<=0
   ·exact z
   ·have:=aBA mh (show 0<f9 (a-b) (O-b) (P-b)by lia);lia
  have t3:f9 (a-b) (O-b) (P-b)=0:=by rw[j5]at t1;lia
  have q0:=dl' (P-b);rw[t3,aEH]at q0;have onP':d8 (b8 b a pts).1 P=(b8 b a pts).2:=by have:=(aAI.mp q0.symm).resolve_left (by lia);rw[f8]at this;lia
  obtain⟨Z',hZ',hz'⟩:=hs.below hg.prim.ne hg.sup;obtain⟨q1,q2⟩:=kE hg.prim f1.prim hg.sup f1.sup gb ga eP e1b e1a onP' hP hZ' hz';exact aFV q1 q2
 ·
  left;have mn:l<0:=by lia
  obtain⟨O,hO,eO⟩:=hf.ac8 h;obtain⟨pO,dO⟩:=c8.mp hO;rw[lJ]at eO;have t1:0<=f9 (a-b) (P-b) (O-b):=by
   have q:=dl (O-b);have h2:0<=l*d8 m (O-b):=by
    have:=aDP (show 0<=-l by lia) (show 0<=-d8 m (O-b)by have:=mle O pO;lia)
    rwa [aFq]at this
   by_cases z:0<=f9 (a-b) (P-b) (O-b)
   ·exact z
   ·have:=aBG hk (show f9 (a-b) (P-b) (O-b)<0 by lia);lia
  have par2:cr n (cr (b-a)<|O-b)=0:=R1 (by rw[f8];lia) (by rw[f8];lia);obtain⟨k',l',mh,ek'⟩:=D2 hf.prim.ne par2;have dl':∀w,k'*f9 (b-a) (O-b) w=l'*d8 n w:=λw=>by have:=congrArg (λv=>d8 v w) ek';simp only[V2,Q8]at this;exact this
  have ji:0<l':=by
   have q:=congrArg (d8 n) ek';rw[u5,u5]at q;have q2:0<d8 n (cr (b-a)<|O-b):=eO;have:=aBA mh q2;have hn:=B8 hf.prim.ne;by_cases z:0<l'
   ·exact z
   ·have:=aAV (show l'<=0 by lia) (aBe hn);simp at this;lia
  have t2:f9 (b-a) (O-b) (P-b)<=0:=by
   have q:=dl' (P-b);have h0:d8 n (P-b)<=0:=by rw[f8];have:=hf.sup P pP;lia
   have:=aAR h0 (aBe ji);rw[aEH]at this;by_cases z:f9 (b-a) (O-b) (P-b)<=0
   ·exact z
   ·have:=aBA mh (show 0<f9 (b-a) (O-b) (P-b)by lia);lia
  have e3:f9 (b-a) (O-b) (P-b)=f9 (a-b) (P-b) (O-b):=by simp[f9,d8];grind
  have t3:f9 (b-a) (O-b) (P-b)=0:=by lia
  have q0:=dl' (P-b);rw[t3,aEH]at q0;have onn:d8 n P=d:=by have:=(aAI.mp q0.symm).resolve_left (by lia);rw[f8]at this;lia
  obtain⟨Z',hZ',hz'⟩:=hs.below hg.prim.ne hg.sup;obtain⟨q1,q2⟩:=kE hg.prim hf.prim hg.sup hf.sup gb ga eP db da onn hP hZ' hz';exact aFV q1 q2
end
end G
namespace M
open PySem L2 DL
def vS:D->Option G.V
 |.tup [.int a,.int b,.int c]=>some ⟨a,b,c⟩
 |_=>none
@[simp]def yW (v:G.V):vS (vd v)=some v:=rfl
def BU (h:vS d=some v):d=vd v:=by
 unfold vS at h;split at h
 ·cases h;rfl
 ·cases h
def A4:List D->Option (List G.V)
 |[]=>some []
 |d::ds=>match vS d,A4 ds with
  |some v,some vs=>some (v::vs)
  |_,_=>none
@[simp]theorem o5:∀vs:List G.V,A4 (vs.map vd)=some vs
 |[]=>rfl
 |v::vs=>by rw[aAs,A4,yW,o5 vs]
theorem m5:∀{ds:List D} {vs:List G.V},A4 ds=some vs->ds=vs.map vd
 |[],vs,h=>by cases h;rfl
 |d::ds,vs,h=>by
  unfold A4 at h;split at h
  ·rename_i v ws h1 h2;cases h;rw[BU h1,m5 h2];rfl
  ·cases h
def xT (h:vd u=vd v):u=v:=by
 have:vS (vd u)=vS (vd v):=by rw[h]
 simpa using this
def ML {u v:List G.V}(h:u.map vd=v.map vd):u=v:=by
 have:A4 (u.map vd)=A4 (v.map vd):=by rw[h]
 simpa using this
def R8 (n:Nat)(pts:List G.V):Prop:=(∀P∈pts,Sz n P)/\pts.length<=1000
def xP:Option G.V->D
 |some v=>vd v
 |none=>.non
def w6:List D->R D
 |[.lst xs]=>match A4 xs with
  |some ws=>.ok (xP (G.y9 ws))
  |none=>.bad
 |_=>.bad
open Classical in
def j8:List D->R D
 |[.lst xs]=>match A4 xs with
  |some pts=>if pts≠[]/\R8 1000 pts then .ok (.int (G.G4 pts))else .bad
  |none=>.bad
 |_=>.bad
open Classical in
def A3:List D->R D
 |[.lst xs]=>match A4 xs with
  |some pts=>if R8 1000 pts/\G.G4 pts=3 then .ok .non else .bad
  |none=>.bad
 |_=>.bad
open Classical in
def w4:List D->R D:=v4 λa b c d=>KO λxs=>rY (match A4 xs with
 |some pts=>if Sz 10000 ⟨a,b,c⟩/\R8 1000 pts then .ok (.lst ((G.v7 ⟨a,b,c⟩ d pts).map vd))else .bad
 |none=>.bad)
open Classical in
def D3:List D->R D:=XS λys=>KO λxs=>rY ((v1 λa b c=>v1 λd e f=>rY (match A4 xs with
 |some pts=>if Sz 1000 ⟨a,b,c⟩/\Sz 1000 ⟨d,e,f⟩/\R8 1000 pts/\G.aN (G.b8 ⟨a,b,c⟩ ⟨d,e,f⟩ pts).1 then .ok (uE (G.b8 ⟨a,b,c⟩ ⟨d,e,f⟩ pts).1 (G.b8 ⟨a,b,c⟩ ⟨d,e,f⟩ pts).2)else .bad
 |none=>.bad)) ys)
abbrev F4 (p:G.V×G.V):D:=.tup [vd p.1,vd p.2]
structure Land (pts:List G.V)(m:G.V):Prop where
 good:G.Good pts m
 sz:R8 900 pts
 few:pts.length<=63
 head:pts.head?=some m
open Classical in
def G0:List D->R D
 |[.lst xs]=>match A4 xs with
  |some (m::pts)=>if Land (m::pts) m then .ok (F4 (G.d6 m (m::pts)))else .bad
  |_=>.bad
 |_=>.bad
open Classical in
def bR:List D->R D:=v1 λa b c=>v1 λd e f=>v1 λg h i=>v1 λj k l=>rY (
 if Sz 10000 ⟨a,b,c⟩/\Sz 1000 ⟨d,e,f⟩/\Sz 1000 ⟨g,h,i⟩/\Sz 1000 ⟨j,k,l⟩then .ok (.int (G.turn ⟨a,b,c⟩ ⟨d,e,f⟩ ⟨g,h,i⟩ ⟨j,k,l⟩))else .bad)
open Classical in
def R7:List D->R D:=v1 λa b c=>KO λxs=>rY (match A4 xs with
 |some pts=>if Sz 10000 ⟨a,b,c⟩/\R8 1000 pts then .ok (.lst ((G.w8 ⟨a,b,c⟩ pts).reverse.map vd))else .bad
 |none=>.bad)
open Classical in
def M3:List D->R D:=v1 λa b c=>KO λxs=>rY (match A4 xs with
 |some pts=>if Sz 10000 ⟨a,b,c⟩/\R8 1000 pts then .ok (.lst ((G.j6 ⟨a,b,c⟩ pts).map vd))else .bad
 |none=>.bad)
def v9:List D->R D
 |[.lst xs]=>match A4 xs with
  |some pts=>if pts.length<=3000 then .ok (.lst ((G.S6 pts).map F4))else .bad
  |none=>.bad
 |_=>.bad
abbrev k9 (pts:List G.V)(f:G.V×Int):D:=.tup [uE f.1 f.2,.lst ((G.j9 pts f).map vd)]
def aQ (pts:List G.V)(fs:List (G.V×Int)):Prop:=(∀f,f∈fs↔G.IsFace pts f.1 f.2)/\qD P4 (fs.map<|k9 pts)
open Classical in
def A6 (pts:List G.V):List (G.V×Int):=if h:∃fs,aQ pts fs then h.choose else[]
def G9:List D->List D->R D
 |[w],[_]=>.ok w
 |_,_=>.bad
def C3:List D->List D->R D
 |[w],[p]=>w4 [p,w]
 |_,_=>.bad
open Classical in
def F9 (d:D) (m1 m2:List D->R D):R D:=match m1 [.non]with
 |.ok (.lst xs)=>match A4 xs with
  |some (m::pts)=>if Land (m::pts) m/\(m::pts).length<=14/\d=F4 (G.d6 m (m::pts))/\m1=G9 [.lst xs]/\m2=C3 [.lst xs]then .ok (.lst ((A6 (m::pts)).map (k9 (m::pts))))else .bad
  |_=>.bad
 |_=>.bad
def i8 (pts:List G.V):List G.V:=(X6<|pts.map vd).filterMap vS
open Classical in
def L8:List D->R D
 |[.lst xs]=>match A4 xs with
  |some pts=>if R8 900 pts/\G.n4 pts/\(i8 pts).length<=14 then .ok (.lst ((A6 (i8 pts)).map (k9 (i8 pts))))else .bad
  |none=>.bad
 |_=>.bad
def QY:D->Option (List G.V)
 |.tup [_,.lst xs]=>A4 xs
 |_=>none
def oA:List D->Option (List (List G.V))
 |[]=>some []
 |d::ds=>match QY d,oA ds with
  |some v,some vs=>some (v::vs)
  |_,_=>none
open Classical in
def B6:List D->R D
 |[.lst xs]=>match oA xs with
  |some rs=>if rs.flatten.length<=3000/\(i8 rs.flatten).length<=63 then .ok (.lst ((i8 rs.flatten).map vd))else .bad
  |none=>.bad
 |_=>.bad
def A1 (pts:List G.V):List G.V:=i8 ((A6<|i8 pts).flatMap (G.j9<|i8 pts))
open Classical in
def J3:List D->R D
 |[.lst xs]=>match A4 xs with
  |some pts=>if R8 900 pts/\G.n4 pts/\(i8 pts).length<=14 then .ok (.lst ((A1 pts).map vd))else .bad
  |none=>.bad
 |_=>.bad
end M
namespace M
open PySem L2 DL
def mx (v:G.V):EJ (vd v) (.tup [.int 0,.int 0,.int 0])=.ok (.bl (!decide (v=0))):=by rw[yO];congr 3;rw[aDD];simp only[aAF,beq_iff_eq,decide_eq_true_eq,G.kM];exact⟨λh=>h,λh=>h⟩
def xw (v:G.V):FN (vd v) (.tup [.int 0,.int 0,.int 0])=.ok (.bl (decide (v=0))):=by rw[RP];congr 2;rw[aDD];simp only[aAF,beq_iff_eq,decide_eq_true_eq,G.kM];exact⟨λh=>h,λh=>h⟩
def Z8 (h1:G d ρ=.ok ρ1)(h2:F ρ1=.ok (.nx ρ2)):O8 G F (d::ds) ρ=O8 G F ds ρ2:=by rw[O8,h1];dsimp only;rw[h2]
def qA (h1:G d ρ=.ok ρ1)(h2:F ρ1=.ok (.rt x)):O8 G F (d::ds) ρ=.ok (.rt x):=by rw[O8,h1];dsimp only;rw[h2]
theorem gU {α:Type}(rep:α->D)(p:α->Bool)(g:α->D):∀(l:List α),(∀a∈l,∃ρ1,G (rep a) ρ=.ok ρ1/\ft ρ1=.ok (p a)/\(p a=true->fe ρ1=.ok (g a)))->y7 G ft fe ρ (l.map rep)=.ok ((l.filter p).map g)
 |[],_=>rfl
 |a::l,h=>by
  obtain⟨ρ1,h1,h2,h3⟩:=h a (.head _);have ih:=gU rep p g l λb hb=>h b (.tail _ hb);rw[aAs,y7,h1];dsimp only;rw[h2,R.aa0,ih];cases hp:p a with
  |false=>rw[if_neg (by decide),List.filter_cons_of_neg (by simp[hp])]
  |true=>rw[if_pos rfl,h3 hp,R.aa0,R.aa0,List.filter_cons_of_pos hp];rfl
def cE {α:Type}(rep:α->D)(g:α->D)(l:List α)(h:∀a∈l,∃ρ1,G (rep a) ρ=.ok ρ1/\fe ρ1=.ok (g a)):y7 G (λ_=>.ok true) fe ρ (l.map rep)=.ok (l.map g):=by
 have:=gU rep (G:=G) (ft:=λ_=>.ok true) (fe:=fe) (ρ:=ρ) (λ_=>true) g l λa ha=>let⟨ρ1,h1,h2⟩:=h a ha;⟨ρ1,h1,rfl,λ_=>h2⟩
 rw[this,List.filter_eq_self.mpr λ_ _=>rfl]
def small (h:n<=1000):n<=sizeLine:=aAx h (by decide)
def JM (h:n<=3000):n<=sizeLine:=aAx h (by decide)
def R8.sub (h:R8 n pts)(hs:∀P∈qs,P∈pts)(hl:qs.length<=pts.length):R8 n qs:=⟨λP hP=>h.1 P (hs P hP),aAx hl h.2⟩
def R8.mono (h:R8 m pts)(hm:m<=n:=by decide):R8 n pts:=⟨λP hP=>(h.1 P hP).mono hm,h.2⟩
def ax (t:Int):(sgn t==0)=decide (t=0):=by
 unfold sgn;by_cases h:0<t
 ·rw[if_pos h];simp;lia
 ·rw[if_neg h];by_cases h2:t<0
  ·rw[if_pos h2];simp;lia
  ·rw[if_neg h2];simp;lia
def eG (h1:Sz 10000 n)(h2:R8 1000 pts):w4 [uE n d,.lst (pts.map vd)]=.ok (.lst ((G.v7 n d pts).map vd)):=by simp only[w4,v4,KO,rY,o5];exact if_pos ⟨h1,h2⟩
def HS (h1:pts≠[])(h2:R8 1000 pts):j8 [.lst (pts.map vd)]=.ok (.int (G.G4 pts)):=by simp only[j8,o5];exact if_pos ⟨h1,h2⟩
def yB (ws:List G.V):w6 [.lst (ws.map vd)]=.ok (xP (G.y9 ws)):=by simp only[w6,o5]
def xW (bs:List Bool):aO (bs.map D.bl)=some bs:=by
 induction bs with
 |nil=>rfl
 |cons b bs ih=>rw[aAs,aO,ih];rfl
def SR (bs:List Bool):anyR [.lst (bs.map D.bl)]=.ok (.bl (bs.any id)):=by simp only[anyR,xW]
def LY (xs:List D):mS (.lst xs) none (some (-1))=.ok (.lst xs.dropLast):=by
 show R.ok (D.lst<|cutD xs none<|some (-1))=_;unfold cutD HT.sIx;rw[aDS];simp;congr 1
 lia
def NH (xs:List D):mS (.lst xs) (some 1) none=.ok (.lst xs.tail):=by
 show R.ok (D.lst<|cutD xs (some 1) none)=_;unfold cutD HT.sIx;cases xs with
 |nil=>rfl
 |cons a l=>simp
def UF (xs:List D):mS (.lst xs) none (some 1)=.ok (.lst (xs.take 1)):=by
 show R.ok (D.lst<|cutD xs none<|some 1)=_;unfold cutD HT.sIx;cases xs with
 |nil=>rfl
 |cons a l=>simp
def OL (xs:List D)(a b:D):fW (xs++[a,b]) (-1)=some b:=by
 have hl:(xs++[a,b]).length=xs.length+2:=by simp
 unfold fW ON;rw[hl,if_neg (by decide),if_pos (by lia)];show(xs++[a,b])[((-1:Int)+((xs.length+2:Nat):Int)).toNat]?=_;have:((-1:Int)+((xs.length+2:Nat):Int)).toNat=xs.length+1:=by lia
 rw[this,aAu (by lia),show xs.length+1-xs.length=1 by lia];rfl
def OU (xs:List D)(a b:D):fW (xs++[a,b]) (-2)=some a:=by
 have hl:(xs++[a,b]).length=xs.length+2:=by simp
 unfold fW ON;rw[hl,if_neg (by decide),if_pos (by lia)];show(xs++[a,b])[((-2:Int)+((xs.length+2:Nat):Int)).toNat]?=_;have:((-2:Int)+((xs.length+2:Nat):Int)).toNat=xs.length:=by lia
 rw[this,aAu (by lia),Nat.sub_self];rfl
def PV (a:D)(xs:List D):fW (a::xs) 0=some a:=by rw[dS (by decide)];rfl
def XM (a b:D)(xs:List D):fW (a::b::xs) 1=some b:=by rw[dS (by decide)];rfl
def ME {P Q R:G.V}(h:G.aN (G.j1 P Q R).1):G.cr (Q-P) (R-P)≠0:=λe=>by
 have:(G.j1 P Q R).1=0:=by show G.gT (G.cr (Q-P)<|R-P) _=0;rw[e];rfl
 rw[this]at h;unfold G.aN at h;exact absurd h (by decide)
theorem tK:∀{c:List G.V},(G.U4 n P c).length<=c.length
 |[]=>aAg _
 |[a]=>aAg _
 |b::a::r=>by
  unfold G.U4;split
  ·exact aAx (tK (c:=a::r)) (by simp)
  ·exact aAg _
theorem mC:∀(qs c:List G.V),(qs.foldl (λc P=>P::G.U4 n P c) c).length<=qs.length+c.length
 |[],c=>by simp
 |P::qs,c=>by refine aAx (mC qs _) ?_;have:=tK (n:=n) (P:=P) (c:=c);simp;lia
def oP (n:G.V)(ps:List G.V):(G.w8 n ps).length<=ps.length:=by simpa[G.w8]using mC (n:=n) ps []
theorem oW {α β:Type}(f:α->D):∀(xs ys:List α),gH (xs.map f) (ys.map f)=(xs.zip ys).map λp=>D.tup [f p.1,f p.2]
 |[],_=>by simp[gH]
 |_::_,[]=>by simp[gH]
 |x::xs,y::ys=>by have:=oW (β:=β) f xs ys;simp only[gH]at this⊢;simp[this]
def PQ (h1:Sz 10000 n)(h2:R8 1000 pts):R7 [vd n,.lst (pts.map vd)]=.ok (.lst ((G.w8 n pts).reverse.map vd)):=by simp only[R7,v1,KO,rY,o5];exact if_pos ⟨h1,h2⟩
def zF {n P Q R:G.V}(h:Sz 10000 n)(h1:Sz 1000 P)(h2:Sz 1000 Q)(h3:Sz 1000 R):bR [vd n,vd P,vd Q,vd R]=.ok (.int (G.turn n P Q R)):=if_pos ⟨h,h1,h2,h3⟩
def T5 (h1:Sz 1000 A)(h2:Sz 1000 B)(h3:R8 1000 pts)(h4:G.aN (G.b8 A B pts).1):D3 [.tup [vd A,vd B],.lst (pts.map vd)]=.ok (uE (G.b8 A B pts).1 (G.b8 A B pts).2):=by simp only[D3,XS,KO,v1,rY,o5];exact if_pos ⟨h1,h2,h3,h4⟩
def NZ (h1:Sz 10000 n)(h2:R8 1000 pts):M3 [vd n,.lst (pts.map vd)]=.ok (.lst ((G.j6 n pts).map vd)):=by simp only[M3,v1,KO,rY,o5];exact if_pos ⟨h1,h2⟩
def ET (h:pts.length<=3000):v9 [.lst (pts.map vd)]=.ok (.lst ((G.S6 pts).map F4)):=by simp only[v9,o5];exact if_pos h
def qH (h:a.length+b.length<=sizeLine):jY (.lst a) (.lst b)=.ok (.lst (a++b)):=if_pos h
end M
namespace G
def vO (hs:n4 pts)(hm:m∈pts)(hl:∀X∈pts,X=m\/d9 (X-m)):
  aN (b8 m (m+kk) pts).1/\m∈v7 (b8 m (m+kk) pts).1 (b8 m (m+kk) pts).2 pts/\∃out∈v7 (b8 m (m+kk) pts).1 (b8 m (m+kk) pts).2 pts,m≠out:=by
 have C:ConeM (m+kk-m) (λw=>0<w.x\/(w.x=0/\0<w.y)):=by rw[J2];exact zA
 have bf:m+kk-m≠0:=by rw[J2];intro e;have:=congrArg V.z e;simp[kk]at this
 have hp:∀P∈pts,(0<(P-m).x\/((P-m).x=0/\0<(P-m).y))\/cr (m+kk-m) (P-m)=0:=λP hP=>by
  rw[J2];rcases hl P hP with e|e
  ·right;subst e;rw[u7];apply ext<;>simp
  ·unfold d9 at e;rcases e with e|⟨e1,e|⟨e2,e3⟩⟩
   ·exact .inl (.inl e)
   ·exact .inl (.inr ⟨e1,e⟩)
   ·right;apply ext
    ·simp[kk];simp at e2;lia
    ·simp[kk];simp at e1;lia
    ·simp[kk]
 have hx:∃P∈pts,0<(P-m).x\/((P-m).x=0/\0<(P-m).y):=by
  by_cases z:∃P∈pts,0<(P-m).x\/((P-m).x=0/\0<(P-m).y)
  ·exact z
  ·exfalso;obtain⟨Z,hZ,e⟩:=hs.off (n:=⟨1,0,0⟩) (d:=m.x) (λe=>by have:=congrArg V.x e;simp at this);have w:=(hp Z hZ).resolve_left λq=>z ⟨Z,hZ,q⟩;rw[J2]at w;have:=congrArg V.y w;simp[kk]at this;simp[d8]at e
   lia
 obtain⟨out,g,o1,o2,g0,ge,gp,gd,sup,sB,sO,sP⟩:=T5 C bf hp hx;refine⟨gp,c8.mpr ⟨hm,gd.symm⟩,out,c8.mpr ⟨o1,sO⟩,λe=>?_⟩;subst e;rw[u7]at o2;simp at o2
section
variable{pts:List V} (hs:n4 pts) (ho:pts.Pairwise (λa b=>d9 (b-a)))
include hs ho
theorem GH (hf:IsFace pts f.1 f.2)(hg:IsFace pts g.1 g.2)(h1:(a,b)∈S6 (j9 pts f))(h2:(a,b)∈S6 (j9 pts g)):f=g:=by
 have e1:=(hf.aa2 ho).aa1.mp h1;have e2:=(hg.aa2 ho).aa1.mp h2;obtain⟨f1,b1⟩:=qO hs ho hf e1;rcases BL hs ho hf hg e1 (c8.mp e2.p).2 (c8.mp e2.q).2 with q|q
 ·exact q.symm
 ·exfalso;have:g=b8 b a pts:=q;rw[<-this]at b1;exact LG hs ho hg e2 b1
theorem CV (h:l.Nodup):(S6 l).Nodup:=by
 have:((S6 l).map (·.1)).Nodup:=by
  unfold S6;rw[List.map_fst_zip]
  ·exact h
  ·simp;lia
 exact(aBN.mp this).imp λ{a b} h e=>h (by rw[e])
def DW (pts:List V)(fs:List (V×Int)):List (V×V):=fs.flatMap λf=>S6 (j9 pts f)
omit hs ho in
theorem IA (fs:List (V×Int)):(DW pts fs).length=(fs.map λf=>(j9 pts f).length).sum:=by
 induction fs with
 |nil=>rfl
 |cons f fs ih=>show(S6 (j9 pts f)++DW pts fs).length=_;rw[aAz,ih,aAs,aDJ];congr 1;unfold S6;simp;lia
theorem kR:∀{fs:List (V×Int)},fs.Nodup->(∀f∈fs,IsFace pts f.1 f.2)->(DW pts fs).Nodup
 |[],_,_=>aCU
 |f::fs,nd,hf=>by have n1:=aAK.mp nd;have h1:=hf f (.head _);show(S6 (j9 pts f)++DW pts fs).Nodup;rw[aCN];refine⟨CV hs ho ((h1.aa2 ho).aa4),kR n1.2 λg hg=>hf g (.tail _ hg),λe he e' ye q=>?_⟩;subst q;obtain⟨g,hg,ju⟩:=aBK.mp ye;exact n1.1 (GH hs ho h1 (hf g<|.tail _ hg) (a:=e.1) (b:=e.2) he ju▸hg)
theorem cD {fs:List (V×Int)}(nd:fs.Nodup)(hf:∀f∈fs,IsFace pts f.1 f.2):(fs.map λf=>(j9 pts f).length).sum+pts.length<=pts.length*pts.length:=by
 have npts:pts.Nodup:=ho.imp λ{a b} h e=>by subst e;exact M5 h
 have h1:=kR hs ho nd hf;have h2:(DW pts fs++pts.map λa=>(a,a)).Nodup:=by rw[aCN];refine⟨h1,aBN.mpr (npts.imp λ{a b} h e=>h (Prod.mk.inj e).1),λe he e' ye q=>?_⟩;subst q;obtain⟨g,hg,ju⟩:=aBK.mp he;obtain⟨a,_,rfl⟩:=aAp.mp ye;exact(((hf g hg).aa2 ho).aa1.mp ju).ne rfl
 have h3:∀e∈DW pts fs++pts.map (λa=>(a,a)),e∈pts.flatMap λa=>pts.map λb=>(a,b):=λe he=>by
  rcases aAS.mp he with he|he
  ·obtain⟨g,hg,ju⟩:=aBK.mp he;have ju:(e.1,e.2)∈S6 (j9 pts g):=ju;have ed:=((hf g hg).aa2 ho).aa1.mp ju;exact aBK.mpr ⟨e.1,(c8.mp ed.p).1,aAp.mpr ⟨e.2,(c8.mp ed.q).1,rfl⟩⟩
  ·obtain⟨a,ha,rfl⟩:=aAp.mp he;exact aBK.mpr ⟨a,ha,aAp.mpr ⟨a,ha,rfl⟩⟩
 have h4:=Y5 h2 h3;have h5:(pts.flatMap λa=>pts.map λb=>(a,b)).length=pts.length*pts.length:=by
  have:∀l:List V,(l.flatMap λa=>pts.map λb=>(a,b)).length=l.length*pts.length:=λl=>by
   induction l with
   |nil=>simp
   |cons a l ih=>rw[List.flatMap_cons,aAz,ih,aAl,aAt,Nat.succ_mul];lia
  exact this pts
 rw[aAz,IA,aAl,h5]at h4;exact h4
theorem jI {fs:List (V×Int)}(hf:∀f∈fs,IsFace pts f.1 f.2):3*fs.length<=(fs.map λf=>(j9 pts f).length).sum:=by
 induction fs with
 |nil=>simp
 |cons f fs ih=>
  have:=ih λg hg=>hf g (.tail _ hg);obtain⟨r,s,t,l,e⟩:=U3 ho (hf f<|.head _);have e2:(j9 pts f).length=l.length+3:=by show(j6 f.1 (v7 f.1 f.2 pts)).length=_;rw[e];simp
  rw[aAs,aDJ,aAt,e2]
  lia
end
theorem gS:∀(pts:List V) (up out:V),(D8 a A pts up out).2∈pts\/(D8 a A pts up out).2=out
 |[],up,out=>.inr rfl
 |P::Ps,up,out=>by
  unfold D8;split
  ·rcases gS Ps (cr a (P-A)) P with h|h
   ·exact .inl (.tail _ h)
   ·exact .inl (by rw[h];exact .head _)
  ·rcases gS Ps up out with h|h
   ·exact .inl (.tail _ h)
   ·exact .inr h
end G
namespace M
open PySem L2 DL
def GN (a b:G.V):HT.lexLt (flat (vd a)) (flat (vd b))=true↔G.d9 (b-a):=by
 show HT.lexLt [a.x,a.y,a.z] [b.x,b.y,b.z]=true↔_;unfold G.d9;simp only[HT.lexLt,G.OY,G.OM,G.PR];by_cases h1:a.x=b.x
 ·by_cases h2:a.y=b.y
  ·by_cases h3:a.z=b.z
   ·simp[h1,h2,h3]
   ·simp[h1,h2,h3];try lia
  ·simp[h1,h2];try lia
 ·simp[h1];try lia
def xN {pts:List G.V}(h:pts.Pairwise λa b=>G.d9 (b-a)):KR (pts.map vd):=aBN.mpr (h.imp λ{a b} q=>(GN a b).mpr q)
def TR {pts:List G.V}(h:KR (pts.map vd)):pts.Pairwise λa b=>G.d9 (b-a):=(aBN.mp h).imp λ{a b} q=>(GN a b).mp q
def bx (v:G.V):aL (vd v)=true:=rfl
def HL (pts:List G.V):(pts.map vd).all aL=true:=aBU.mpr λd hd=>by obtain⟨v,_,rfl⟩:=aAp.mp hd;rfl
def QB [Tabs]{m:G.V}{pts:List G.V}(h:(m::pts).Pairwise λa b=>G.d9 (b-a)):HP [.lst ((m::pts).map vd)]=.ok (vd m):=by show(if(m::pts).map vd≠[]/\((m::pts).map vd).all aL=true then _ else _)=_;rw[if_pos ⟨by simp,HL _⟩,LP (xN h) _ (by simp)];rfl
def vD {P Q R:G.V}(p:Sz 1000 P)(q:Sz 1000 Q)(r:Sz 1000 R):Sz 2003 (G.j1 P Q R).1:=by
 have sC:=(q.sub p).cr (r.sub p);by_cases hc:G.cr (Q-P) (R-P)=0
 ·have:(G.j1 P Q R).1=0:=by show G.gT (G.cr (Q-P)<|R-P) _=0;rw[hc];rfl
  rw[this];exact⟨by decide,by decide,by decide⟩
 ·obtain⟨g0,g1,g2⟩:=G.iU hc;have f1:=bits_fdiv (b:=(G.u9 (G.cr (Q-P)<|R-P):Int)) sC.1;have f2:=bits_fdiv (b:=(G.u9 (G.cr (Q-P)<|R-P):Int)) sC.2.1;have f3:=bits_fdiv (b:=(G.u9 (G.cr (Q-P)<|R-P):Int)) sC.2.2;rw[kT g0]at f1 f2 f3;exact⟨f1,f2,f3⟩
def uO {A B:G.V}{pts:List G.V}(p:Sz 1000 A)(q:Sz 1000 B)(r:R8 1000 pts):Sz 2003 (G.b8 A B pts).1:=by
 unfold G.b8;rcases G.gS (a:=B-A) (A:=A) pts 0 A with h|h
 ·exact vD p q (r.1 _ h)
 ·rw[h];exact vD p q p
def UZ (m:G.V):vd (m+G.kk)=.tup [.int m.x,.int m.y,.int (m.z+1)]:=by simp[G.kk]
def JK (h:Sz 900 m):Sz 1000 (m+G.kk):=(h.add (v:=G.kk) ⟨by decide,by decide,by decide⟩).mono
def HI (h:R8 k pts):R8 k (G.v7 n d pts):=h.sub (λP hP=>(G.c8.mp hP).1) (List.length_filter_le _ _)
def KJ {α:Type}{l:List α}{a b:α}(ha:a∈l)(hb:b∈l)(h:a≠b):∃x y r,l=x::y::r:=by
 match l,ha,hb with
 |[x],ha,hb=>exact absurd ((aBd.mp ha).trans (aBd.mp hb).symm) h
 |x::y::r,_,_=>exact⟨x,y,r,rfl⟩
end M
namespace M
open PySem L2 DL
open Classical in
def JJ {kvs:List (D×D)}{k v k':D}:k'∈(cG kvs k v).map (·.1)↔k'∈kvs.map (·.1)\/k'=k:=by
 unfold cG;split
 ·rename_i h;rw[aCi];have:((λx=>x.1)∘λp:D×D=>if p.1=k then(p.1,v)else p)=λp=>p.1:=by funext p;simp only[Function.comp];split<;>rfl
  rw[this];exact⟨.inl,λq=>q.elim id λe=>by rw[e];exact h⟩
 ·rw[aBJ,aAS];simp
def JU {kvs:List (D×D)}{k v:D}:(cG kvs k v).length<=kvs.length+1:=by
 unfold cG;split
 ·simp
 ·simp
def NK {p q:G.V×G.V}(h:F4 p=F4 q):p=q:=by injection h with h;injection h with h1 h2;injection h2 with h2 _;exact aFV (xT h1) (xT h2)
def wF (p:G.V×G.V):Q3 7 (F4 p)=true/\CY (F4 p)=true:=⟨rfl,rfl⟩
def uk:Ev->R Bool:=λρ=>((((uV 5 ρ).bind λd=>R.ok [d]).bind GW).bind λx=>UM x (D.int 0)).bind wA
def pq:Ev->R Out:=λρ=>
 B5 ((aT 9 ρ).bind λkd=>uA 4 ρ kd (D.bl true)) λρ=>((((uV 9 ρ).bind λx=>O9 x (D.int 1)).bind λd=>(((uV 9 ρ).bind λx=>O9 x (D.int 0)).bind λd=>R.ok [d]).bind λds=>R.ok (d::ds)).bind nK).bind (mW 5 ρ)
theorem zK {a0 a1 a2 a3 a6 a7 a8:Sl}:∀(qs:List (G.V×G.V)) (kvs:List (D×D)) (W:List (G.V×G.V)) (a9:Sl),kvs.length+qs.length<=10000->W.length+qs.length<=10000->
  ∃jg a9',O8 (λd ρ=>R.ok (aDw ρ 9 (Sl.v d))) pq (qs.map F4) [a0,a1,a2,a3,.d kvs,.o (W.map F4),a6,a7,a8,a9]=.ok (.nx [a0,a1,a2,a3,.d jg,.o ((W++qs.map λq=>(q.2,q.1)).map F4),a6,a7,a8,a9'])/\
   (∀e:G.V×G.V,F4 e∈jg.map (·.1)↔F4 e∈kvs.map (·.1)\/e∈qs)/\jg.length<=kvs.length+qs.length
 |[],kvs,W,a9,_,_=>⟨kvs,a9,by simp,λe=>by simp,by simp⟩
 |q::qs,kvs,W,a9,h1,h2=>by
  simp only[aAt]at h1 h2;have pl:=JU (kvs:=kvs) (k:=F4 q) (v:=.bl true);obtain⟨jg,a9',e,m,l⟩:=zK qs (cG kvs (F4 q)<|.bl true) (W++[(q.2,q.1)]) (.v (F4 q)) (by lia) (by simp;lia);refine⟨jg,a9',?_,λx=>?_,by simp;lia⟩
  ·rw[aAs];refine(Z8 (ρ2:=[a0,a1,a2,a3,.d (cG kvs (F4 q)<|.bl true),.o ((W++[(q.2,q.1)]).map F4),a6,a7,a8,.v (F4 q)]) rfl ?_).trans ?_
   ·have hk:kvs.length<=sizeLine:=aAx (show kvs.length<=10000 by lia) (by decide);have hw:(W.map F4).length<sizeLine:=by rw[aAl];exact aCC (show W.length<=10000 by lia) (by decide)
    have d1:uA 4 [a0,a1,a2,a3,.d kvs,.o (W.map F4),a6,a7,a8,.v (F4 q)] (F4 q) (.bl true)=.ok (.nx [a0,a1,a2,a3,.d (cG kvs (F4 q)<|.bl true),.o (W.map F4),a6,a7,a8,.v (F4 q)]):=by show(if _ then _ else _)=_;rw[if_pos ⟨(wF q).1,(wF q).2,hk⟩];rfl
    have d2:mW 5 [a0,a1,a2,a3,.d (cG kvs (F4 q)<|.bl true),.o (W.map F4),a6,a7,a8,.v (F4 q)] (F4 (q.2,q.1))=.ok (.nx [a0,a1,a2,a3,.d (cG kvs (F4 q)<|.bl true),.o ((W++[(q.2,q.1)]).map F4),a6,a7,a8,.v (F4 q)]):=by show(if _ then _ else _)=_;rw[if_pos hw,aBJ];rfl
    show B5 ((R.ok<|F4 q).bind λkd=>uA 4 [a0,a1,a2,a3,.d kvs,.o (W.map F4),a6,a7,a8,.v (F4 q)] kd (D.bl true)) _=_;rw[R.aa0,d1];exact d2
   ·rw[e];simp
  ·rw[m x,JJ,aAe];constructor
   ·rintro((h|h)|h)
    ·exact .inl h
    ·exact .inr (.inl (NK h))
    ·exact .inr (.inr h)
   ·rintro(h|h|h)
    ·exact .inl (.inl h)
    ·exact .inl (.inr (by rw[h]))
    ·exact .inr h
section
variable(Φ:(List D->R D)->Hp->(Addr->Prop)->Addr->Prop)
def dj:Ev->R Out:=λρ=>
 B5 ((wQ 5 ρ).bind λz=>R.ok (Out.nx<|aDw z.snd 6<|Sl.v z.fst)) λρ=>
  ((aT 6 ρ).bind (mQ 4 ρ)).bind λt=>
   if t=true then
    B5
     ((((aT 6 ρ).bind λd=>((callC Φ 1 (p5 (λρ=>(uV 6 ρ).bind λx=>O9 x (D.int 0)) U5) ρ).bind λd=>R.ok [d]).bind λds=>R.ok (d::ds)).bind D3).bind λd=>R.ok (Out.nx<|aDw ρ 7<|Sl.v d))
     λρ=>
     B5
      (((((uV 7 ρ).bind λx=>mS x none (some 3)).bind λd=>((callC Φ 2 (p5 (aT 7) U5) ρ).bind λd=>R.ok [d]).bind λds=>R.ok (d::ds)).bind M3).bind λd=>R.ok (Out.nx<|aDw ρ 8<|Sl.v d))
      λρ=>
      B5 ((((aT 7 ρ).bind λd=>((aT 8 ρ).bind λd=>R.ok [d]).bind λds=>R.ok (d::ds)).bind nK).bind (mW 3 ρ))
       λρ=>((((aT 8 ρ).bind λd=>R.ok [d]).bind v9).bind kD).bind λds=>O8 (λd ρ=>R.ok (aDw ρ 9<|Sl.v d)) pq ds ρ
   else R.ok (Out.nx ρ)
def tJ (L:D) (p0:G.V×G.V) (fs:List D) (kvs:List (D×D)) (W:List (G.V×G.V)) (a b c d:Sl):Ev:=
 [Sl.v (F4 p0),Sl.c (G9 [L]) (Φ<|G9 [L]),Sl.c (C3 [L]) (Φ<|C3 [L]),.o fs,.d kvs,.o (W.map F4),a,b,c,d]
end
def uX {Φ:(List D->R D)->Hp->(Addr->Prop)->Addr->Prop}{i:Nat}{f:Ev->R (List D)}{ρ:Ev}{m:List D->R D}{ds:List D}(h:ρ[i]?=some (.c m (Φ m)))(hf:f ρ=.ok ds):callC Φ i f ρ=m ds:=by unfold callC;rw[h];dsimp only;rw[if_pos rfl,hf];rfl
def cT (pts:List G.V)(fs:List (G.V×Int)):Nat:=(fs.map λf=>(G.j9 pts f).length).sum
def cC (pts:List G.V)(fs:List (G.V×Int))(f:G.V×Int):cT pts (fs++[f])=cT pts fs+(G.j9 pts f).length:=by simp[cT]
def FK {pts:List G.V}{m:G.V}(h:Land pts m):Sz 1000 (G.d6 m pts).1/\Sz 1000 (G.d6 m pts).2:=by
 have sm:Sz 900 m:=h.sz.1 m h.good.mem;obtain⟨hp,tm,out,to,bf⟩:=G.vO h.good.solid h.good.mem h.good.least;unfold G.d6;dsimp only;split
 ·exact⟨sm.mono,JK sm⟩
 ·obtain⟨x,y,r,et⟩:=KJ tm to bf;rw[et];have q:∀z∈x::y::r,Sz 1000 z:=λz hz=>by rw[<-et]at hz;exact(h.sz.1 z (G.c8.mp hz).1).mono
  exact⟨q x (.head _),q y (.tail _ (.head _))⟩
def MS {pts:List G.V}{m:G.V}(h:Land pts m){fs:List (G.V×Int)}{wk:G.V×G.V->Prop}{W:List (G.V×G.V)}(L:G.LInv pts (G.d6 m pts) fs wk W){p:G.V×G.V}(hp:p∈W):Sz 1000 p.1/\Sz 1000 p.2:=by
 rcases L.wt p hp with⟨f,hf,he⟩|⟨_,e⟩
 ·have S:=(L.face f hf).aa2 h.good.ord;have ed:=S.aa1.mp he;exact⟨(h.sz.1 _ (G.c8.mp ed.q).1).mono,(h.sz.1 _ (G.c8.mp ed.p).1).mono⟩
 ·rw[e];exact FK h
def GC {pts:List G.V}{m:G.V}(h:Land pts m){f:G.V×Int}(hf:G.IsFace pts f.1 f.2):(G.j9 pts f).length<=pts.length:=by have S:=hf.aa2 h.good.ord;exact G.Y5 S.aa4 λx hx=>(G.c8.mp<|S.aa5 hx).1
def uP {pts:List G.V}{f g:G.V×Int}(h:P4 (k9 pts f)=P4 (k9 pts g)):f=g:=by have h:[f.1.x,f.1.y,f.1.z,f.2]=[g.1.x,g.1.y,g.1.z,g.2]:=h;simp only[aFx,and_true]at h;exact aFV (G.ext h.1 h.2.1 h.2.2.1) h.2.2.2
def mZ {α β:Type}{f:α->β}(hf:∀a b,f a=f b->a=b){l:List α}(h:l.Nodup):(l.map f).Nodup:=aBN.mpr (h.imp λ{a b} n e=>n (hf a b e))
def MX {Φ:(List D->R D)->Hp->(Addr->Prop)->Addr->Prop}{pts:List G.V}{m:G.V}(hz:Land pts m){fs:List (G.V×Int)}{kvs:List (D×D)}{W:List (G.V×G.V)}{a b c d:Sl}(L:G.LInv pts (G.d6 m pts) fs (λe=>F4 e∈kvs.map (·.1)) W)
  (hk:kvs.length<=cT pts fs) (hW:W.length<=1+cT pts fs) {n:Nat} (hn:W.length+(pts.length*pts.length-cT pts fs)<n+1) (bf:W≠[]):
  ∃xt jg W' a' b' c' d',dj Φ (tJ Φ (.lst (pts.map vd)) (G.d6 m pts) (fs.map (k9 pts)) kvs W a b c d)=.ok (.nx (tJ Φ (.lst (pts.map vd)) (G.d6 m pts) (xt.map (k9 pts)) jg W' a' b' c' d'))/\
   G.LInv pts (G.d6 m pts) xt (λe=>F4 e∈jg.map (·.1)) W'/\jg.length<=cT pts xt/\W'.length<=1+cT pts xt/\W'.length+(pts.length*pts.length-cT pts xt)<n:=by
 obtain⟨rest,p,rfl⟩:∃rest p,W=rest++[p]:=⟨W.dropLast,W.getLast bf,(List.dropLast_concat_getLast bf).symm⟩;have sfew:=G.cD hz.good.solid hz.good.ord L.nd L.face;have few:=hz.few;have nn:pts.length*pts.length<=63*63:=aEK few few;have hsum:cT pts fs+pts.length<=pts.length*pts.length:=sfew;have hlW:(rest++[p]).length=rest.length+1:=by simp
 rw[hlW]at hW hn;have pop:wQ 5 (tJ Φ (.lst (pts.map vd)) (G.d6 m pts) (fs.map<|k9 pts) kvs (rest++[p]) a b c d)=.ok (F4 p,tJ Φ (.lst (pts.map vd)) (G.d6 m pts) (fs.map<|k9 pts) kvs rest a b c d):=by show(match((rest++[p]).map F4)[((rest++[p]).map F4).length-1]? with|some d=>_|none=>_:R (D×Ev))=_;rw[aBJ];simp;rfl
 have nin:mQ 4 (tJ Φ (.lst (pts.map vd)) (G.d6 m pts) (fs.map<|k9 pts) kvs rest (.v (F4 p)) b c d) (F4 p)=.ok (!(open Classical in decide (F4 p∈kvs.map (·.1)))):=by unfold mQ;rw[show(tJ Φ (.lst (pts.map vd)) (G.d6 m pts) (fs.map<|k9 pts) kvs rest (.v (F4 p)) b c d)[4]?=some (.d kvs)from rfl];dsimp only;rw[if_pos (wF p)]
 have s1:R8 1000 pts:=hz.sz.mono;unfold dj;rw[pop];show∃xt jg W' a' b' c' d',B5 (R.ok<|Out.nx<|tJ Φ (.lst (pts.map vd)) (G.d6 m pts) (fs.map<|k9 pts) kvs rest (.v (F4 p)) b c d) _=_/\_;rw[A9];rw[show aT 6 (tJ Φ (.lst (pts.map vd)) (G.d6 m pts) (fs.map<|k9 pts) kvs rest (.v (F4 p)) b c d)=.ok (F4 p)from rfl,R.aa0,nin,R.aa0];by_cases hp:F4 p∈kvs.map (·.1)
 ·refine⟨fs,kvs,rest,.v (F4 p),b,c,d,?_,G.GY hz.good L rfl hp,hk,by lia,by lia⟩;rw[decide_eq_true hp];rfl
 ·have hpm:p∈rest++[p]:=by simp
  obtain⟨n1,n2,n3⟩:=G.tU hz.good L hpm hp;obtain⟨sp1,sp2⟩:=MS hz L hpm;have ab:=T5 sp1 sp2 s1 n1.prim;have asz:=uO sp1 sp2 s1;obtain⟨f,ef⟩:∃f,G.b8 p.1 p.2 pts=f:=⟨_,rfl⟩;rw[ef]at n1 n2 n3 ab asz;have po:=eG (d:=f.2) asz.mono s1;have ro:=NZ (n:=f.1) (pts:=G.v7 f.1 f.2 pts) asz.mono (HI s1);have rl:=GC hz n1;have ro:M3 [vd f.1,.lst ((G.v7 f.1 f.2 pts).map vd)]=.ok (.lst ((G.j9 pts f).map vd)):=ro;have pr:=ET (pts:=G.j9 pts f) (by lia);have L':=λ{wk'} {W'} h1 h2=>G.IQ hz.good L (rest:=rest) (p:=p) rfl hp (walked':=wk') (waiting':=W') h1 h2;rw[ef]at L';have nd':(fs++[f]).Nodup:=by
   have:=(L' (wk':=λe=>F4 e∈kvs.map (·.1)\/e∈G.S6 (G.j9 pts f)) (W':=rest++(G.S6<|G.j9 pts f).map λq=>(q.2,q.1)) (λe=>Iff.rfl) (λq=>by
    rw[aAS,aAp];constructor
    ·rintro(h|⟨x,hx,rfl⟩)
     ·exact .inl h
     ·exact .inr hx
    ·rintro(h|h)
     ·exact .inl h
     ·exact .inr ⟨_,h,rfl⟩))
   exact this.nd
  have sfew2:cT pts (fs++[f])+pts.length<=pts.length*pts.length:=G.cD hz.good.solid hz.good.ord nd' λg hg=>by
   rcases aAS.mp hg with z|z
   ·exact L.face g z
   ·rw[aBd.mp z];exact n1
  rw[cC]at sfew2;have clen:(G.S6<|G.j9 pts f).length=(G.j9 pts f).length:=by unfold G.S6;simp;lia
  obtain⟨jg,a9',run,mem',len'⟩:=zK (a0:=Sl.v (F4<|G.d6 m pts)) (a1:=Sl.c (G9 [.lst (pts.map vd)]) (Φ<|G9 [.lst (pts.map vd)])) (a2:=Sl.c (C3 [.lst (pts.map vd)]) (Φ<|C3 [.lst (pts.map vd)])) (a3:=.o ((fs++[f]).map (k9 pts))) (a6:=.v (F4 p)) (a7:=.v (uE f.1 f.2)) (a8:=.v (.lst ((G.j9 pts f).map vd))) (G.S6<|G.j9 pts f) kvs rest d (by lia) (by lia);refine⟨fs++[f],jg,rest++(G.S6<|G.j9 pts f).map (λq=>(q.2,q.1)),.v (F4 p),.v (uE f.1 f.2),.v (.lst ((G.j9 pts f).map vd)),a9',?_,L' mem' (λq=>?_),?_,?_,?_⟩
  ·have ap:mW 3 (tJ Φ (.lst (pts.map vd)) (G.d6 m pts) (fs.map<|k9 pts) kvs rest (.v (F4 p)) (.v (uE f.1 f.2)) (.v (.lst ((G.j9 pts f).map vd))) d) (k9 pts f)=.ok (.nx (tJ Φ (.lst (pts.map vd)) (G.d6 m pts) ((fs++[f]).map (k9 pts)) kvs rest (.v (F4 p)) (.v (uE f.1 f.2)) (.v (.lst ((G.j9 pts f).map vd))) d)):=by show(if(fs.map<|k9 pts).length<sizeLine then _ else _)=_;have h3:=G.jI hz.good.solid hz.good.ord L.face;have h3:3*fs.length<=cT pts fs:=h3;rw[if_pos (by rw[aAl];exact aCC (show fs.length<=4000 by lia) (by decide)),aBJ];rfl
   have ca:callC Φ 1 (p5 (λρ=>(uV 6 ρ).bind λx=>O9 x (D.int 0)) U5) (tJ Φ (.lst (pts.map vd)) (G.d6 m pts) (fs.map<|k9 pts) kvs rest (.v (F4 p)) b c d)=.ok (.lst (pts.map vd)):=by exact(uX (m:=G9 [.lst (pts.map vd)]) (ds:=[vd p.1]) rfl rfl).trans rfl
   have ct:callC Φ 2 (p5 (aT 7) U5) (tJ Φ (.lst (pts.map vd)) (G.d6 m pts) (fs.map<|k9 pts) kvs rest (.v (F4 p)) (.v (uE f.1 f.2)) c d)=.ok (.lst ((G.v7 f.1 f.2 pts).map vd)):=by exact(uX (m:=C3 [.lst (pts.map vd)]) (ds:=[uE f.1 f.2]) rfl rfl).trans po
   have sl:mS (uE f.1 f.2) none (some 3)=.ok (vd f.1):=rfl;rw[decide_eq_false hp];simp only[Bool.not_false,if_true];rw[ca,R.aa0,R.aa0,R.aa0,R.aa0,ab,R.aa0];show B5 (R.ok<|Out.nx<|tJ Φ (.lst (pts.map vd)) (G.d6 m pts) (fs.map<|k9 pts) kvs rest (.v (F4 p)) (.v (uE f.1 f.2)) c d) _=_;rw[A9];rw[ct];show B5 ((((R.ok<|uE f.1 f.2).bind λx=>mS x none (some 3)).bind λd=>(R.ok [D.lst ((G.v7 f.1 f.2 pts).map vd)]).bind λds=>R.ok (d::ds)).bind M3|>.bind λd=>R.ok (Out.nx<|aDw _ 8<|Sl.v d)) _=_;rw[R.aa0,sl,R.aa0,R.aa0,R.aa0,ro,R.aa0];show B5 (R.ok<|Out.nx<|tJ Φ (.lst (pts.map vd)) (G.d6 m pts) (fs.map<|k9 pts) kvs rest (.v (F4 p)) (.v (uE f.1 f.2)) (.v (.lst ((G.j9 pts f).map vd))) d) _=_;rw[A9];show B5 (mW 3 (tJ Φ (.lst (pts.map vd)) (G.d6 m pts) (fs.map<|k9 pts) kvs rest (.v (F4 p)) (.v (uE f.1 f.2)) (.v (.lst ((G.j9 pts f).map vd))) d)<|k9 pts f) _=_;rw[ap,A9];show((v9 [.lst ((G.j9 pts f).map vd)]).bind kD).bind _=_;rw[pr,R.aa0];exact run
  ·rw[aAS,aAp];constructor
   ·rintro(h|⟨x,hx,rfl⟩)
    ·exact .inl h
    ·exact .inr hx
   ·rintro(h|h)
    ·exact .inl h
    ·exact .inr ⟨_,h,rfl⟩
  ·rw[cC];lia
  ·rw[cC,aAz,aAl];lia
  ·rw[cC,aAz,aAl];lia
end M
namespace M
open PySem L2 DL
def MR (pts:List G.V)(f:G.V×Int):List (G.V×Int)->List (G.V×Int)
 |[]=>[f]
 |x::xs=>if HT.lexLt (P4 (k9 pts f)) (P4 (k9 pts x))=true then f::x::xs else x::MR pts f xs
def AJ (pts:List G.V)(fs:List (G.V×Int)):List (G.V×Int):=fs.foldr (MR pts) []
theorem sI (pts:List G.V)(f:G.V×Int):∀xs:List (G.V×Int),rT P4 (k9 pts f) (xs.map (k9 pts))=(MR pts f xs).map (k9 pts)
 |[]=>rfl
 |x::xs=>by
  unfold MR;rw[aAs,rT];split
  ·rfl
  ·rw[aAs,sI pts f xs]
theorem bU (pts:List G.V):∀fs:List (G.V×Int),lT P4 (fs.map (k9 pts))=(AJ pts fs).map (k9 pts)
 |[]=>rfl
 |f::fs=>by show rT P4 (k9 pts f) (lT P4 (fs.map (k9 pts)))=_;rw[bU pts fs,sI];rfl
def iD (h:k9 pts f=k9 pts g):f=g:=uP (by rw[h])
theorem cM:∀{a b:List (G.V×Int)},a.map (k9 pts)=b.map (k9 pts)->a=b
 |[],[],_=>rfl
 |[],_::_,h=>by cases h
 |_::_,[],h=>by cases h
 |x::a,y::b,h=>by rw[aAs,aAs]at h;injection h with h1 h2;rw[iD h1,cM h2]
def CO:f∈AJ pts fs↔f∈fs:=by
 have h:=(U1 P4<|fs.map<|k9 pts).mem_iff (a:=k9 pts f);rw[bU]at h;constructor
 ·intro q;obtain⟨g,hg,e⟩:=aAp.mp (h.mp<|aDx q);rw[<-iD e];exact hg
 ·intro q;obtain⟨g,hg,e⟩:=aAp.mp (h.mpr<|aDx q);rw[<-iD e];exact hg
def oQ [Tabs]{pts:List G.V}{fs:List (G.V×Int)}(h:fs.Nodup):((fs.map (k9 pts)).map P4).Nodup:=by rw[aCi];exact mZ (λa b e=>uP (pts:=pts) e) h
def dG (h:qD k l):l.Nodup:=h.imp λ{a b} q e=>by subst e;rw[TS.lex_irrefl]at q;cases q
def Z4 {pts:List G.V}{fs:List (G.V×Int)}(h:(fs.map (k9 pts)).Nodup):fs.Nodup:=(aBN.mp h).imp λ{a b} n e=>n (by rw[e])
def vN {pts:List G.V}{fs gs:List (G.V×Int)}(h1:aQ pts fs)(h2:aQ pts gs):fs=gs:=by
 have n1:=Z4 (dG h1.2);have n2:=Z4 (dG h2.2);have p:fs.Perm gs:=(aDm n1 n2).mpr λf=>by rw[h1.1,h2.1]
 exact cM (iS h1.2 h2.2 (p.map _))
def lW (h:aQ pts fs):A6 pts=fs:=by unfold A6;have q:∃fs,aQ pts fs:=⟨fs,h⟩;rw[dif_pos q];exact vN q.choose_spec h
def oR [Tabs]{pts:List G.V}{fs:List (G.V×Int)}(nd:fs.Nodup)(h:∀n d,(n,d)∈fs↔G.IsFace pts n d):aQ pts (AJ pts fs):=by refine⟨λf=>by rw[CO];exact h f.1 f.2,?_⟩;rw[<-bU];exact gF (oQ nd)
def XR (pts:List G.V)(f:G.V×Int):SS (k9 pts f)=true:=rfl
def VT [Tabs]{Φ:(List D->R D)->Hp->(Addr->Prop)->Addr->Prop}{pts:List G.V}{m:G.V}(hz:Land pts m)(ui:pts.length<=14):
  N4 (B5 (P6 uk (dj Φ) 5000 (tJ Φ (.lst (pts.map vd)) (G.d6 m pts) [] [] [G.d6 m pts] .no .no .no .no)) λρ=>(((uV 3 ρ).bind VO).bind λds=>R.ok (D.lst ds)).bind λd=>R.ok (Out.rt d))=.ok (.lst ((A6 pts).map (k9 pts))):=by
 refine DT (Iv:=λn ρ=>∃fs kvs W a b c d,ρ=tJ Φ (.lst (pts.map vd)) (G.d6 m pts) (fs.map<|k9 pts) kvs W a b c d/\G.LInv pts (G.d6 m pts) fs (λe=>F4 e∈kvs.map (·.1)) W/\kvs.length<=cT pts fs/\W.length<=1+cT pts fs/\W.length+(pts.length*pts.length-cT pts fs)<n) ?_ ?_ ?_ (by rintro ρ ⟨_,_,_,_,_,_,_,_,_,_,_,h⟩;lia)
 ·rintro n ρ ⟨fs,kvs,W,a,b,c,d,rfl,L,hk,hW,hn⟩;by_cases bf:W=[]
  ·subst bf;exact .inl rfl
  ·refine .inr ⟨?_,?_⟩
   ·have hl:(0:Int)<((W.map F4).length:Int):=by have:=List.length_pos_iff.mpr bf;rw[aAl];lia
    show(R.ok<|D.bl<|decide ((0:Int)<((W.map F4).length:Int))).bind wA=_;rw[decide_eq_true hl];rfl
   ·obtain⟨xt,jg,W',a',b',c',d',e,L',mh,hW',hn'⟩:=MX (Φ:=Φ) (a:=a) (b:=b) (c:=c) (d:=d) hz L hk hW hn bf;exact⟨_,e,xt,jg,W',a',b',c',d',rfl,L',mh,hW',hn'⟩
 ·refine⟨[],[],[G.d6 m pts],.no,.no,.no,.no,rfl,?_,aAg _,aAg _,?_⟩
  ·have:=G.xR hz.good;refine⟨this.face,this.nd,λe=>?_,this.cl,this.wt,this.ne⟩;rw[<-this.wk e];simp
  ·have nn:pts.length*pts.length<=14*14:=aEK ui ui;show 1+(pts.length*pts.length-0)<5000
   lia
 ·rintro n ρ ⟨fs,kvs,W,a,b,c,d,rfl,L,hk,hW,hn⟩ hc;have hW0:W=[]:=by
   cases W with
   |nil=>rfl
   |cons p W=>have hc:(R.ok<|D.bl<|decide ((0:Int)<(((p::W).map F4).length:Int))).bind wA=.ok false:=hc;rw[decide_eq_true (by simp;try lia)]at hc;cases hc
  subst hW0;obtain⟨bf,ql⟩:=G.JD hz.good L;have FL:=oR L.nd ql;rw[lW FL];have few:=G.cD hz.good.solid hz.good.ord L.nd L.face;have three:=G.jI hz.good.solid hz.good.ord L.face;have nn:pts.length*pts.length<=14*pts.length:=Nat.mul_le_mul_right _ ui;have zf:(fs.map<|k9 pts).length<=63:=by rw[aAl];lia
  have sf:VO (.lst (fs.map<|k9 pts))=.ok ((AJ pts fs).map (k9 pts)):=by show(if _ then _ else _)=_;rw[if_pos ⟨aBU.mpr λd hd=>by obtain⟨f,_,rfl⟩:=aAp.mp hd;rfl,oQ L.nd,zf⟩,bU]
  show N4 ((((R.ok<|D.lst<|fs.map<|k9 pts).bind VO).bind λds=>R.ok (D.lst ds)).bind λd=>R.ok (Out.rt d))=_;rw[R.aa0,sf];rfl
end M
namespace M
open PySem L2 DL
theorem zW:∀{ds:List D},(∀d∈ds,∃v,d=vd v)->(ds.filterMap vS).map vd=ds
 |[],_=>rfl
 |d::ds,h=>by obtain⟨v,rfl⟩:=h d (.head _);rw[List.filterMap_cons_some (yW v),aAs,zW λd hd=>h d (.tail _ hd)]
section
variable [Tabs]
def HF (pts:List G.V):∀d∈pts.map vd,aL d=true:=λd hd=>by obtain⟨v,_,rfl⟩:=aAp.mp hd;rfl
def aI (pts:List G.V):X6 (pts.map vd)=(i8 pts).map vd:=by unfold i8;refine(zW λd hd=>?_).symm;obtain⟨v,_,rfl⟩:=aAp.mp ((L4 (HF pts) d).mp hd);exact⟨v,rfl⟩
def L5 (pts:List G.V):(i8 pts).Pairwise λa b=>G.d9 (b-a):=TR (by rw[<-aI];exact bT _)
def HU {v:G.V}{pts:List G.V}:vd v∈pts.map vd↔v∈pts:=by rw[aAp];exact⟨λ⟨u,hu,e⟩=>by rw[<-xT e];exact hu,λh=>⟨v,h,rfl⟩⟩
def B7 {pts:List G.V}{v:G.V}:v∈i8 pts↔v∈pts:=by rw[<-HU,<-aI,L4 (HF pts),HU]
def eS (pts:List G.V):(i8 pts).Nodup:=(L5 pts).imp λ{a b} h e=>by subst e;exact G.M5 h
def jL {a b:List G.V}(ha:a.Pairwise λa b=>G.d9 (b-a))(hb:b.Pairwise λa b=>G.d9 (b-a))(h:∀v,v∈a↔v∈b):a=b:=by refine ML (mD (xN ha) (xN hb) λd=>?_);rw[aAp,aAp];exact⟨λ⟨v,hv,e⟩=>⟨v,(h v).mp hv,e⟩,λ⟨v,hv,e⟩=>⟨v,(h v).mpr hv,e⟩⟩
def OX (h:(i8 pts).length<=63):VX (.lst (pts.map vd))=.ok ((i8 pts).map vd):=by show(if _ then _ else _)=_;rw[if_pos ⟨HL pts,by rw[aI,aAl];exact h⟩,aI]
def pH (h:G.n4 a)(hm:∀v,v∈a->v∈b):G.n4 b:=by obtain⟨A,hA,B,hB,C,hC,D,hD,e⟩:=h;exact⟨A,hm A hA,B,hm B hB,C,hm C hC,D,hm D hD,e⟩
def wV (h:G.n4 pts):G.G4 pts=3:=by
 by_cases e:G.G4 pts=3
 ·exact e
 ·exact absurd h (G.GU e)
def yC (pts:List G.V):(i8 pts).length<=pts.length:=G.Y5 (eS pts) λv hv=>B7.mp hv
def fO (hs:R8 900 pts)(hd:G.n4 pts)(hl:(i8 pts).length<=63):∃m r,i8 pts=m::r/\Land (m::r) m:=by
 have sd:G.n4 (i8 pts):=pH hd λv hv=>B7.mpr hv;cases e:i8 pts with
 |nil=>rw[e]at sd;obtain⟨A,hA,_⟩:=sd;cases hA
 |cons m r=>
  refine⟨m,r,rfl,?_⟩;have so:=L5 pts;rw[e]at sd hl so;refine⟨⟨sd,so,.head _,λX hX=>?_⟩,⟨λP hP=>hs.1 P (B7.mp (by rw[e];exact hP)),by lia⟩,hl,rfl⟩;rcases aAe.mp hX with h|h
  ·exact .inl h
  ·exact .inr ((aAw.mp so).1 X h)
def LO (h1:R8 1000 pts)(h2:G.n4 pts):A3 [.lst (pts.map vd)]=.ok .non:=by simp only[A3,o5];exact if_pos ⟨h1,wV h2⟩
def UU (h:Land (m::pts) m):G0 [.lst ((m::pts).map vd)]=.ok (F4 (G.d6 m (m::pts))):=by simp only[G0,o5];exact if_pos h
def TZ (h:Land (m::pts) m)(ui:(m::pts).length<=14):F9 (F4 (G.d6 m (m::pts))) (G9 [.lst ((m::pts).map vd)]) (C3 [.lst ((m::pts).map vd)])=.ok (.lst ((A6 (m::pts)).map (k9 (m::pts)))):=by simp only[F9,show G9 [.lst ((m::pts).map vd)] [.non]=.ok (.lst ((m::pts).map vd))from rfl,o5];exact if_pos ⟨h,ui,rfl,rfl,rfl⟩
def IR (h1:R8 900 pts)(h2:G.n4 pts)(h3:(i8 pts).length<=14):L8 [.lst (pts.map vd)]=.ok (.lst ((A6 (i8 pts)).map (k9 (i8 pts)))):=by simp only[L8,o5];exact if_pos ⟨h1,h2,h3⟩
def BC (h1:R8 900 pts)(h2:G.n4 pts)(h3:(i8 pts).length<=14):J3 [.lst (pts.map vd)]=.ok (.lst ((A1 pts).map vd)):=by simp only[J3,o5];exact if_pos ⟨h1,h2,h3⟩
omit [Tabs]in
theorem VV {α:Type}:∀l:List α,∃l':List α,l'.Nodup/\∀x,x∈l'↔x∈l
 |[]=>⟨[],aCU,λ_=>Iff.rfl⟩
 |a::l=>by
  obtain⟨l',nd,h⟩:=VV l;by_cases ha:a∈l
  ·exact⟨l',nd,λx=>by rw[h,aAe];exact⟨.inr,λq=>q.elim (λe=>by rw[e];exact ha) id⟩⟩
  ·exact⟨a::l',aAK.mpr ⟨λz=>ha ((h a).mp z),nd⟩,λx=>by rw[aAe,aAe,h]⟩
def U7 (h:Land pts m)(ui:pts.length<=14):aQ pts (A6 pts):=by
 classical
 obtain⟨fs,nd,hfs⟩:=VV ((G.cands pts).filter λf=>decide (G.IsFace pts f.1 f.2));have hm:∀n d,(n,d)∈fs↔G.IsFace pts n d:=λn d=>by
  rw[hfs,aDa];constructor
  ·intro q;exact of_decide_eq_true q.2
  ·intro q;refine⟨?_,decide_eq_true q⟩;obtain⟨A,hA,B,hB,C,hC,_,e⟩:=G.DF q;unfold G.cands;rw[<-e];exact aBK.mpr ⟨A,hA,aBK.mpr ⟨B,hB,aAp.mpr ⟨C,hC,rfl⟩⟩⟩
 have FL:=oR nd hm;rw[lW FL];exact FL
theorem iW:∀(xs:List D) (rs:List (List G.V)) (acc:List G.V) (x y:Sl),oA xs=some rs->acc.length+rs.flatten.length<=3000->
  ∃x' y',O8 (uI 2 (lV (λd ρ=>R.ok (aDw ρ 2 (Sl.v d))) (lV (λd ρ=>R.ok (aDw ρ 3 (Sl.v d))) HG))) (λρ=>(aT 3 ρ).bind (QS 1 ρ)) xs [a,.o (acc.map vd),x,y]=.ok (.nx [a,.o ((acc++rs.flatten).map vd),x',y'])
 |[],rs,acc,x,y,h,_=>by cases h;exact⟨x,y,by simp⟩
 |d::xs,rs,acc,x,y,h,hl=>by
  unfold oA at h;split at h
  ·rename_i v vs h1 h2;cases h;obtain⟨p,ys,rfl,e1⟩:∃p ys,d=.tup [p,.lst ys]/\A4 ys=some v:=by
    unfold QY at h1;split at h1
    ·exact⟨_,_,rfl,h1⟩
    ·cases h1
   have ey:=m5 e1;subst ey;rw[aBZ,aAz]at hl;obtain⟨x',y',e⟩:=iW xs vs (acc++v) (.v p) (.v (.lst (v.map vd))) h2 (by rw[aAz];lia);refine⟨x',y',?_⟩;have hz:(acc.map vd).length+(v.map vd).length<=sizeLine:=by rw[aAl,aAl];exact JM (by lia)
   refine(Z8 (ρ1:=[a,.o (acc.map vd),.v p,.v (.lst (v.map vd))]) (ρ2:=[a,.o ((acc++v).map vd),.v p,.v (.lst (v.map vd))]) rfl ?_).trans ?_
   ·show(if(acc.map vd).length+(v.map vd).length<=sizeLine then _ else _)=_;rw[if_pos hz,aBJ];rfl
   ·rw[e,aBZ,aDi]
  ·cases h
theorem jH (pts:List G.V):∀fs:List (G.V×Int),oA (fs.map (k9 pts))=some (fs.map (G.j9 pts))
 |[]=>rfl
 |f::fs=>by rw[aAs,oA,jH pts fs];rw[show QY (k9 pts f)=some (G.j9 pts f)from o5 _];rfl
def wL {pts:List G.V}{fs:List (G.V×Int)}(h1:(fs.flatMap (G.j9 pts)).length<=3000)(h2:(i8 (fs.flatMap (G.j9 pts))).length<=63):B6 [.lst (fs.map (k9 pts))]=.ok (.lst ((i8 (fs.flatMap (G.j9 pts))).map vd)):=by have e:(fs.map<|G.j9 pts).flatten=fs.flatMap (G.j9 pts):=rfl;simp only[B6,jH,e];exact if_pos ⟨h1,h2⟩
def kL (ho:pts.Pairwise λa b=>G.d9 (b-a))(hf:G.IsFace pts f.1 f.2)(h:X∈G.j9 pts f):X∈pts:=(G.c8.mp<|(hf.aa2 ho).aa5 h).1
def GB (h1:R8 900 pts)(h2:G.n4 pts)(h3:(i8 pts).length<=14)(h:X∈A1 pts):X∈pts:=by obtain⟨m,r,e,L⟩:=fO h1 h2 (by lia);unfold A1 at h;rw[B7,aBK]at h;obtain⟨f,hf,hX⟩:=h;rw[e]at hf hX h3;have FL:=U7 L h3;have:=kL L.good.ord ((FL.1 f).mp hf) hX;rw[<-e,B7]at this;exact this
def oC (L:Land pts m)(ui:pts.length<=14):((A6 pts).flatMap (G.j9 pts)).length<=200/\(i8 ((A6 pts).flatMap (G.j9 pts))).length<=14:=by
 have FL:=U7 L ui;have nd:=Z4 (dG FL.2);have few:=G.cD L.good.solid L.good.ord nd λf hf=>(FL.1 f).mp hf;have nn:pts.length*pts.length<=14*14:=aEK ui ui;constructor
 ·rw[List.length_flatMap]
  lia
 ·refine aAx (G.Y5 (eS _) λv hv=>?_) ui;rw[B7,aBK]at hv;obtain⟨f,hf,hX⟩:=hv;exact kL L.good.ord ((FL.1 f).mp hf) hX
end
end M
namespace M
open PySem L2 DL
instance Bd.k6:Bd 1000000 20:=⟨by decide⟩
instance Bd.k7:Bd 10000000 24:=⟨by decide⟩
instance Bd.k8:Bd 100000000 27:=⟨by decide⟩
instance Bd.k63:Bd 1000003 20:=⟨by decide⟩
instance Bd.k79:Bd 7919 13:=⟨by decide⟩
instance Bd.k48:Bd 48611 16:=⟨by decide⟩
instance Bd.k12:Bd 1000000000000 40:=⟨by decide⟩
instance Bd.k20:Bd 100000000000000000000 67:=⟨by decide⟩
def G6 (h:0<b):aX (.int a) (.int b)=.ok (.int (a.fmod b)):=vV (by omega)
def J0 (h:0<b)(h2:b<1000000000000000):Q5 (.int a) (.int b)=.ok (.int (a.fdiv b)):=bV ⟨by omega,X0 (q8 (n:=60) (by omega) (by omega))⟩
def A2 {a b:Int}(h:0<b):0<=a.fmod b/\a.fmod b<b:=by have f:=PyProof.Rows.fdiv_fmod_facts a b;have g:=f.2.2.1 h;omega
def aU (h1:r=.ok (.nx ρ))(h2:N4 (F ρ)=x):N4 (B5 r F)=x:=by rw[h1];exact h2
def RI {n:Nat}(h:n<=1000000):W9 [.int (n:Int)]=.ok ((aBb n).map λ(k:Nat)=>D.int (k:Int)):=by
 show(if pC 0 (n:Int) 1 then R.ok (xE 0 1<|jS 0 n 1)else R.bad)=_;rw[if_pos ⟨by decide,by decide,by decide,by decide,by omega,by omega⟩];have e:jS 0 (n:Int) 1=n:=by
  unfold jS;split
  ·simp
  ·omega
 rw[e];unfold xE;congr 1;refine List.map_congr_left λk _=>?_;simp
def XX (x y z:D):jY (.tup [x,y]) (.tup [z])=.ok (.tup [x,y,z]):=rfl
def RQ (xs:List D)(i j:Nat)(h:i<=j):mS (.lst xs) (some (i:Int)) (some (j:Int))=.ok (.lst ((xs.drop i).take (j-i))):=by
 show R.ok (D.lst<|cutD xs (some (i:Int))<|some (j:Int))=_;unfold cutD;rw[HT.sIx_nat,HT.sIx_nat];congr 2;by_cases h1:i<=xs.length
 ·rw[aFw h1];by_cases h2:j<=xs.length
  ·rw[aFw h2]
  ·rw[aFj (by omega),aDK (by simp),aDK (by simp;omega)]
 ·rw[aFj (by omega),aFj (by omega),List.drop_eq_nil_of_le (by omega:xs.length<=i)];simp
end M
namespace DL
open PySem PySem.Spec L2
open PyProof.Rows hiding St
variable [Tabs]
def QJ (X:Cx)(E:XK)(e:Expr)(G:Ev->Option Value):Prop:=∀(Ha:Hp) (O0:Addr->Prop) (pins:K7) (s:Shared) (σ:St) (H:Hp) (O:Addr->Prop) (ρ:Ev) (C:Value),
 Inv X pins σ H s->EnvOk X.K Ha O0 H O σ ρ->R4 X.K O->G ρ=some C->(∀H',Same Ha H'->E C none H')->wpAny (model X.prog X.w) X.A (eval e X.env) (λ_ _=>False) X.xe s
def PX (X:Cx)(E:XK)(st:Stmt)(G:Ev->Option Value):Prop:=∀(Ha:Hp) (O0:Addr->Prop) (pins:K7) (s:Shared) (σ:St) (H:Hp) (O:Addr->Prop) (ρ:Ev) (C:Value),
 Inv X pins σ H s->EnvOk X.K Ha O0 H O σ ρ->R4 X.K O->G ρ=some C->(∀H',Same Ha H'->E C none H')->wpAny (model X.prog X.w) X.A (exec st X.env) (λ_ _=>False) X.xe s
def OD (X:Cx)(E:XK)(st:List Stmt)(G:Ev->Option Value):Prop:=∀(Ha:Hp) (O0:Addr->Prop) (pins:K7) (s:Shared) (σ:St) (H:Hp) (O:Addr->Prop) (ρ:Ev) (C:Value),
 Inv X pins σ H s->EnvOk X.K Ha O0 H O σ ρ->R4 X.K O->G ρ=some C->(∀H',Same Ha H'->E C none H')->wpAny (model X.prog X.w) X.A (execs st X.env) (λ_ _=>False) X.xe s
def YG (K:PySem.W.Frag)(n:Nat)(m:List D->Option Value):Sp:=λvs H _ E=>∃O ds C,Reps K H O vs ds/\ds.length=n/\(∀a,O a->∃o,H a=some o/\Mt o)/\Tb H/\R4 K O/\m ds=some C/\∀H',Same H H'->E C none H'
def X7 {P:Program}{w:World}{K:PySem.W.Frag}{mg:V5}{base:Heap}{N:List Str}{qual:Str}{sc:Scope}{f:Addr}{cd:Value}{A:Around}{outer:List Env}{s:Shared}{H:Hp}{E:XK}:
 LeavesBy (qV (JG P w) P w K mg base N qual sc f cd A outer s H E) E:=⟨λ_ _ h=>h,rfl,rfl,rfl⟩
section
variable{P:Program} {w:World} {K:PySem.W.Frag} {mg:V5} {base:Heap}
abbrev kj (P:Program)(w:World)(K:PySem.W.Frag)(mg:V5)(base:Heap)(N:List Str)(qual:Str)(sc:Scope)(f:Addr)(cdv:Value)(A:Around)(outer:List Env)(s:Shared)(H:Hp)(E:XK):Cx:=qV (JG P w) P w K mg base N qual sc f cdv A outer s H E
def fnX {x qual:Str}{st:Stmt}{f:Addr}{fd:FuncData}{N ps:List Str}{k:Nat}{m:List D->Option Value}{G:Ev->Option Value}(F0:Fun K x qual st f fd)(S:FnScope N ps (c5 st))
  (hb:∀(cdv:Value) (A:Around) (outer:List Env) (s:Shared) (H:Hp) (E:XK),Room k (A.deeper (envOfC qual (c5 st) s.heap.objs.size f cdv))->OD (kj P w K mg base N qual (c5 st) f cdv A outer s H E) E (o6 st) G)
  (hm:∀ds C,ds.length=ps.length->m ds=some C->G (i6 N ds)=some C):FnOk P w K mg base (JG P w) (k+1) f fd ps (YG K ps.length m):=by
 obtain⟨oc,od,kV,doc,pm,an,cdv,ct,osl,rfl,lk,gc⟩:=F0.ex;refine JR lk gc S (λvs H Q E ⟨O,ds,C,r,hl,_⟩=>by rw[r.length];exact hl) λA outer s H vs Q E hr ⟨O,ds,C,r,hl,ht,tb,fk,e,q⟩=>?_;refine⟨λD σ H'=>H'=H/\EnvOk K H O H O σ (i6 N ds),λpins s1 σ H1 D I ⟨e1,E1⟩=>?_,rfl,iC r ht tb⟩;subst e1;exact aBw (hb cdv A outer s H1 E hr H1 O pins s1 σ H1 O _ C I E1 fk (hm ds C hl e) q) (λ_ _ z=>z.elim) λ_ _ z=>z
end
section
variable{X:Cx} {E:XK} {st:Stmt} {rest:List Stmt} {F:Ev->R Out} {G Ga Gb:Ev->Option Value} {pos:Pos}
def S8 (h1:PX X E st G):OD X E (st::rest) G:=λHa O0 pins s σ H O ρ C I Ev fk e q=>aCA (C4 (h1 Ha O0 pins s σ H O ρ C I Ev fk e q) λ_ _ z=>z.elim)
def oZ {sts:List Stmt}:OD X E sts (λ_=>none):=λ_ _ _ _ _ _ _ _ _ _ _ _ e=>by cases e
def UJ (r:R Bool)(a b:Option Value):Option Value:=match r with
 |.ok true=>a
 |.ok false=>b
 |_=>none
def OW {c:Expr}{a b:List Stmt}{fc:Ev->R Bool}(hc:wC X c fc)(ha:OD X E a Ga)(hb:OD X E b Gb):PX X E (.If c a b pos) (λρ=>UJ (fc ρ) (Ga ρ) (Gb ρ)):=by
 intro Ha O0 pins s σ H O ρ C I Ev fk e q;cases e1:fc ρ with
 |ok t=>
  refine wpAny_If (C4 (hc pins s σ H (λd H1=>d=t/\Same H H1) I ⟨Ha,O0,O,ρ,Ev,?_⟩) λd s1 ⟨H1,I1,ed,sm⟩=>?_)
  ·rw[e1];exactλH' s'=>⟨rfl,s'⟩
  ·subst ed;dsimp only at e;rw[e1]at e;cases d with
   |true=>exact ha Ha O0 pins s1 σ H1 O ρ C I1 (Ev.grow sm) fk e q
   |false=>exact hb Ha O0 pins s1 σ H1 O ρ C I1 (Ev.grow sm) fk e q
 |ex z=>dsimp only at e;rw[e1]at e;cases e
 |bad=>dsimp only at e;rw[e1]at e;cases e
def LW {e:Expr}(h:QJ X E e G)(hs:swapsWith e none pos.line X.env=pure false:=by rfl):PX X E (.Expr e pos) G:=λHa O0 pins s σ H O ρ C I Ev fk ec q=>aFK (C4 (h Ha O0 pins s σ H O ρ C I Ev fk ec q) λ_ _ z=>z.elim) I.quiet hs
def SV {e:Expr}(h:QJ X E e G):PX X E (.Return (some e) pos) G:=λHa O0 pins s σ H O ρ C I Ev fk ec q=>wpAny_Return_some (C4 (h Ha O0 pins s σ H O ρ C I Ev fk ec q) λ_ _ z=>z.elim)
def JF {k:Nat}{g:Addr}{gd:FuncData}{ps:List Str}{n:Nat}{m:List D->Option Value}{x:Str}{p:Pos}{e:Expr}{es:List Expr}{f:Ev->R (List D)}(hx:mJ (JG X.prog X.w) X E)(F:FnOk X.prog X.w X.K X.mg X.base (JG X.prog X.w) k g gd ps (YG X.K n m))(hr:Room k X.A)(hm:X.mg x=some (.ref g))
  (hk:PySem.W.keepIn X.K (.ref g)=true) (hb:Binds X.K gd ps []) (ha:xU X (e::es) f) (hl:∀ρ ds,f ρ=.ok ds->ds.length=n) (hg:Gl X x:=by rfl)
  (dh:(x==("__debug__":Str))=false:=by decide) (he:starEach (e::es) X.env=(false,eval e X.env)::starEach es X.env:=by rfl) (br:(backTo pos (starEach es X.env)).any (·.1)=false:=by rfl):
  QJ X E (.Call (.Name x p) (e::es) [] pos) (λρ=>match f ρ with|.ok ds=>m ds|_=>none):=by
 intro Ha O0 pins s σ H O ρ C I Ev fk ec q;dsimp only at ec;cases e1:f ρ with
 |ex z=>rw[e1]at ec;cases ec
 |bad=>rw[e1]at ec;cases ec
 |ok ds=>rw[e1]at ec;refine aBw (zJ F hr hg hm hk hb .nil hx ha dh he br pins s σ H (λ_ _=>False) I ⟨Ha,O0,O,ρ,Ev,?_⟩) (λu s' ⟨_,_,_,_,z⟩=>z.elim) λ_ _ z=>z;rw[e1];intro vs H1 s1 r1;rw[aBr];exact⟨O,ds,C,r1,hl ρ ds e1,(Ev.grow s1).trk,(Ev.grow s1).tab,fk,ec,λH' s2=>q H' (Ev.same.trans<|s1.trans s2)⟩
end
section
variable{K:PySem.W.Frag} {h:Heap} {C:Addr} {xr:List Value} {newId:String}
def zD (X:K.In h)(q:PySem.W.excIn K C xr newId=true):∃bm N nm qn bs hdct sn sub ab col dd k0 k1 k2 k3 k5 mN,
  h.get? C=some (excClassObj nm qn C N bs bm hdct sn sub ab col dd k0 k1 k2 k3 k5 newId)/\h.Ns N mN/\mN "__init__"=none/\OwnTail h xr bm:=by
 unfold PySem.W.excIn at q;split at q
 ·rename_i dd cd sl ho;split at q
  ·rename_i C' bm k0 k1 k2 k3 n k5 hm hs;simp only[aAF,beq_iff_eq,Bool.not_eq_true']at q;obtain⟨⟨⟨⟨⟨rfl,rfl⟩,hdel⟩,ht⟩,hok⟩,hni⟩:=q;obtain⟨nm,bs,mro,ns,qn,hd,sn,sub,ab,col,del⟩:=cd;dsimp only at hm hdel hok hni;subst hm;subst hdel;have hsl:sl=#[k0,k1,k2,k3,some (.builtin n),k5]:=by obtain⟨l⟩:=sl;simp only at hs;rw[hs]
   subst hsl;exact⟨bm,ns,nm,qn,bs,hd,sn,sub,ab,col,dd,k0,k1,k2,k3,k5,_,X _ _ ho,.of_isNs (PySem.W.isNs_of_in X hok),PySem.W.nsMap_none_of_in X hok hni,PySem.W.tail_of_in X ht⟩
  ·cases q
 ·cases q
end
section
variable{X:Cx} {E:XK} {pos bp np:Pos} {x:Str} {C:Addr} {xr:List Value} {B newId initId:String}
def tY {e9:Expr}{rest:List Expr}{f:Ev->R (List D)}(L:LeavesBy X E)(hc:X.calm=true)(hq:PySem.W.excIn X.K C xr newId=true)(FB:ExcBaseFacts B newId initId xr)(hm:X.mg x=some (.ref C))
  (ha:xU X (e9::rest) f) (hg:Gl X x:=by rfl) (dh:(x==("__debug__":Str))=false:=by decide)
  (he:starEach (e9::rest) X.env=(false,eval e9 X.env)::starEach rest X.env:=by rfl) (br:(backTo bp (starEach rest X.env)).any (·.1)=false:=by rfl):
  PX X E (.Raise (some (.Call (.Name x np) (e9::rest) [] bp)) none pos) (λρ=>match f ρ with|.ok ds=>if ds.length<=1000 then some (.ref C)else none|_=>none):=by
 intro Ha O0 pins s σ H O ρ C' I Ev fk ec q;dsimp only at ec;cases e1:f ρ with
 |ex z=>rw[e1]at ec;cases ec
 |bad=>rw[e1]at ec;cases ec
 |ok ds=>
  rw[e1]at ec;dsimp only at ec;split at ec
  ·rename_i hl;cases ec;obtain⟨tl,N,nm,qn,bs,hdct,sn,sub,ab,col,dd,k0,k1,k2,k3,k5,mN,hC,hN,hni,T⟩:=zD I.mod.kin hq;refine wpAny_Raise_call_subT (C:=C) (nm:=nm) (q:=qn) (N:=N) (bs:=bs) (bm:=tl) (hdct:=hdct) (sn:=sn) (sub:=sub) (ab:=ab) (col:=col) (dd:=dd) (k0:=k0) (k1:=k1) (k2:=k2) (k3:=k3) (k5:=k5)
    FB (mN:=mN) (T.hasType FB.hasBase) (I.ok.hd hc) (by rw[he];show(false||(backTo bp<|starEach rest X.env).any (·.1))=false;rw[br];rfl) hni (Z7 I hg hm ⟨rfl,?_⟩ dh)
   have h1:=ha bp pins s σ H (λvs H1=>vs.length=ds.length/\Same H H1) I ⟨Ha,O0,O,ρ,Ev,by rw[e1];exactλvs H1 s1 r1=>⟨r1.length,s1⟩⟩;rw[he]at h1⊢;refine aFB (C4 h1 λus s2 ⟨vs,H1,I1,r,l,sm⟩=>⟨rfl,?_,I1.bk _ _ hC,hN.keeps I1.bk,T.keeps I1.bk,λh' e hx=>?_⟩)
   ·rw[<-r.length,l];exact aCP (CF hl)
   ·exact EG L I1 hx (q H1<|Ev.same.trans sm)
  ·cases ec
end
end DL
namespace DL
open PySem PySem.Spec PySem.Calls PySem.W Builtin Builtin.ObjectAttr Builtin.Getset_descriptor
open PyProof.Rows hiding St
section
variable{prog:Program} {w:World} {A:Around} {E:C5} {K:Frag} {h:Heap} {g:Array GenState} {d:Drawn} {t:Nat} {os:OsState} {a C:Addr} {o:Obj}
def uD (a C:Addr)(h:Heap):Prop:=∃o,h.get? a=some o/\o.cls=.ref C
def kI {M:Model}(p:uD a C h):Looks M h (typeOf (.ref a)) (.ref C):=by obtain⟨o,h1,h2⟩:=p;exact h2▸(Looks.ld h1).andThen .now
def nA {R:Result->Shared->Prop}{tp:Value}(X:K.In h)(p:uD a C h)(hm:mroIn K C (.type "object")=some true)(q:R (.ok (.ret (.ref C))) ⟨h,g,d,t,os⟩):
  codeAny (model prog w) A (.call (.builtin "getset_descriptor.__get__") ⟨[.builtin "object.__class__",.ref a,tp],[]⟩) R ⟨h,g,d,t,os⟩:=by
 have L0:=kI (M:=model prog w) p;have L1:=looks_mroIn (M:=model prog w) X hm;refine aEf (s:=⟨h,g,d,t,os⟩) KF.slot_gs.plain KF.entry_gs (KF.slot_gs.check _ _ _ _ _ _ _ _ KF.type_class (KF.args_gs _ _ _) ?_);unfold Builtin.«getset_descriptor.__get__» descrGet;rw[dga_obj];refine aAa (aAb ?_);unfold descrGetter descrCheckInstance descrNameAndClass isInstance;simp only[KF.owner_class];repeat lk
 refine⟨Code.quiet_builtin _ (by decide+kernel),aBu KF.entry_class ?_⟩;unfold Builtin.«object.__class__» shownTypeOf;repeat lk
 exact q
def jV {tk:Tok}{Q:Fin->Shared->Prop}(X:K.In h)(p:uD a C h)(hm:mroIn K C (.type "object")=some true)(qh:findIn K (.ref C) "__class__"=some (some (.builtin "object.__class__")))
  (q:Q (.done (.ret (.ref C))) ⟨h,g,d,t,os⟩):
  wpAny (model prog w) A (Builtin.«object.__getattribute__» ⟨[.ref a,.str "__class__" tk],[]⟩) Q E ⟨h,g,d,t,os⟩:=by
 have L0:=kI (M:=model prog w) p;have L1:=looks_findIn (M:=model prog w) X qh;have hT5:(⟨h,g,d,t,os⟩:Shared).TypeIs (.builtin "object.__class__") "getset_descriptor":=F.typeOf_object_class;have f5:=F.typeOf_object_class;have f6:=F.slot_gs_get.lookup;have f7:=F.slot_gs_set.lookup;repeat(any_goals(first|assumption|with_reducible refine L0.at ?_|with_reducible refine L1.at ?_|wp_step))
 refine nA X p hm ?_;repeat(any_goals(first|assumption|wp_step))
def DP {M:Model}{nameV:Value}{Q:Unit->Shared->Prop}(X:K.In h)(p:uD a C h)(hmb:mroIn K C (.type "BaseException")=some true)(q:Q () ⟨h,g,d,t,os⟩):
  wpAny M A (checkBuiltinCall "BaseException.__getattribute__" ⟨[.ref a,nameV],[]⟩) Q E ⟨h,g,d,t,os⟩:=by
 obtain⟨o,hx,hc⟩:=id p;have L2:=looks_mroIn (M:=M) X hmb;have hk:builtinKind "BaseException.__getattribute__"=some .slot:=by decide+kernel
 have hsplit:splitId "BaseException.__getattribute__"=some ("BaseException", "__getattribute__"):=by decide+kernel
 have ha:=F.args_bexc_ga (.ref a) nameV;simp only[checkBuiltinCall,hk,hsplit];refine aAa ?_;unfold isInstance;repeat(first|(with_reducible refine aEW hx ?_;rw[hc])|with_reducible refine L2.at ?_|wp_step)
 exact q
def rP {tk:Tok}{Q:C5}(X:K.In h)(p:uD a C h)(hm:mroIn K C (.type "object")=some true)(hmb:mroIn K C (.type "BaseException")=some true)(qh:findIn K (.ref C) "__class__"=some (some (.builtin "object.__class__")))
  (hga:findIn K (.ref C) "__getattribute__"=some (some (.builtin "BaseException.__getattribute__"))) (hgn:findIn K (.ref C) "__getattr__"=some none) (q:Q (.ref C) ⟨h,g,d,t,os⟩):
  wpAny (model prog w) A (getAttrBy (.ref a) (.str "__class__" tk) false) Q E ⟨h,g,d,t,os⟩:=by
 have L0:=kI (M:=model prog w) p;have L1:=looks_findIn (M:=model prog w) X hga;have L2:=looks_mroIn (M:=model prog w) X hmb;have L3:=looks_findIn (M:=model prog w) X hgn;have f3:=F.attr_ValueError.ga.bind (.ref a);have hx2:(aDj "BaseException.__getattribute__"==aDj "object.__getattribute__")=false:=by decide+kernel
 have UK:(onTheHeap (aCJ C)&&aDj "BaseException.__getattribute__"==aDj "object.__getattribute__")=false:=by rw[hx2];rfl
 repeat(any_goals(first|assumption|with_reducible refine L0.at ?_|with_reducible refine L1.at ?_|with_reducible refine L3.at ?_|wp_step))
 refine aEf F.attr_ValueError.ga.plain F.entry_bexc_ga (DP X p hmb<|jV X p hm qh ?_);repeat(any_goals(first|assumption|wp_step))
def mB {Q:Option Value->Shared->Prop}(X:K.In h)(p:uD a C h)(hm:mroIn K C (.type "object")=some true)(hmb:mroIn K C (.type "BaseException")=some true)(qh:findIn K (.ref C) "__class__"=some (some (.builtin "object.__class__")))
  (hga:findIn K (.ref C) "__getattribute__"=some (some (.builtin "BaseException.__getattribute__"))) (hgn:findIn K (.ref C) "__getattr__"=some none) (q:Q (some (.ref C)) ⟨h,g,d,t+1,os⟩):
  wpAny (model prog w) A (getAttr? (.ref a) "__class__") Q E ⟨h,g,d,t,os⟩:=by
 unfold getAttr? getAttrBy?;repeat(any_goals(first|assumption|with_reducible apply rP X p hm hmb qh hga hgn|wp_step))
end
structure ExCls (K:Frag)(C:Addr):Prop where
 cls:(clsIn K C).isSome=true
 ob:mroIn K C (.type "object")=some true
 be:mroIn K C (.type "BaseException")=some true
 at_:findIn K (.ref C) "__class__"=some (some (.builtin "object.__class__"))
 ga:findIn K (.ref C) "__getattribute__"=some (some (.builtin "BaseException.__getattribute__"))
 gn:findIn K (.ref C) "__getattr__"=some none
def EQ {K:Frag}{a C:Addr}(Z:ExCls K C):KitX K (.ref a) (.ref C) (uD a C)where
 ty:=λ_ _ _ p=>kI p
 it:=λ_ _ X _=>by
  have z:=Z.cls;unfold clsIn at z;split at z
  ·rename_i c' d' cd' sl' ho;intro A' Q' E' s' k q;unfold isType loadHead;exact aAa (wpAny_loadPart (k _ _<|X _ _ ho)<|aAb q)
  ·cases z
 ne:=λh tp dd its n sl X htp=>by
  refine Bool.eq_false_iff.mpr λq=>?_;have e:C=tp:=Value.ref.inj (beq_iff_eq.mp q);subst e;have z:=Z.cls;unfold clsIn at z;split at z
  ·rename_i c' d' cd' sl' ho;have z:=(X _ _ ho).symm.trans htp;cases z
  ·cases z
 ca:=λ{_ _ _ _ _ s} X p k=>by obtain⟨h,g,d,t,os⟩:=s;exact mB X p Z.ob Z.be Z.at_ Z.ga Z.gn k
end DL
namespace DL
open PySem PySem.Spec L2
open PyProof.Rows hiding St
variable [Tabs]
def FD (X:Cx)(E:XK)(pins:K7)(σ:St):Prop:=∀(H1:Hp) (s1:Shared) (e:Value) (s':Shared),Inv X pins σ H1 s1->JG X.prog X.w X.stack H1 s1 E e s'->X.xe e s'
def YZ (X:Cx)(e:Expr)(G:Ev->Option Value):Prop:=∀(Ha:Hp) (O0:Addr->Prop) (pins:K7) (s:Shared) (σ:St) (H:Hp) (O:Addr->Prop) (ρ:Ev) (C:Value) (E:XK) (W:C5),
 Inv X pins σ H s->EnvOk X.K Ha O0 H O σ ρ->R4 X.K O->G ρ=some C->(∀H',Same H H'->E C none H')->FD (X.aa9 W) E pins σ->wpAny (model X.prog X.w) X.A (eval e X.env) (λ_ _=>False) W s
def VC (X:Cx)(st:List Stmt)(G:Ev->Option Value):Prop:=∀(Ha:Hp) (O0:Addr->Prop) (pins:K7) (s:Shared) (σ:St) (H:Hp) (O:Addr->Prop) (ρ:Ev) (C:Value) (E:XK) (W:C5),
 Inv X pins σ H s->EnvOk X.K Ha O0 H O σ ρ->R4 X.K O->G ρ=some C->(∀H',Same H H'->E C none H')->FD (X.aa9 W) E pins σ->wpAny (model X.prog X.w) X.A (execs st X.env) (λ_ _=>False) W s
section
variable{X:Cx} {pos:Pos}
def kX {e:Expr}{rest:List Stmt}{G:Ev->Option Value}(h:YZ X e G)(hs:swapsWith e none pos.line X.env=pure false:=by rfl):VC X (.Expr e pos::rest) G:=λHa O0 pins s σ H O ρ C E W I Ev fk ec q c=>aCA (aFK (C4 (h Ha O0 pins s σ H O ρ C E W I Ev fk ec q c) λ_ _ z=>z.elim) I.quiet hs)
def FZ {c:Expr}{a b rest:List Stmt}{fc:Ev->R Bool}{Ga Gb:Ev->Option Value}(hc:wC X.nox c fc)(ha:VC X a Ga)(hb:VC X b Gb):VC X (.If c a b pos::rest) (λρ=>UJ (fc ρ) (Ga ρ) (Gb ρ)):=by
 intro Ha O0 pins s σ H O ρ C E W I Ev fk e q cg;cases e1:fc ρ with
 |ok t=>
  refine aCA (wpAny_If<|aBw (hc pins s σ H (λd H1=>d=t/\Same H H1) (I.aa9 _) ⟨Ha,O0,O,ρ,Ev,?_⟩) (λd s1 ⟨H1,I1,ed,sm⟩=>?_) λ_ _ z=>aAh z)
  ·rw[e1];exactλH' s'=>⟨rfl,s'⟩
  ·subst ed;dsimp only at e;rw[e1]at e;cases d with
   |true=>exact C4 (ha Ha O0 pins s1 σ H1 O ρ C E W I1.aa3 (Ev.grow sm) fk e (λH' s'=>q H' (sm.trans s')) cg) λ_ _ z=>z.elim
   |false=>exact C4 (hb Ha O0 pins s1 σ H1 O ρ C E W I1.aa3 (Ev.grow sm) fk e (λH' s'=>q H' (sm.trans s')) cg) λ_ _ z=>z.elim
 |ex z=>dsimp only at e;rw[e1]at e;cases e
 |bad=>dsimp only at e;rw[e1]at e;cases e
def GK {k:Nat}{g:Addr}{gd:FuncData}{ps:List Str}{n:Nat}{m:List D->Option Value}{x:Str}{p:Pos}{e:Expr}{es:List Expr}{f:Ev->R (List D)}(F:FnOk X.prog X.w X.K X.mg X.base (JG X.prog X.w) k g gd ps (YG X.K n m))(hr:Room k X.A)(hm:X.mg x=some (.ref g))
  (hk:PySem.W.keepIn X.K (.ref g)=true) (hb:Binds X.K gd ps []) (ha:xU X.nox (e::es) f) (hl:∀ρ ds,f ρ=.ok ds->ds.length=n) (hg:Gl X x:=by rfl)
  (dh:(x==("__debug__":Str))=false:=by decide) (he:starEach (e::es) X.env=(false,eval e X.env)::starEach es X.env:=by rfl) (br:(backTo pos (starEach es X.env)).any (·.1)=false:=by rfl):
  YZ X (.Call (.Name x p) (e::es) [] pos) (λρ=>match f ρ with|.ok ds=>m ds|_=>none):=by
 intro Ha O0 pins s σ H O ρ C E W I Ev fk ec q cg;dsimp only at ec;cases e1:f ρ with
 |ex z=>rw[e1]at ec;cases ec
 |bad=>rw[e1]at ec;cases ec
 |ok ds=>
  rw[e1]at ec;refine aAM (Z7 I hg hm ?_ dh);have h1:=ha pos pins s σ H (λvs H1=>Reps X.K H1 O vs ds/\Same H H1) (I.aa9 _) ⟨Ha,O0,O,ρ,Ev,by rw[e1];exactλvs H1 s1 r1=>⟨r1,s1⟩⟩;refine PySem.W.callWith_K (h₀:=X.base) I.ok.mod.kin hk (aBw h1 (λus s1 ⟨vs,H1,I1,r,r1,sm⟩=>⟨I1.kIn,?_⟩) λ_ _ z=>aAh z) he br;have mn:us.length=ps.length:=by have e2:=F.len vs H1 (λ_ _=>False) E ⟨O,ds,C,r1,hl ρ ds e1,(Ev.grow sm).trk,(Ev.grow sm).tab,fk,ec,λH' s2=>q H' (sm.trans s2)⟩;rw[<-r.length];exact e2
  refine aFy (aDc (F.run X.A X.stack s1 H1 ⟨us,[]⟩ us vs (λ_ _=>False) E hr I1.aa3.ae2 (by have:=hb s1 us I1.kIn (by rw[aBr];exact mn);rw[aBr]at this;exact this) r
   ⟨O,ds,C,r1,hl ρ ds e1,(Ev.grow sm).trk,(Ev.grow sm).tab,fk,ec,λH' s2=>q H' (sm.trans s2)⟩) λrr s' hq=>?_)
  cases rr with
  |error ee=>exact cg H1 s1 ee s' (I1.aa3.aa9 W) hq
  |ok fl=>
   cases fl with
   |ret u=>obtain⟨_,_,_,_,_,_,_,z⟩:=hq;exact z.elim
   |next=>exact aAh hq
   |brk=>exact aAh hq
   |cont=>exact aAh hq
end
section
variable{X:Cx} {pins:K7} {σ:St} {H H':Hp} {s s':Shared}
def FY (I:Inv X pins σ H s){h3 B:Heap}(U:Un (T3 X.stack) [] H H' s.heap s'.heap)(k:W7 X.prog X.w H' s'.heap)(b2:B.StaysIn s'.heap)(b3:B.StaysIn h3)(us:s'.heap.UpToSlots h3)(os:s'.os=s.os)(bare:AllBare s'.gens)
  (c1:∀b o,s.heap.get? b=some o->H b=none->b∉T3 X.stack->B.get? b=some o) (c2:∀b o,s.heap.get? b=some o->b∉T3 X.stack->∃u,B.get? b=some u) (c3:∀b u,H' b=some u->∃o,B.get? b=some o):
  Inv X pins σ H' {s' with heap:=h3}:=by
 have nx:∀b:Addr,b∉([]:List Addr):=λb=>aAG;have sl:∀b o,s.heap.get? b=some o->H b=none->b∈T3 X.stack->∃sl,h3.get? b=some {o with slots:=sl}:=λb o q n hb=>by obtain⟨_,o',ho,hd⟩:=I.stack.mem hb;rw[q]at ho;cases ho;obtain⟨s2,e2⟩:=U.slot b _ q n hb (nx b);obtain⟨s3,e3⟩:=us b _ e2 hd;exact⟨s3,e3⟩
 refine I.ae8 (ch:=[]) os ⟨λb o q n hb _=>b3 b o (c1 b o q n hb),λb o q n hb _=>sl b o q n hb,U.free,λb o q _=>?_,U.tups,U.frzs,U.tbls⟩ (W7.over k b2 b3 c3) bare λb z=>absurd z (nx b);by_cases hb:b∈T3 X.stack
 ·obtain⟨s3,e3⟩:=sl b o q (I.ab8 b hb) hb;exact⟨_,e3⟩
 ·obtain⟨u,z⟩:=c2 b o q hb;exact⟨u,b3 b u z⟩
def _root_.L2.Inv.ag0 (I:Inv X pins σ H s){a:Addr}{o:Obj}(e:s.heap.get? a=some o)(n:H a=none)(nl:a≠X.env.locals)(nc:∀x c,X.env.cells.lookup x=some c->c≠a)(np:∀p∈X.pn++pins,p.1≠a)(n0:X.se.heap.get? a=none):
  Inv X pins σ (upd H a (.frz o (.own a))) s:=by
 have sm:Same H (upd H a<|.frz o (.own a)):=i5 n _;have ne:∀b,b≠a->upd H a (.frz o (.own a)) b=H b:=λb h=>j7 h;refine⟨I.ok,I.os,I.bare,⟨I.base.keep,I.base.slot,λb u q z hx=>?_,I.base.there,λb xs q=>sm b _ (I.base.tups b xs q),λb u v q=>sm b _ (I.base.frzs b u v q),λb ps q=>?_⟩,I.loc,I.cell,?_,λx c q=>?_,λp hp=>?_,λb u q=>?_,I.len⟩
 ·rw[ne b (λz'=>by rw[z',n0]at q;cases q)];exact I.base.free b u q z hx
 ·exact sm b _ (I.base.tbls b ps q)
 ·rw[ne _ (aCm nl)];exact I.free
 ·rw[ne c (nc x c q)];exact I.freeC x c q
 ·obtain⟨p1,p2,p3⟩:=I.pin p hp;exact⟨p1,by rw[ne _ (np p hp)];exact p2,p3⟩
 ·by_cases hb:b=a
  ·subst hb;rw[i4]at q;cases q;exact⟨e,⟨o,e⟩⟩
  ·rw[ne b hb]at q;exact(I.hok b u q).ab7 (λ_ _ _ z=>z) (λc z=>sm c _ z) λc xs _ z=>sm c _ z
def _root_.L2.Inv.forget (I:Inv X pins σ H s){n:Str}{i:Nat}{m:V5}{h':Heap}{v:Option Value}{tk:Nat}(hN:X.N.Nodup)(hi:X.N[i]?=some n)(hl:∀(j:Nat) (x:Str) (v:V),X.N[j]?=some x->σ[j]?=some (some v)->sD X.env.scope x->∃u,RelV v u/\Look X.env s.heap m x u)
  (hn':h'.Ns X.env.locals (λx=>if x=n then v else m x)) (hs:Heap.SameBut X.env.locals s.heap h'):Inv X pins (σ.set i none) H {s with heap:=h',toks:=tk}:=by
 have cne:=I.cne;obtain⟨m0,⟨oL,es0,ep0,hoL,_⟩,_⟩:=id I.loc;have hk:W7 X.prog X.w H h':=λb ob e=>by
  refine(I.hok b ob e).ab7 (λc w' hc q=>(hs.2 c ?_).trans q) (λ_ q=>q) λ_ _ _ q=>q;rintro rfl;rcases hc with hc|hc
  ·rw[<-hc,I.free]at e;cases e
  ·rw[I.free]at hc;cases hc
 refine⟨I.ok,I.os,I.bare,⟨λb o e n hb hx=>?_,λb o e n hb hx=>?_,I.base.free,λb o e hx=>?_,I.base.tups,I.base.frzs,I.base.tbls⟩,⟨_,hn',λj y v' e1 e2 e3=>?_⟩,λy c e=>?_,I.free,I.freeC,λp hp=>?_,hk,by simpa using I.len⟩
 ·exact(hs.2 b (aAi<|aAo (aAf e) I.ok.above)).trans (I.base.keep b o e n hb hx)
 ·obtain⟨sl,e1⟩:=I.base.slot b o e n hb hx;exact⟨sl,(hs.2 b (aAi<|aAo (aAf e) I.ok.above)).trans e1⟩
 ·obtain⟨o',e1⟩:=I.base.there b o e hx;exact⟨o',(hs.2 b (aAi<|aAo (aAf e) I.ok.above)).trans e1⟩
 ·by_cases hj:i=j
  ·subst hj;have yo:i<σ.length:=by rw[I.len];exact(aAy.mp hi).1
   rw[aBq yo]at e2;cases e2
  ·rw[aCp hj]at e2;obtain⟨u',r',q⟩:=hl j y v' e1 e2 e3;refine⟨u',r',?_⟩;rcases q with⟨k,e⟩|⟨k,c,e,z⟩
   ·refine .inl ⟨k,?_⟩;have:y≠n:=λe=>hj (lQ hN hi<|e▸e1);simp[this,e]
   ·exact .inr ⟨k,c,e,z.sameBut hs (cne y c e)⟩
 ·obtain⟨w',z⟩:=I.cell y c e;exact⟨w',z.sameBut hs (cne y c e)⟩
 ·obtain⟨e,n,ne,nf,d⟩:=I.pin p hp;exact⟨(hs.2 p.1 ne).trans e,n,ne,nf,d⟩
abbrev inX (X:Cx)(e:Value):Cx:={X with A:=X.A.mark (some e),calm:=false,xe:=λ_ _=>False}
def _root_.L2.Inv.inX (I:Inv X pins σ H s)(e:Value):Inv (DL.inX X e) pins σ H s:=
 ⟨⟨I.ok.mod,I.ok.kind,I.ok.glob,I.ok.blt,I.ok.above,I.ok.inj,I.ok.has,I.ok.cab,λz=>(by cases z),I.ok.frames,I.ok.stk,I.ok.exf,I.ok.bs,I.ok.bsz,I.ok.noex,I.ok.exfs,I.ok.funs,I.ok.frf⟩,I.os,I.bare,I.base,I.loc,I.cell,I.free,I.freeC,I.pin,I.hok,I.len⟩
def _root_.L2.Inv.ag2 {e:Value}(ok:X.Ok)(I:Inv (DL.inX X e) pins σ H s):Inv X pins σ H s:=⟨ok,I.os,I.bare,I.base,I.loc,I.cell,I.free,I.freeC,I.pin,I.hok,I.len⟩
end
section
variable{K:PySem.W.Frag} {Ha H:Hp} {O0 O:Addr->Prop} {σ:St} {ρ:Ev}
def EnvOk.unset (E:EnvOk K Ha O0 H O σ ρ)(i:Nat):EnvOk K Ha O0 H O (σ.set i none) (ρ.set i .no):=E.put i (λz=>z) trivial
def EnvOk.af9 (E:EnvOk K Ha O0 H O σ ρ)(i:Nat){a:Addr}{o:Obj}(h:H a=some (.frz o (.own a))):EnvOk K Ha O0 H O (σ.set i (some (.ref a))) (ρ.set i (.x o.cls)):=E.put i (λz=>z) ⟨a,o,rfl,h,rfl⟩
end
def vE {K:PySem.W.Frag}{M:Model}{A:Around}{E:C5}{h:Heap}{g:Array GenState}{d:Drawn}{t:Nat}{os:OsState}{a C Ch:Addr}{xr:List Value}{newId:String}{Q:rZ}(X:K.In h)(p:uD a C h)
  (hc:PySem.W.mroIn K C (.ref Ch)=some true) (hq:PySem.W.excIn K Ch xr newId=true) (hb:xr.contains (.type "BaseException")=true) (q:Q true ⟨h,g,d,t,os⟩):wpAny M A (excMatches (.ref a) (.ref Ch)) Q E ⟨h,g,d,t,os⟩:=by
 obtain⟨oe,he,hcls⟩:=p;obtain⟨bm,N,nm,qn,bs,hdct,sn,sub,ab,col,dd,k0,k1,k2,k3,k5,mN,hC,hN,hni,T⟩:=zD X hq;have hcB:(aCJ Ch::bm).contains (.type "BaseException")=true:=by rw[List.contains_cons,T.hasType hb,Bool.or_true]
 have L2:=PySem.W.looks_mroIn (M:=M) X hc;have f:=tc_notTuple;unfold excMatches;repeat(first|(with_reducible refine aEW he ?_;rw[hcls])|with_reducible refine aEW hC ?_|with_reducible refine L2.at ?_|(with_reducible refine wpAny_isSubtype_exc hC ?_;rw[hcB])|wp_step)
 exact q
def unset (i:Nat):R Out->R Out
 |.ok (.nx ρ)=>.ok (.nx (ρ.set i .no))
 |.ok (.bk ρ)=>.ok (.bk (ρ.set i .no))
 |.ok (.ct ρ)=>.ok (.ct (ρ.set i .no))
 |r=>r
def NB (i:Nat)(ok:Value->Bool)(G:Ev->Option Value)(F Fs:Ev->R Out)(ρ:Ev):R Out:=match G ρ with
 |some C=>if ok C=true then unset i (Fs<|ρ.set i<|.x C)else .bad
 |none=>F ρ
section
variable{X:Cx} {pos ue np:Pos}
def MG (i:Nat){x n:Str}{Ch:Addr}{xr:List Value}{newId:String}{body suite:List Stmt}{b7:Stmt}{F Fs:Ev->R Out}{G:Ev->Option Value}(ok:Value->Bool)
  (hN:X.N.Nodup) (hstk:X.stack=X.env::X.outer) (hfr:X.env.frame=some X.env.locals) (hex:X.ex=[])
  (hok:∀C,ok C=true->∃c,C=.ref c/\PySem.W.mroIn X.K c (.ref Ch)=some true)
  (hq:PySem.W.excIn X.K Ch xr newId=true) (hb:xr.contains (.type "BaseException")=true) (hm:X.mg x=some (.ref Ch))
  (h1:U6 X.nox body F) (h2:VC X body G) (h3:∀e,U6 (inX X e) (b7::suite) Fs)
  (hi:X.N[i]?=some n:=by rfl) (hl:X.env.scope.names.lookup n=some .local:=by rfl) (hg:Gl X x:=by rfl) (dh:(x==("__debug__":Str))=false:=by decide):
  nJ X (.Try body [.ExceptHandler (some (.Name x np)) (some n) (b7::suite) ue] [] [] pos) (NB i ok G F Fs):=by
 intro Ha O0 pins s σ H D I ⟨O,ρ,Ev,fk,q⟩;refine wpAny_Try_except ?_;have yv:X.env.kindOf n=some .local:=hl;unfold NB at q;cases e:G ρ with
 |none=>
  rw[e]at q;refine aBw (h1 Ha O0 pins s σ H D (I.aa9 _) ⟨O,ρ,Ev,fk,q⟩) (λf s1 z=>?_) λ_ _ z=>aAh z;have z:=z.aa3;cases f with
  |next=>exact aDA z
  |ret v=>exact z
  |brk=>exact z
  |cont=>exact z
 |some C=>
  rw[e]at q;dsimp only at q;split at q
  case isFalse=>exact q.elim
  case isTrue hC=>
  obtain⟨c,rfl,hmro⟩:=hok C hC;refine C4 (h2 Ha O0 pins s σ H O ρ (.ref c) (λC' _ H'=>C'=.ref c/\Same H H') _ I Ev fk e (λH' s'=>⟨rfl,s'⟩) ?_) λ_ _ z=>z.elim;intro H1 s1 ee s' I1 ⟨a,cls,a0,B,H',e1,os,bare,fl,U,k,c1,c2,c3,ec,sm⟩;subst e1;subst ec;have I1:=I1.aa3;have hfra:X.A.frames=some (X.env::X.outer):=by rw[<-hstk];exact I.ok.frames
  have fl0:Heap.FlyingW B (X.env::X.outer) a (.ref c) a0 s'.heap:=by rw[<-hstk];exact fl
  show wpAny _ _ (noteFrame (.ref a) X.env) _ _ _;refine wpAny_looks_onW hfra hfr fl0 λh4 held us4=>?_;refine wpAny_landsW held λh5 fl5 us5=>?_;have I5:Inv X pins σ H' {s' with heap:=h5}:=FY I1 U k fl.1 fl5.1 (us4.trans us5) os bare c1 c2 c3;refine wpAny_handleBy_cons (codeAny_handlers_test ?_) (by intro z;cases z);obtain⟨ob,hob,hobc⟩:=fl5.there;refine Z7 (X:=inX X (.ref a)) (s:={s' with heap:=h5}) (I5.inX<|.ref a) hg hm (vE I5.kIn ⟨ob,hob,hobc⟩ hmro hq hb ?_) dh;show codeAny _ _ (.handlers _ _ _) _ _;refine codeAny_handlers_suite_as (lands_againW fl5 λh6 fl6 us6=>?_);have I6:Inv X pins σ H' {s' with heap:=h6}:=FY I1 U k fl.1 fl6.1 ((us4.trans us5).trans us6) os bare c1 c2 c3;obtain⟨oe,vs,he,hec,hed,_⟩:=fl6.first;have nB:B.get? a=none:=fl6.2.1;have na:H' a=none:=by
   cases z:H' a with
   |none=>rfl
   |some u=>obtain⟨o,z⟩:=c3 a u z;rw[nB]at z;cases z
  have nl:a≠X.env.locals:=λz=>by obtain⟨m,⟨o',es,ep,um,og,_⟩,_⟩:=I6.loc;rw[<-z]at um;have w1:some oe=some o':=he.symm.trans um;cases w1;rw[hed]at og;cases og
  have nf:a∉T3 X.stack:=λz=>by
   have ff:h6.FunFrames B X.stack:=by rw[hstk];exact fl6.2.2.1
   obtain⟨_,o',ho,hd⟩:=ff.mem z;have w1:some oe=some o':=he.symm.trans ho;cases w1;exact hd vs hed
  have nc:∀y c',X.env.cells.lookup y=some c'->c'≠a:=λy c' hc z=>by obtain⟨v,o',ho,hd⟩:=I6.cell y c' hc;rw[z]at ho;have w1:some oe=some o':=he.symm.trans ho;cases w1;rw[hed]at hd;cases hd
  have pf:∀p∈X.pn++pins,p.1≠a:=λp hp z=>by obtain⟨p1,p2,p3,p4,_⟩:=I1.pin p hp;have w1:=c1 p.1 p.2 p1 p2 (λzz=>by rcases aAe.mp (I1.ab0 p.1 zz)with w|w;exact p3 w;exact p4 w);rw[z,nB]at w1;cases w1
  have n0:X.se.heap.get? a=none:=by
   cases z:X.se.heap.get? a with
   |none=>rfl
   |some o=>obtain⟨o',z'⟩:=I1.base.there a o z (by rw[hex];exact aAG);obtain⟨u,w1⟩:=c2 a o' z' nf;rw[nB]at w1;cases w1
  have I7:=I6.ag0 he na nl nc pf n0;refine S7 (X:=X) (v:=.ref a) I7 hN hi (.inl hl) rfl (λs8 I8=>?_) (.inr hl);have sm8:Same H (upd H' a<|.frz oe (.own a)):=sm.trans (i5 na _);have Ev8:=(Ev.grow sm8).af9 i (a:=a) (o:=oe) i4;rw[hec]at Ev8;have run:=h3 (.ref a) Ha O0 pins s8 _ _ {nx:=λai H9=>D.nx (ai.set i none) H9,rt:=D.rt,bk:=λai H9=>D.bk (ai.set i none) H9,ct:=λai H9=>D.ct (ai.set i none) H9} (I8.inX _) ⟨O,_,Ev8,fk,by
   have q':=RS.grow q (Kp.of (O:=O) sm8);cases e2:Fs (ρ.set i<|.x (.ref c))with
   |ok o=>
    rw[e2]at q';cases o with
    |nx av=>exactλai H9 O' E' f' kp=>q' _ H9 O' (E'.unset i) f' kp
    |bk av=>exactλai H9 O' E' f' kp=>q' _ H9 O' (E'.unset i) f' kp
    |ct av=>exactλai H9 O' E' f' kp=>q' _ H9 O' (E'.unset i) f' kp
    |rt d=>exact q'
   |ex z=>rw[e2]at q';exact q'
   |bad=>rw[e2]at q';exact q'⟩
  refine aBw run (λf s9 z=>?_) λ_ _ z=>aAh z;have go:∀{ai:St} {H9:Hp} {Q:Unit->Shared->Prop},Inv (inX X<|.ref a) pins ai H9 s9->(∀s10,Inv X pins (ai.set i none) H9 s10->Q () s10)->wpAny (model X.prog X.w) X.A (do bindName X.env n .none;unbindBehindTheSuite X.env n ue) Q X.xe s9:=λ{ai H9 Q} I9 hQ=>by have I9':=Inv.ag2 I.ok I9;obtain⟨m,hn,hloc⟩:=id I9'.loc;refine wpAny_nameGoes_keeps yv hn (by rw[I.ok.kind];rfl) λh10 v hn' lh=>hQ _ ?_;exact I9'.forget hN hi hloc hn' lh
  cases f with
  |next=>obtain⟨ai,H9,I9,q9⟩:=z;exact go I9 λs10 I10=>⟨_,H9,I10,q9⟩
  |brk=>obtain⟨ai,H9,I9,q9⟩:=z;exact go I9 λs10 I10=>⟨_,H9,I10,q9⟩
  |cont=>obtain⟨ai,H9,I9,q9⟩:=z;exact go I9 λs10 I10=>⟨_,H9,I10,q9⟩
  |ret u=>obtain⟨v,ai,H9,I9,r9,q9⟩:=z;exact go I9 λs10 I10=>⟨v,_,H9,I10,r9,q9⟩
end
def xJ (K:PySem.W.Frag)(c:Addr):Bool:=(PySem.W.clsIn K c).isSome&&(PySem.W.mroIn K c (.type "object")==some true&&(PySem.W.mroIn K c (.type "BaseException")==some true&&
 (PySem.W.findIn K (.ref c) "__class__"==some (some<|.builtin "object.__class__")&&(PySem.W.findIn K (.ref c) "__getattribute__"==some (some<|.builtin "BaseException.__getattribute__")&&PySem.W.findIn K (.ref c) "__getattr__"==some none))))
def xJ.cls {K:PySem.W.Frag}{c:Addr}(h:xJ K c=true):ExCls K c:=by unfold xJ at h;simp only[aAF,beq_iff_eq]at h;exact⟨h.1,h.2.1,h.2.2.1,h.2.2.2.1,h.2.2.2.2.1,h.2.2.2.2.2⟩
def UR (K:PySem.W.Frag)(i:Nat)(cv:Value)(ρ:Ev):R D:=match ρ[i]? with
 |some (.x (.ref c))=>if xJ K c=true then(match PySem.W.kitOne K (.ref c) cv with|some b=>.ok (.bl b)|none=>.bad)else .bad
 |_=>.bad
section
variable{X:Cx} {pos:Pos}
def IM (i:Nat){n x:Str}{p pn pt:Pos}{cv:Value}{vc:V}(hc:PE X (.Name x pt) (tC vc))(rc:RelV vc cv)(hu:∀u,RelV vc u->u=cv)(hm:X.mg "isinstance"=none)(hN:X.N[i]?=some n:=by rfl)(hv:sD X.env.scope n:=by first|exact aCt rfl|exact aBy (aCt rfl)|exact aBy (aBy rfl))(hg:Gl X "isinstance":=by rfl)
  (dh:(n==("__debug__":Str))=false:=by decide) (gc:(n==("__classdict__":Str))=false:=by decide)
  (he:starEach [.Name n pn,.Name x pt] X.env=(false,eval (.Name n pn) X.env)::starEach [.Name x pt] X.env:=by rfl) (ju:starEach [Expr.Name x pt] X.env=[(false,eval (.Name x pt) X.env)]:=by rfl) (br:(backTo pos (starEach [Expr.Name x pt] X.env)).any (·.1)=false:=by rfl):
  PD X (.Call (.Name "isinstance" p) [.Name n pn,.Name x pt] [] pos) (UR X.K i cv):=by
 refine sF λpins s σ H Q I Ha O0 O ρ E q=>?_;refine aAM (P3 (u:=.builtin "isinstance") I hg hm (by decide+kernel) ?_);unfold UR at q;split at q
 case h_2=>exact q.elim
 case h_1 c e=>
 split at q
 case isFalse=>exact q.elim
 case isTrue ho=>
 split at q
 case h_2=>exact q.elim
 case h_1 b ek=>
 obtain⟨a,o,h1,h2,h3⟩:=E.exc i _ e;have h:=K1 (O7 (pos:=pn) hN hv dh gc) (K1 hc aY (by rw[ju];rfl)) he pos pins s σ H (λvs H1=>vs=[.ref a,vc]/\H1=H) I ⟨_,h1,rfl,rfl⟩;refine aCf (C4 h λus s1 ⟨vs,H1,I1,r1,e1,e2⟩=>?_) he br;subst e1;subst e2;obtain⟨u,w,rfl,ru,rw'⟩:=vals2 r1;cases ru;obtain rfl:=hu w rw';obtain⟨hob,_⟩:=I1.hok a _ h2;exact PySem.W.kia_one (EQ<|xJ.cls ho) I1.kIn ⟨o,hob,h3⟩ ek (λz=>nomatch z) λtk=>⟨.bl b,H1,I1.tok _,rfl,q _ H1 (Same.refl _) .bl⟩
end
def MA (ds:List D):D->R D
 |.int k=>if 0<=k/\k<=1000/\ds.length<=1000 then .ok (.lst (aAD k.toNat ds).flatten)else .bad
 |_=>.bad
theorem Reps.rep {K:PySem.W.Frag}{H:Hp}{O:Addr->Prop}{vs:List V}{ds:List D}(r:Reps K H O vs ds):∀n:Nat,Reps K H O (aAD n vs).flatten (aAD n ds).flatten
 |0=>.nil
 |n+1=>by rw[aBh,aBh,aBZ,aBZ];exact r.append (Reps.rep r n)
def KE {X:Cx}{a b:Expr}{fa:Ev->R (List D)}{fb:Ev->R D}{pos:Pos}(ha:PF X a fa)(hb:PD X b fb):PD X (.BinOp a .Mult b pos) (λρ=>(fa ρ).bind λds=>(fb ρ).bind λk=>MA ds k):=by
 refine sF λpins s σ H Q I Ha O0 O ρ E q=>?_;refine wpAny_BinOp (DD (R:=λx y H2=>WD x y H2 Q) ha hb I ?_ λv u s2 x y H2 I2 rx ry h=>SY pins s2 σ H2 x y v u Q I2 rx ry h);refine⟨Ha,O0,O,ρ,E,?_⟩;dsimp only at q;cases e1:fa ρ with
 |ex z=>rw[e1]at q;exact q
 |bad=>rw[e1]at q;exact q
 |ok ds=>
  rw[e1,R.aa0]at q;intro vs H1 p s1 hp r1;have s2:=s1.trans (i5 hp<|.lst vs);refine⟨Ha,O0,O,ρ,E.grow s2,?_⟩;cases e2:fb ρ with
  |ex z=>rw[e2]at q;exactλH' s'=>q H' (s2.trans s')
  |bad=>rw[e2]at q;exact q
  |ok d=>
   rw[e2,R.aa0]at q;intro v H2 s3 r3;cases d with
   |int k=>
    simp only[MA]at q;split at q
    ·rename_i hk;obtain⟨k0,k1,k2⟩:=hk;cases r3;refine⟨p,k,vs,rfl,rfl,s3 _ _ i4,by omega,by omega,?_,λp' wu=>?_⟩
     ·rw[r1.length];have:k.toNat<=1000:=by omega
      exact aAx (aEK k2 this) (by decide)
     ·have s4:=s3.trans (i5 wu<|.lst (aAD k.toNat vs).flatten);exact q _ _ (s2.trans s4) (.lst (N1.of i4) ((E.grow<|s2.trans s3).fresh wu) (((r1.same<|i5 hp _).same s4).rep _))
    ·exact q.elim
   |_=>exact aAh q
abbrev XI:List Value:=[.type "ValueError",.type "Exception",.type "BaseException",.type "object"]
def bO (P:Program)(w:World)(K:PySem.W.Frag)(mg:V5)(base:Heap)(k:Nat)(x:Str)(n:Nat)(m:List D->Option Value):Prop:=
 ∃g gd ps,FnOk P w K mg base (JG P w) k g gd ps (YG K n m)/\Binds K gd ps []/\PySem.W.keepIn K (.ref g)=true/\mg x=some (.ref g)
def jZ {P:Program}{w:World}{K:PySem.W.Frag}{mg:V5}{base:Heap}{x qual:Str}{st:Stmt}{f:Addr}{fd:FuncData}{N ps:List Str}{k:Nat}{m:List D->Option Value}{G:Ev->Option Value}(F0:Fun K x qual st f fd)(S:FnScope N ps (c5 st))(zb:Binds K fd ps [])(jl:mg x=some (.ref f))
  (hb:∀(cdv:Value) (A:Around) (outer:List Env) (s:Shared) (H:Hp) (E:XK),Room k (A.deeper (envOfC qual (c5 st) s.heap.objs.size f cdv))->OD (kj P w K mg base N qual (c5 st) f cdv A outer s H E) E (o6 st) G)
  (hm:∀ds C,ds.length=ps.length->m ds=some C->G (i6 N ds)=some C):bO P w K mg base (k+1) x ps.length m:=
 ⟨f,fd,ps,fnX F0 S hb hm,zb,F0.kp,jl⟩
def mX (f:Ev->R (List D))(m:List D->Option Value)(ρ:Ev):Option Value:=match f ρ with|.ok ds=>m ds|_=>none
section
variable{X:Cx} {pos:Pos}
def rB {k:Nat}{n:Nat}{m:List D->Option Value}{x:Str}{p:Pos}{e:Expr}{es:List Expr}{f:Ev->R (List D)}(c:bO X.prog X.w X.K X.mg X.base k x n m)(hr:Room k X.A)(ha:xU X.nox (e::es) f)(hl:vM f n)(hg:Gl X x:=by rfl)
  (dh:(x==("__debug__":Str))=false:=by decide) (he:starEach (e::es) X.env=(false,eval e X.env)::starEach es X.env:=by rfl) (br:(backTo pos (starEach es X.env)).any (·.1)=false:=by rfl):
  YZ X (.Call (.Name x p) (e::es) [] pos) (mX f m):=by
 obtain⟨g,gd,ps,F,b,kp,em⟩:=c;exact GK F hr em kp b ha hl hg dh he br
def qC {E:XK}{k:Nat}{n:Nat}{m:List D->Option Value}{x:Str}{p:Pos}{e:Expr}{es:List Expr}{f:Ev->R (List D)}(L:LeavesBy X E)(c:bO X.prog X.w X.K X.mg X.base k x n m)(hr:Room k X.A)(ha:xU X (e::es) f)(hl:vM f n)(hg:Gl X x:=by rfl)
  (dh:(x==("__debug__":Str))=false:=by decide) (he:starEach (e::es) X.env=(false,eval e X.env)::starEach es X.env:=by rfl) (br:(backTo pos (starEach es X.env)).any (·.1)=false:=by rfl):
  QJ X E (.Call (.Name x p) (e::es) [] pos) (mX f m):=by
 obtain⟨g,gd,ps,F,b,kp,em⟩:=c;exact JF (IY L) F hr em kp b ha hl hg dh he br
def V4 {K:PySem.W.Frag}{i:Nat}{n x:Str}{p pn pt:Pos}{c:Addr}(k:X.mg x=some (.ref c))(hm:X.mg "isinstance"=none)(hN:X.N[i]?=some n:=by rfl)(hv:sD X.env.scope n:=by first|exact aCt rfl|exact aBy (aCt rfl)|exact aBy (aBy rfl))(hg:Gl X "isinstance":=by rfl)(hgx:Gl X x:=by rfl)
  (dh:(n==("__debug__":Str))=false:=by decide) (gc:(n==("__classdict__":Str))=false:=by decide) (zd:(x==("__debug__":Str))=false:=by decide)
  (he:starEach [.Name n pn,.Name x pt] X.env=(false,eval (.Name n pn) X.env)::starEach [.Name x pt] X.env:=by rfl) (ju:starEach [Expr.Name x pt] X.env=[(false,eval (.Name x pt) X.env)]:=by rfl) (br:(backTo pos (starEach [Expr.Name x pt] X.env)).any (·.1)=false:=by rfl) (hK:X.K=K:=by rfl):
  PD X (.Call (.Name "isinstance" p) [.Name n pn,.Name x pt] [] pos) (UR K i (.ref c)):=by
 subst hK;exact IM i (AE (v:=.ref c) hgx k rfl zd) rfl (λ_ h=>h) hm hN hv hg dh gc he ju br
def NO {K:PySem.W.Frag}{i:Nat}{n x:Str}{p pn pt:Pos}{T:String}(hT:bootBuiltins x=some (.type T))(k:X.mg x=none)(hm:X.mg "isinstance"=none)(hN:X.N[i]?=some n:=by rfl)(hv:sD X.env.scope n:=by first|exact aCt rfl|exact aBy (aCt rfl)|exact aBy (aBy rfl))(hg:Gl X "isinstance":=by rfl)(hgx:Gl X x:=by rfl)
  (dh:(n==("__debug__":Str))=false:=by decide) (gc:(n==("__classdict__":Str))=false:=by decide) (zd:(x==("__debug__":Str))=false:=by decide) (hnx:x≠ "__name__":=by decide)
  (he:starEach [.Name n pn,.Name x pt] X.env=(false,eval (.Name n pn) X.env)::starEach [.Name x pt] X.env:=by rfl) (ju:starEach [Expr.Name x pt] X.env=[(false,eval (.Name x pt) X.env)]:=by rfl) (br:(backTo pos (starEach [Expr.Name x pt] X.env)).any (·.1)=false:=by rfl) (hK:X.K=K:=by rfl):
  PD X (.Call (.Name "isinstance" p) [.Name n pn,.Name x pt] [] pos) (UR K i (.type T)):=by
 subst hK;exact IM i (OA (v:=.ty T) hgx k hT rfl hnx zd) rfl (λ_ h=>h) hm hN hv hg dh gc he ju br
def wX {st:List Stmt}:U6 X st (λ_=>.bad):=λ_ _ _ _ _ _ _ _ ⟨_,_,_,_,q⟩=>q.elim
end
structure XCls (K:PySem.W.Frag)(mg:V5)(Bc:Addr)(x:Str)(c:Addr):Prop where
 nm:mg x=some (.ref c)
 ex:PySem.W.excIn K c XI "ValueError.__new__"=true
 ok:xJ K c=true
 sub:PySem.W.mroIn K c (.ref Bc)=some true
def rD {K:PySem.W.Frag}{mg:V5}{Bc c:Addr}{x:Str}{cd:ClassData}(nm:mg x=some (.ref c))(ex:PySem.W.excIn K c XI "ValueError.__new__"=true)(h1:PySem.W.clsIn K c=some cd)(h2:PySem.W.mroIn K c (.type "object")=some true)
  (h3:PySem.W.mroIn K c (.type "BaseException")=some true) (h4:PySem.W.findIn K (.ref c) "__class__"=some (some (.builtin "object.__class__"))) (h5:PySem.W.findIn K (.ref c) "__getattribute__"=some (some (.builtin "BaseException.__getattribute__")))
  (h6:PySem.W.findIn K (.ref c) "__getattr__"=some none) (sub:PySem.W.mroIn K c (.ref Bc)=some true):XCls K mg Bc x c:=
 ⟨nm,ex,by unfold xJ;rw[h1,h2,h3,h4,h5,h6];rfl,sub⟩
def RL {X:Cx}{E:XK}{sts:List Stmt}{G1 G2:Ev->Option Value}(h1:OD X E sts G1)(h2:OD X E sts G2):OD X E sts (λρ=>(G1 ρ).or (G2 ρ)):=by
 intro Ha O0 pins s σ H O ρ C I Ev fk e q;dsimp only at e;cases e1:G1 ρ with
 |some c=>rw[e1]at e;cases e;exact h1 Ha O0 pins s σ H O ρ _ I Ev fk e1 q
 |none=>rw[e1,Option.none_or]at e;exact h2 Ha O0 pins s σ H O ρ C I Ev fk e q
section
def VL {xs es:List Expr}{p:Pos}{env:Env}:starEach (.List xs p::es) env=(false,eval (.List xs p) env)::starEach es env:=rfl
def UP {xs:List Expr}{p:Pos}{t:Option Expr}{l:Nat}{env:Env}:swapsWith (Expr.List xs p) t l env=pure false:=rfl
def XO:List D->Option (List Str)
 |[]=>some []
 |.str x::ds=>(XO ds).map (x::·)
 |_::_=>none
end
section
def LV {E:XK}{x:Str}{p:Pos}{e:Expr}{G:Ev->Option Value}(c:z9 X.prog X.w X.K X.mg X.base k x n m)(h:QJ X E e G)(hg:Gl X x:=by rfl)
  (dh:(x==("__debug__":Str))=false:=by decide) (he:starEach [e] X.env=(false,eval e X.env)::starEach [] X.env:=by rfl) (br:(backTo pos (starEach [] X.env)).any (·.1)=false:=by rfl):
  QJ X E (.Call (.Name x p) [e] [] pos) G:=by
 intro Ha O0 pins s σ H O ρ C I Ev fk ec q;obtain⟨g,gd,ps,F,b,kp,em⟩:=c;refine aAM (Z7 I hg em ?_ dh);refine PySem.W.callWith_K (h₀:=X.base) I.ok.mod.kin kp ?_ he br;rw[he];show wpAny _ _ (spliced ((false,eval e X.env)::backTo pos (starEach [] X.env))) _ _ s;exact aDB (C4 (h Ha O0 pins s σ H O ρ C I Ev fk ec q) λ_ _ z=>z.elim)
end
section
def QC:gC X (compareOp .Is) (λx y H Q=>∃a b,x=.bl a/\y=.bl b/\Q (.bl (a==b)) H):=by intro pins s σ H x y v u Q I rx ry h;obtain⟨a,b,rfl,rfl,q⟩:=h;cases rx;cases ry;show wpAny _ _ (pure<|aBX<|aBX a==aBX b) _ _ _;exact aAb ⟨.bl (a==b),H,I,by cases a<;>cases b<;>rfl,q⟩
def DQ:gC X (compareOp .IsNot) (λx y H Q=>∃a b,x=.bl a/\y=.bl b/\Q (.bl (!(a==b))) H):=by intro pins s σ H x y v u Q I rx ry h;obtain⟨a,b,rfl,rfl,q⟩:=h;cases rx;cases ry;show wpAny _ _ (pure<|aBX (!(aBX a==aBX b))) _ _ _;exact aAb ⟨.bl (!(a==b)),H,I,by cases a<;>cases b<;>rfl,q⟩
def VP:D->D->R D
 |.bl a,.bl b=>.ok (.bl (a==b))
 |_,_=>.bad
def PK:D->D->R D
 |.bl a,.bl b=>.ok (.bl (!(a==b)))
 |_,_=>.bad
@[simp]def YW (a b:Bool):VP (.bl a) (.bl b)=.ok (.bl (a==b)):=rfl
@[simp]def XZ (a b:Bool):PK (.bl a) (.bl b)=.ok (.bl (!(a==b))):=rfl
def QV:iJ X (compareOp .Is) VP:=by
 intro H O x y dx dy Q fr rx ry q;refine⟨_,QC,?_⟩;cases dx with
 |bl a=>
  cases dy with
  |bl b=>exact⟨a,b,rx.blI,ry.blI,q _ H (Same.refl _) .bl⟩
  |_=>exact aAh q
 |_=>cases dy<;>exact aAh q
def DS:iJ X (compareOp .IsNot) PK:=by
 intro H O x y dx dy Q fr rx ry q;refine⟨_,DQ,?_⟩;cases dx with
 |bl a=>
  cases dy with
  |bl b=>exact⟨a,b,rx.blI,ry.blI,q _ H (Same.refl _) .bl⟩
  |_=>exact aAh q
 |_=>cases dy<;>exact aAh q
def RW {E:XK}{G:Ev->Option Value}{a b:Expr}{op:CmpOp}{t e:List Stmt}{bp pos:Pos}(h:QJ X E a G)(hm:behindInMarks op b=false:=by first|exact xK _|with_unfolding_all rfl):PX X E (.If (.Compare a [op] [b] bp) t e pos) G:=λHa O0 pins s σ H O ρ C I Ev fk ec q=>wpAny_If (aDT (C4 (h Ha O0 pins s σ H O ρ C I Ev fk ec q) λ_ _ z=>z.elim) hm)
def lZ (c d:Addr):Value->Bool
 |.ref a=>a==c||a==d
 |_=>false
def JV {K:PySem.W.Frag}{mg:V5}{Bc c d:Addr}{x y:Str}(h:XCls K mg Bc x c)(h':XCls K mg Bc y d):∀C,lZ c d C=true->∃a,C=.ref a/\PySem.W.mroIn K a (.ref Bc)=some true:=λC e=>by
 cases C with
 |ref a=>
  simp only[lZ,Bool.or_eq_true,beq_iff_eq]at e;rcases e with rfl|rfl
  ·exact⟨a,rfl,h.sub⟩
  ·exact⟨a,rfl,h'.sub⟩
 |_=>cases e
end
end DL
namespace G
end G
namespace M
open PySem L2 DL
variable [Tabs]
end M
namespace G
section
variable{pts c:List V} (hs:n4 pts) (ho:pts.Pairwise (λa b=>d9 (b-a))) (fg:c.Pairwise (λa b=>d9 (b-a))) (hc:∀X,X∈c↔∃f:V×Int,IsFace pts f.1 f.2/\X∈j9 pts f)
include hs ho fg hc
theorem PC (h:X∈c):X∈pts:=by obtain⟨f,hf,hX⟩:=(hc X).mp h;exact(c8.mp<|(hf.aa2 ho).aa5 hX).1
theorem gE (hf:IsFace pts n d)(h:X∈j9 pts (n,d)):X∈v7 n d c:=by have h2:=(c8.mp<|(hf.aa2 ho).aa5 h).2;exact c8.mpr ⟨(hc X).mpr ⟨(n,d),hf,h⟩,h2⟩
theorem RK (h:X∈v7 n d c):X∈v7 n d pts:=c8.mpr ⟨PC hs ho fg hc (c8.mp h).1,(c8.mp h).2⟩
theorem gR (hf:IsFace pts n d):IsFace c n d:=by
 have S:=hf.aa2 ho;obtain⟨r,s,t,l,e⟩:=U3 ho hf;have hr:r∈j6 n (v7 n d pts):=by rw[e];simp
 have lh:s∈j6 n (v7 n d pts):=by rw[e];simp
 have ht:t∈j6 n (v7 n d pts):=by rw[e];simp
 have nd:=S.aa4;rw[e]at nd;simp only[aAK,aAe,not_or]at nd;have ers:EdgeOf n (λX=>X∈v7 n d pts) r s:=S.aa1.mp (by rw[e];simp[S6]);have st:=S.strict ers ht (λq=>nd.1.2.1 q.symm) (λq=>nd.2.1.1 q.symm);have k:=λ{X} (h:X∈j6 n (v7 n d pts))=>gE hs ho fg hc hf (X:=X) h;refine⟨hf.prim,λX hX=>hf.sup X (PC hs ho fg hc hX),r,(c8.mp<|k hr).1,s,(c8.mp<|k lh).1,t,(c8.mp<|k ht).1,(c8.mp<|k hr).2,(c8.mp<|k lh).2,(c8.mp<|k ht).2,λq=>?_⟩;unfold f9 at st;rw[q,N8]at st
 lia
theorem rL (hf:IsFace pts n d)(h:EdgeOf n (λX=>X∈v7 n d pts) a b):EdgeOf n (λX=>X∈v7 n d c) a b:=by have S:=hf.aa2 ho;have m:=zC S (S.aa1.mpr h);exact⟨gE hs ho fg hc hf m.1,gE hs ho fg hc hf m.2,h.ne,λX hX=>h.left X (RK hs ho fg hc hX),λX hX=>h.btw X (RK hs ho fg hc hX)⟩
omit hs ho fg hc in
theorem kW {R:V->Prop}{E:List (V×V)}(hR:∀a b,R a->(a,b)∈E->R b):∀(x:V) (l:List V),R x->(∀e∈o9 (x::l),e∈E)->∀X∈x::l,R X
 |x,[],hx,_,X,hX=>by rw[aBd.mp hX];exact hx
 |x,y::l,hx,h,X,hX=>by
  have hy:=hR x y hx (h (x,y) (by simp[o9]));rcases aAe.mp hX with rfl|hX
  ·exact hx
  ·exact kW hR y l hy (λe he=>h e (by simp only[o9,aAe];exact .inr he)) X hX
theorem wH (hf:IsFace pts n d)(h:X∈j6 n (v7 n d c)):X∈j6 n (v7 n d pts):=by
 have S:=hf.aa2 ho;have S2:=(gR hs ho fg hc hf).aa2 fg;obtain⟨m,r,e,hm,hl⟩:=S2.ab4;obtain⟨m',r',e',hm',ji⟩:=S.ab4;have mm:m=m':=by
  have h1:m'∈v7 n d c:=gE hs ho fg hc hf (show m'∈j6 n (v7 n d pts)by rw[e'];simp);rcases hl m' h1 with q|q
  ·exact q.symm
  ·rcases ji m (RK hs ho fg hc hm)with q'|q'
   ·exact q'
   ·exact absurd (A7.add q q') (by
     have:(m'-m)+(m-m')=0:=by apply ext<;>simp<;>lia
     rw[this];exactλz=>by simp[d9]at z)
 have step:∀a b,a∈j6 n (v7 n d pts)->(a,b)∈S6 (j6 n<|v7 n d c)->b∈j6 n (v7 n d pts):=λa b ha hab=>by obtain⟨b',ma⟩:=cA S ha;have e1:=S2.aa1.mp hab;have e2:=rL hs ho fg hc hf (S.aa1.mp ma);rw[e1.next e2];exact(zC S ma).2
 rw[e]at h;refine kW (E:=S6 (j6 n<|v7 n d c)) (R:=λX=>X∈j6 n (v7 n d pts)) step m r (by rw[mm,e'];simp) (λf hf'=>?_) X h;rw[e,T4];exact dM r m m f hf'
theorem sZ (hf:IsFace pts n d)(h:EdgeOf n (λX=>X∈v7 n d c) a b):EdgeOf n (λX=>X∈v7 n d pts) a b:=by have S:=hf.aa2 ho;have S2:=(gR hs ho fg hc hf).aa2 fg;have ha:=wH hs ho fg hc hf (S2.ac2 h);obtain⟨b',ma⟩:=cA S ha;have e:=S.aa1.mp ma;rw[h.next (rL hs ho fg hc hf e)];exact e
theorem yX (hf:IsFace pts n d):n4 c:=by
 have S:=hf.aa2 ho;obtain⟨r,s,t,l,e⟩:=U3 ho hf;have hr:r∈j6 n (v7 n d pts):=by rw[e];simp
 have ht:t∈j6 n (v7 n d pts):=by rw[e];simp
 have nd:=S.aa4;rw[e]at nd;simp only[aAK,aAe,not_or]at nd;have ers:EdgeOf n (λX=>X∈v7 n d pts) r s:=S.aa1.mp (by rw[e];simp[S6]);have st:=S.strict ers ht (λq=>nd.1.2.1 q.symm) (λq=>nd.2.1.1 q.symm);obtain⟨hg,eg⟩:=qO hs ho hf ers;generalize(b8 s r pts).1=m at*
 generalize(b8 s r pts).2=f at*
 have T:=hg.aa2 ho;obtain⟨r2,s2,t2,l2,e2⟩:=U3 ho hg;have uf:=T.aa4;rw[e2]at uf;simp only[aAK,aAe,not_or]at uf;obtain⟨Y,hY,y1,y2⟩:∃Y∈j6 m (v7 m f pts),Y≠s/\Y≠r:=by
  have q1:r2∈j6 m (v7 m f pts):=by rw[e2];simp
  have q2:s2∈j6 m (v7 m f pts):=by rw[e2];simp
  have q3:t2∈j6 m (v7 m f pts):=by rw[e2];simp
  by_cases a1:r2≠s/\r2≠r
  ·exact⟨r2,q1,a1⟩
  ·by_cases a2:s2≠s/\s2≠r
   ·exact⟨s2,q2,a2⟩
   ·refine⟨t2,q3,λz=>?_,λz=>?_⟩
    ·subst z;have h1:r2=r:=by
      by_cases h:r2=r
      ·exact h
      ·exact absurd ⟨uf.1.2.1,h⟩ a1
     have h2:s2=r:=by
      by_cases h:s2=r
      ·exact h
      ·exact absurd ⟨uf.2.1.1,h⟩ a2
     exact uf.1.1 (h1.trans h2.symm)
    ·subst z;have h1:r2=s:=by
      by_cases h:r2=s
      ·exact h
      ·exact absurd ⟨h,uf.1.2.1⟩ a1
     have h2:s2=s:=by
      by_cases h:s2=s
      ·exact h
      ·exact absurd ⟨h,uf.2.1.1⟩ a2
     exact uf.1.1 (h1.trans h2.symm)
 have sY:=T.strict eg hY y1 y2;have lt:=JP hs hg hf eg ers (T.aa5 hY) sY;have k:=λ{X} (h:X∈j6 n (v7 n d pts))=>gE hs ho fg hc hf (X:=X) h;have kY:=gE hs ho fg hc hg hY;have lh:s∈j6 n (v7 n d pts):=by rw[e];simp
 have dr:=(c8.mp<|k hr).2;have dss:=(c8.mp<|k lh).2;have dt:=(c8.mp<|k ht).2;refine⟨r,(c8.mp<|k hr).1,s,(c8.mp<|k lh).1,t,(c8.mp<|k ht).1,Y,(c8.mp kY).1,λz=>?_⟩;have p1:d8 n (s-r)=0:=by rw[f8];lia
 have p2:d8 n (t-r)=0:=by rw[f8];lia
 have pY:d8 n (Y-r)<0:=by rw[f8];lia
 have id:f9 (s-r) (t-r) (Y-r)*d8 n n=f9 n (s-r) (t-r)*d8 n (Y-r)+d8 n (s-r)*(d8 n (t-r)*0)+(d8 n (s-r)*f9 n (t-r) (Y-r)+d8 n (t-r)*f9 n (Y-r) (s-r)):=by generalize s-r=u;generalize t-r=v;generalize Y-r=w;have:=PY n n u v w;simp[f9,d8]at this⊢;grind
 rw[z,p1,p2]at id;have:f9 n (s-r) (t-r)*d8 n (Y-r)<0:=aBG st pY
 lia
theorem MU (fs:List (V×Int))(bf:fs≠[])(hfs:∀f,f∈fs↔IsFace pts f.1 f.2):IsFace c n d↔IsFace pts n d:=by
 refine⟨λh=>?_,gR hs ho fg hc⟩;obtain⟨f0,f0m⟩:=aEL fs bf;have sc:=yX hs ho fg hc ((hfs f0).mp f0m);have:=oM sc fg fs bf (λf hf=>gR hs ho fg hc ((hfs f).mp hf)) (λf hf a b hab=>?_) h
 ·exact(hfs _).mp this
 ·have h1:=(hfs f).mp hf;obtain⟨hg,eg⟩:=qO hs ho h1 (sZ hs ho fg hc h1 hab);exact⟨b8 b a pts,(hfs _).mpr hg,rL hs ho fg hc hg eg⟩
theorem IN (hX:X∈c):∃f:V×Int,IsFace c f.1 f.2/\X∈j9 c f:=by obtain⟨⟨n,d⟩,hf,h⟩:=(hc X).mp hX;have S:=hf.aa2 ho;obtain⟨Q,hQ⟩:=cA S h;exact⟨(n,d),gR hs ho fg hc hf,((gR hs ho fg hc hf).aa2 fg).ac2 (rL hs ho fg hc hf<|S.aa1.mp hQ)⟩
end
end G
namespace M
open PySem L2 DL
variable [Tabs]
def vK {pts:List G.V}(h1:R8 900 pts)(h2:G.n4 pts)(h3:(i8 pts).length<=14):∀X,X∈A1 pts↔∃f:G.V×Int,G.IsFace (i8 pts) f.1 f.2/\X∈G.j9 (i8 pts) f:=λX=>by obtain⟨m,r,e,L⟩:=fO h1 h2 (by lia);unfold A1;rw[B7,aBK];rw[e]at h3⊢;have FL:=U7 L h3;exact⟨λ⟨f,hf,hX⟩=>⟨f,(FL.1 f).mp hf,hX⟩,λ⟨f,hf,hX⟩=>⟨f,(FL.1 f).mpr hf,hX⟩⟩
def sQ {l:List G.V}(h:l.Pairwise λa b=>G.d9 (b-a)):i8 l=l:=jL (L5 _) h λv=>B7
def BI {pts:List G.V}(h1:R8 900 pts)(h2:G.n4 pts)(h3:(i8 pts).length<=14):G.n4 (A1 pts)/\R8 900 (A1 pts)/\i8 (A1 pts)=A1 pts/\(A1 pts).length<=14/\A1 (A1 pts)=A1 pts/\∀n d,G.IsFace (A1 pts) n d↔G.IsFace (i8 pts) n d:=by
 have hc:=vK h1 h2 h3;have fg:(A1 pts).Pairwise λa b=>G.d9 (b-a):=L5 _;have hs:G.n4 (i8 pts):=pH h2 λv hv=>B7.mpr hv;have ho:=L5 pts;obtain⟨m,r,e,L⟩:=fO h1 h2 (by lia);have FL:aQ (i8 pts) (A6<|i8 pts):=by have h3':=h3;rw[e]at h3'⊢;exact U7 L h3'
 have fl:(A1 pts).length<=14:=by have h3':=h3;unfold A1;rw[e]at h3'⊢;exact(oC L h3').2
 have bf:A6 (i8 pts)≠[]:=λz=>by
  obtain⟨A,hA,_⟩:=hs;have:∃f:G.V×Int,G.IsFace (i8 pts) f.1 f.2:=by have L':=L;rw[<-e]at L';have:=G.kS L'.good.solid L'.good.ord L'.good.mem L'.good.least;exact⟨_,this⟩
  obtain⟨f,hf⟩:=this;have:=(FL.1 f).mpr hf;rw[z]at this;cases this
 obtain⟨f0,hf0⟩:=aEL _ bf;have sc:=G.yX hs ho fg hc ((FL.1 f0).mp hf0);have sz:R8 900 (A1 pts):=⟨λP hP=>h1.1 P (GB h1 h2 h3 hP),by lia⟩;have ss:=sQ fg;refine⟨sc,sz,ss,fl,?_,λn d=>G.MU hs ho fg hc _ bf FL.1⟩;refine jL (L5 _) fg λv=>?_;have bm:=vK sz sc (by rw[ss];exact fl) v;show v∈A1 (A1 pts)↔_;rw[bm,ss];constructor
 ·rintro⟨f,hf,hv⟩;exact kL fg hf hv
 ·exactλhv=>G.IN hs ho fg hc hv
end M
namespace M
open PySem L2 DL
end M
namespace DL
open PySem PySem.Spec L2
def LF {K:Params->PySem.W.Frag}{P c:Addr}{tb:List (Pos×Str)}{ts:List Addr}(h1:P∈ts)(h2:∀w:World,PySem.W.codeHdIn (K w.params) c P=true):∀p∈[(P,tb)],p.1∈ts/\∃c,∀w:World,PySem.W.codeHdIn (K w.params) c p.1=true:=λp hp=>by rw[aBd.mp hp];exact⟨h1,c,h2⟩
end DL
namespace DL
open PySem PySem.Spec L2
def Got (K:PySem.W.Frag)(x:Str)(st:Stmt):Prop:=∃f fd,PySem.W.nsIn K mainGlobals x=some (some<|.ref f)/\Fun K x x st f fd
def LR (K:PySem.W.Frag)(x:Str)(st:Stmt)(Pt:Addr):Prop:=∃f fd cd,PySem.W.nsIn K mainGlobals x=some (some<|.ref f)/\PySem.W.codeHdIn K cd Pt=true/\FunC K x x st f fd cd
def eT (K:PySem.W.Frag)(mg:V5)(x:Str)(st:Stmt):Prop:=∃f fd,mg x=some (.ref f)/\Fun K x x st f fd
def QG (K:PySem.W.Frag)(mg:V5)(x:Str)(st:Stmt)(Pt:Addr):Prop:=∃f fd cd,mg x=some (.ref f)/\PySem.W.codeHdIn K cd Pt=true/\FunC K x x st f fd cd
section
variable{kV doc pm cdv ct:Value}
def QR (a:PySem.W.nsIn K mainGlobals x=some (some (.ref f)))(l:K.lookup f=some ⟨oc,od,.func (PySem.W.fnOf x x (D7 st) (o6 st) (c5 st) .none kV doc pm an cdv ct),osl⟩)
 (c:PySem.W.codeIn K cdv x=true) (k:PySem.W.keepIn K (.ref f)=true):Got K x st:=⟨f,_,a,IU l c k⟩
def LQ (a:PySem.W.nsIn K mainGlobals x=some (some (.ref f)))(l:K.lookup f=some ⟨oc,od,.func (PySem.W.fnOf x x (D7 st) (o6 st) (c5 st) .none kV doc pm an cdv ct),osl⟩)
 (c:PySem.W.codeIn K cdv x=true) (k:PySem.W.keepIn K (.ref f)=true) (e:cdv=.ref cd) (n:PySem.W.codeHdIn K cd Pt=true):LR K x st Pt:=⟨f,_,cd,a,n,LJ l e c k⟩
def Got.def (g:Got K x st)(X:K.In h)(G:h.Ns mainGlobals mg):eT K mg x st:=let⟨f,fd,a,b⟩:=g;⟨f,fd,PySem.W.mg_of X G a,b⟩
def LR.def (g:LR K x st Pt)(X:K.In h)(G:h.Ns mainGlobals mg):QG K mg x st Pt:=let⟨f,fd,cd,a,b⟩:=g;⟨f,fd,cd,PySem.W.mg_of X G a,b⟩
def N2 (h1:sc.kind=.function:=by rfl)(h2:sc.isCoroutine=false:=by rfl)(h3:sc.isGenerator=false:=by rfl)(h4:N.Nodup:=by decide+kernel)(h5:N.take ps.length=ps:=by rfl)(h6:∀x∈ps,sc.names.lookup x=some .local\/sc.names.lookup x=some .cell:=by decide+kernel)(h7:∀y∈sc.names,y.2≠.free:=by decide+kernel):FnScope N ps sc:=⟨h1,h2,h3,h4,h5,h6,h7⟩
variable [Tabs]
def p8 (g:eT K mg x st)(S:FnScope N ps (c5 st))(hb:∀{f:Addr} {cdv:Value} {A:Around} {outer:List Env} {s:Shared} {H:Hp} {E:XK},Room k (A.deeper (aEr x (c5 st) s.heap.objs.size f cdv))->(A.deeper (aEr x (c5 st) s.heap.objs.size f cdv)).units+64<cLine->(A.deeper (aEr x (c5 st) s.heap.objs.size f cdv)).units+130<cLine->N.Nodup->
  U6 (MI P w K mg base N x (c5 st) f cdv A outer s H E) (o6 st) F) (hm:∀ds d,ds.length=ps.length->m ds=.ok d->N4 (F (i6 N ds))=.ok d) (zb:∀(kV doc pm:Value) (an:Option Addr) (cdv ct:Value) (us:List Value),us.length=ps.length->bindArgs (PySem.W.fnOf x x (D7 st) (o6 st) (c5 st) .none kV doc pm an cdv ct) ⟨us,[]⟩=pure (ps.zip us):=by
  intro _ _ _ _ _ _ us hl;rcases us with _|⟨_,_|⟨_,_|⟨_,_|⟨_,_|⟨_,_|⟨_,_|⟨_,_⟩⟩⟩⟩⟩⟩⟩<;>first|rfl|exact absurd hl (by simp)):z9 P w K mg base (k+1) x ps.length m:=by
 obtain⟨f,fd,jl,F0⟩:=g;exact QT F0 S (F0.binds zb) jl (λcdv A outer s H E hr=>hb hr hr.units hr.ae4 S.nd) hm
end
end DL
namespace DL
open PySem L2
variable [Tabs]
end DL
namespace M
open PySem L2 DL
variable [Tabs]
def yw:D->Bool
 |.int i=>decide (0<=i)&&decide (i<=2)
 |_=>false
def tz (f:Int):List D:=[.int (-1),.int 3,.int (3+f),.int (-1-f),.bl true,.bl false,.non,.str "1",.tup [.int 0],.lst [.int 0],.str "0",.str "2",.str "",.str "x",.lst [],.lst [.int 1],.tup [],.tup [.int 0,.int 1],.dct,.dct]
def rE (h:E6 d<=40):EJ d d=.ok (.bl false):=by unfold EJ;rw[if_pos ⟨h,h⟩,T0];rfl
def qW (pts:List G.V):E6 (.lst (pts.map vd))<=40:=by
 rw[E6];have:∀pts:List G.V,G3 (pts.map vd)<=1:=λpts=>by
  induction pts with
  |nil=>simp[G3]
  |cons P pts ih=>rw[aAs,G3];exact Nat.max_le.mpr ⟨by simp[E6,G3],ih⟩
 have:=this pts
 lia
def rM {J:Ev->Prop}(h1:r=.ok (.nx ρ))(h2:∃ρ2,F ρ=.ok (.nx ρ2)/\J ρ2):∃ρ2,B5 r F=.ok (.nx ρ2)/\J ρ2:=by rw[h1];exact h2
def uw:aM [.int 4]=.ok (.lst [.int 4]):=rfl
end M
namespace M
open PySem L2 DL
variable [Tabs]
def sW (k:Int):Int:=6*k*k+5*k+8
def bZ:List D->R D
 |[.lst xs,.int k]=>if 0<=k/\k<=1000 then .ok (nW sW xs k)else .bad
 |_=>.bad
def cJ (xs:List D)(k:Int):Int:=match nW sW xs k with
 |.int i=>i
 |_=>0
def EY (hi:lG 1048576 xs)(k:Int)(h0:0<=k)(h1:k<=100):bZ [.lst xs,.int k]=.ok (.int (cJ xs k))/\bits (cJ xs k)<=2000000:=by
 obtain⟨c,e,hb⟩:=CT hi sW k;have ec:cJ xs k=c:=by unfold cJ;rw[e]
 rw[ec];refine⟨(if_pos ⟨h0,by lia⟩).trans (congrArg R.ok e),?_⟩;rcases hb with hb|rfl
 ·exact X0 hb
 ·unfold sW;have k2:0<=k*k:=aDP h0 h0;have k3:k*k<=100*100:=Int.mul_le_mul h1 h1 h0 (by decide);rw[aFY];exact n6 (q8 (n:=30) (by lia) (by lia)) (by decide)
def wl (v:G.V):D:=.lst [.int v.x,.int v.y,.int v.z]
def dw (c w:Int):G.V:=⟨c.fmod w-w.fdiv 2,(c.fdiv w).fmod w-w.fdiv 2,(c.fdiv<|w*w).fmod w-w.fdiv 2⟩
def XG (w:Int):Prop:=w=7\/w=2001\/w=2000000001\/w=200000000000000000001
def IK (hw:XG w):Sz 80 (dw c w):=by have h1:=λc=>A2 (a:=c) (b:=w) (by rcases hw with rfl|rfl|rfl|rfl<;>decide);have a1:=h1 c;have a2:=h1 (c.fdiv w);have a3:=h1 (c.fdiv<|w*w);have hf:w.fdiv 2=w/2:=aEv _ (by decide);unfold dw;rw[hf];clear h1;refine⟨q8 ?_ ?_,q8 ?_ ?_,q8 ?_ ?_⟩<;>dsimp only<;>rcases hw with rfl|rfl|rfl|rfl<;>lia
open Classical in
def dP:List D->R D
 |[.int c,.int w]=>if bits c<=5000000/\XG w then .ok (wl (dw c w))else .bad
 |_=>.bad
def AL (hc:bits c<=5000000)(hw:XG w):dP [.int c,.int w]=.ok (wl (dw c w)):=if_pos ⟨hc,hw⟩
def HD (c:Int)(at_ j:Nat):Int:=(c.fdiv<|5+7*(at_:Int)+(j:Int)).fmod 5-2
def lL (P:G.V)(t:Int)(w:G.V):G.V:=⟨P.x+t*w.x,P.y+t*w.y,P.z+t*w.z⟩
def DK (c:Int)(b:G.V)(ws:List G.V)(at_:Nat):G.V:=match ws with
 |[]=>b
 |[u]=>lL b (HD c at_ 0) u
 |u::v::_=>lL (lL b (HD c at_ 0) u) (HD c at_ 1) v
def lE (c:Int)(b:G.V)(ws:List G.V)(n:Nat):List G.V:=(aBb n).map (DK c b ws)
def X3 (c:Int)(a j:Nat):-2<=HD c a j/\HD c a j<=2:=by
 have:=A2 (a:=c.fdiv (5+7*(a:Int)+(j:Int))) (b:=5) (by decide);unfold HD
 lia
def qJ (ht:-2<=t/\t<=2)(hP:Sz n P)(hw:Sz n w):Sz (n+4) (lL P t w):=by have tb:bits t<=3:=q8 (by lia) (by lia);have go:∀{x y:Int},bits x<=n->bits y<=n->bits (x+t*y)<=n+4:=λh1 h2=>n6 (bits_add (n6 h1<|aFr n 3)<|bits_mul tb h2) (by lia);exact⟨go hP.1 hw.1,go hP.2.1 hw.2.1,go hP.2.2 hw.2.2⟩
def SN (hb:Sz 80 b)(hw:∀w∈ws,Sz 80 w)(a:Nat):Sz 100 (DK c b ws a):=by
 unfold DK;split
 ·exact hb.mono
 ·exact(qJ (X3 ..) hb (hw _ (by simp))).mono
 ·exact(qJ (X3 ..) (qJ (X3 ..) hb (hw _ (by simp))) ((hw _ (by simp)).mono (n:=84))).mono
def IT (h2:ws.length<=2):¬G.n4 (lE c b ws n):=by
 rintro⟨A,hA,B,hB,C,hC,E,hE,hd⟩;obtain⟨u,v,huv⟩:∃u v:G.V,∀a,∃s t:Int,DK c b ws a=lL (lL b s u) t v:=by
  match ws,h2 with
  |[],_=>exact⟨0,0,λa=>⟨0,0,by simp[DK,lL]⟩⟩
  |[u],_=>exact⟨u,0,λa=>⟨HD c a 0,0,by simp[DK,lL]⟩⟩
  |[u,v],_=>exact⟨u,v,λa=>⟨_,_,rfl⟩⟩
 have go:∀X∈lE c b ws n,∃s t:Int,X=lL (lL b s u) t v:=λX hX=>by obtain⟨a,_,rfl⟩:=aAp.mp hX;exact huv a
 obtain⟨a1,a2,rfl⟩:=go A hA;obtain⟨b1,b2,rfl⟩:=go B hB;obtain⟨c1,c2,rfl⟩:=go C hC;obtain⟨e1,e2,rfl⟩:=go E hE;refine hd ?_;simp[G.f9,G.d8,lL];grind
def jP (c:Int):Nat:=(1+(c.fdiv 12).fmod (if(c.fdiv 108).fmod 4=3 then 40 else 9)).toNat
def J1 (c:Int):Int:=if(c.fdiv 3).fmod 4=0 then 7 else if(c.fdiv 3).fmod 4=1 then 2001 else if(c.fdiv 3).fmod 4=2 then 2000000001 else 200000000000000000001
def kJ (c:Int):XG (J1 c):=by
 unfold J1 XG;split
 ·exact .inl rfl
 ·split
  ·exact .inr (.inl rfl)
  ·split
   ·exact .inr (.inr (.inl rfl))
   ·exact .inr (.inr (.inr rfl))
def qI (c:Int):1<=jP c/\jP c<=40/\((jP c:Nat):Int)=1+(c.fdiv 12).fmod (if(c.fdiv 108).fmod 4=3 then 40 else 9):=by
 unfold jP;split
 ·have:=A2 (a:=c.fdiv 12) (b:=40) (by decide);lia
 ·have:=A2 (a:=c.fdiv 12) (b:=9) (by decide);lia
structure Drawn (pts:List G.V):Prop where
 ne:pts≠[]
 len:pts.length<=40
 sz:∀P∈pts,Sz 100 P
 flat:¬G.n4 pts
def iY (xs:List D)(k:Int)(n:Nat):List G.V:=(aBb n).map λ(j:Nat)=>dw ((cJ xs<|k+2+(j:Int)).fdiv (2+(j:Int))+11*k) (J1<|cJ xs k+k)
def lA (xs:List D)(k:Int):G.V:=dw ((cJ xs<|k+1).fdiv 3+5*k) (J1<|cJ xs k+k)
def dE (xs:List D)(k:Int):List G.V:=lE (cJ xs k+k) (lA xs k) (iY xs k ((cJ xs k+k).fmod 3).toNat) (jP<|cJ xs k+k)
def AZ:∀w∈iY xs k n,Sz 80 w:=λw hw=>by obtain⟨j,_,rfl⟩:=aAp.mp hw;exact IK (kJ _)
def vL:(iY xs k n).length=n:=by unfold iY;rw[aAl,aDO]
def wM (xs:List D)(k:Int):Drawn (dE xs k)where
 ne:=λz=>by
  have h1:=(qI<|cJ xs k+k).1;have:=congrArg aFO z;unfold dE lE at this;rw[aAl,aDO]at this;simp at this
  lia
 len:=by unfold dE lE;rw[aAl,aDO];exact(qI _).2.1
 sz:=λP hP=>by obtain⟨a,_,rfl⟩:=aAp.mp hP;exact SN (IK<|kJ _) AZ a
 flat:=IT (by
  rw[vL];have:=A2 (a:=cJ xs k+k) (b:=3) (by decide)
  lia)
open Classical in
def qY:List D->R D
 |[.lst xs,.int k]=>if lG 1048576 xs/\0<=k/\k<=60 then .ok (.lst ((dE xs k).map vd))else .bad
 |_=>.bad
open Classical in
def F5:List D->R D
 |[.lst xs]=>match A4 xs with
  |some pts=>if pts=[]\/(R8 1000 pts/\¬G.n4 pts)then .ok (.bl false)else if R8 900 pts/\G.n4 pts/\(i8 pts).length<=14/\pts.length<=60 then .ok (.bl (decide (A1 pts=pts)))else .bad
  |none=>.bad
 |_=>.bad
def jM (cN:Addr):List D->Option Value
 |[.lst []]=>some (.ref cN)
 |_=>none
open Classical in
def M0 (cF cN:Addr):List D->Option Value
 |[.lst []]=>some (.ref cN)
 |[.lst xs]=>match A4 xs with
  |some pts=>if R8 1000 pts/\¬G.n4 pts then some (.ref cF)else none
  |none=>none
 |_=>none
def QF (pts:List G.V):G.G4 pts<=3:=by
 unfold G.G4;split
 ·decide
 ·dsimp only;split
  ·decide
  ·split
   ·decide
   ·split<;>decide
def IJ (h:¬G.n4 pts):G.G4 pts<3:=by
 have h1:=QF pts;have h2:G.G4 pts≠3:=λe=>h (G.pF e)
 lia
def BE (h1:R8 1000 pts)(h:pts≠[]):j8 [.lst (pts.map vd)]=.ok (.int (G.G4 pts)):=by simp only[j8,o5];exact if_pos ⟨h,h1⟩
def CW (h1:R8 1000 pts)(hn:pts≠[])(hs:¬G.n4 pts):M0 cF cN [.lst (pts.map vd)]=some (.ref cF):=by
 match pts,hn with
 |P::pts,_=>show(match A4 ((P::pts).map vd)with|some pts=>_|none=>_)=_;rw[o5];exact if_pos ⟨h1,hs⟩
open Classical in
def BG (h:M0 cF cN [.lst xs]=some C):(xs=[]/\C=.ref cN)\/∃pts,xs=pts.map vd/\pts≠[]/\R8 1000 pts/\¬G.n4 pts/\C=.ref cF:=by
 cases xs with
 |nil=>cases h;exact .inl ⟨rfl,rfl⟩
 |cons x xs=>
  have h:(match A4 (x::xs)with|some pts=>if R8 1000 pts/\¬G.n4 pts then some (aCJ cF)else none|none=>none)=some C:=h;split at h
  ·rename_i pts hw;split at h
   ·rename_i hz;cases h;refine .inr ⟨pts,m5 hw,λz=>?_,hz.1,hz.2,rfl⟩;rw[z]at hw;have:=m5 hw;cases this
   ·cases h
  ·cases h
def jC:D:=.lst [.bl true,.bl true,.bl false,.bl false,.bl false,.bl false,.bl false,.bl false,.bl false]
def jQ:D:=.lst [.bl true,.bl false,.bl true,.bl false,.bl false,.bl false,.bl false,.bl false,.bl false]
open Classical in
def S4:List D->R D
 |[.int a,.lst []]=>if 0<=a/\a<3 then .ok jQ else .bad
 |[.int a,.lst xs]=>match A4 xs with
  |some pts=>if(a=0\/a=1)/\R8 1000 pts/\¬G.n4 pts then .ok jC else .bad
  |none=>.bad
 |_=>.bad
def xV (ha:a=0\/a=1)(h1:R8 1000 pts)(hn:pts≠[])(hs:¬G.n4 pts):S4 [.int a,.lst (pts.map vd)]=.ok jC:=by
 match pts,hn with
 |P::pts,_=>show(match A4 ((P::pts).map vd)with|some pts=>_|none=>_)=_;rw[o5];exact if_pos ⟨ha,h1,hs⟩
def JT (h:S4 ds=.ok d):∃a xs,ds=[.int a,.lst xs]/\((xs=[]/\0<=a/\a<3/\d=jQ)\/∃pts,xs=pts.map vd/\pts≠[]/\(a=0\/a=1)/\R8 1000 pts/\¬G.n4 pts/\d=jC):=by
 unfold S4 at h;split at h
 ·split at h
  ·rename_i hz;cases h;exact⟨_,_,rfl,.inl ⟨rfl,hz.1,hz.2,rfl⟩⟩
  ·cases h
 ·rename_i a xs hx;split at h
  ·rename_i pts hw;split at h
   ·rename_i hz;cases h;refine⟨_,_,rfl,.inr ⟨pts,m5 hw,λz=>?_,hz.1,hz.2.1,hz.2.2,rfl⟩⟩;rw[z]at hw;exact hx (m5 hw)
   ·cases h
  ·cases h
 ·cases h
def O6 (P:G.V)(r:List G.V):List G.V:=(P::r).take 9++[⟨P.x+1,P.y,P.z⟩,⟨P.x,P.y+1,P.z⟩,⟨P.x,P.y,P.z+1⟩]
def NJ {P:G.V}{r:List G.V}(h:Drawn (P::r)):∃B:List G.V,J3 [.lst ((O6 P r).map vd)]=.ok (.lst (B.map vd))/\F5 [.lst (B.map vd)]=.ok (.bl true)/\j8 [.lst ((O6 P r).map vd)]=.ok (.int 3):=by
 have sP:=h.sz P (by simp);have sz:∀X∈O6 P r,Sz 101 X:=λX hX=>by
  rcases aAS.mp hX with hX|hX
  ·exact(h.sz X<|aFH hX).mono
  ·simp only[aAe,aAG,or_false]at hX;have o:bits (1:Int)<=100:=by decide
   have ad:∀{x:Int},bits x<=100->bits (x+1)<=101:=λhx=>bits_add hx o;have up:∀{x:Int},bits x<=100->bits x<=101:=λhx=>n6 hx (by decide);rcases hX with rfl|rfl|rfl
   ·exact⟨ad sP.1,up sP.2.1,up sP.2.2⟩
   ·exact⟨up sP.1,ad sP.2.1,up sP.2.2⟩
   ·exact⟨up sP.1,up sP.2.1,ad sP.2.2⟩
 have ln:(O6 P r).length<=12:=by
  unfold O6;rw[aAz,aBj];simp
  lia
 have s9:R8 900 (O6 P r):=⟨λX hX=>(sz X hX).mono,by lia⟩;have so:G.n4 (O6 P r):=by
  refine⟨P,?_,⟨P.x+1,P.y,P.z⟩,?_,⟨P.x,P.y+1,P.z⟩,?_,⟨P.x,P.y,P.z+1⟩,?_,?_⟩
  ·unfold O6;simp
  ·unfold O6;simp
  ·unfold O6;simp
  ·unfold O6;simp
  ·simp[G.f9,G.d8];grind
 have sl:(i8<|O6 P r).length<=14:=aAx (yC _) (by lia);obtain⟨b1,b2,b3,b4,b5,_⟩:=BI s9 so sl;refine⟨A1 (O6 P r),BC s9 so sl,?_,?_⟩
 ·simp only[F5,o5];have hn:A1 (O6 P r)≠[]:=λz=>by obtain⟨A,hA,_⟩:=b1;rw[z]at hA;cases hA
  rw[if_neg (λz=>z.elim hn λw=>w.2 b1),if_pos ⟨b2,b1,by rw[b3];exact b4,by lia⟩,decide_eq_true b5]
 ·rw[BE (s9.mono (n:=1000)) (λz=>by obtain⟨A,hA,_⟩:=so;rw[z]at hA;cases hA),wV so]
  rfl
def DO (h:Drawn pts):F5 [.lst (pts.map vd)]=.ok (.bl false):=by simp only[F5,o5];exact if_pos (.inr ⟨⟨λP hP=>(h.sz P hP).mono,by have:=h.len;lia⟩,h.flat⟩)
def GF:F5 [.lst []]=.ok (.bl false):=by simp only[F5,A4];exact if_pos (.inl rfl)
def RD (xs:List D):mS (.lst xs) none (some 9)=.ok (.lst (xs.take 9)):=by
 have h:=RQ xs 0 9 (by decide);have e:mS (.lst xs) none (some 9)=mS (.lst xs) (some ((0:Nat):Int)) (some ((9:Nat):Int)):=by show R.ok (D.lst<|cutD xs none<|some 9)=R.ok (D.lst<|cutD xs (some 0)<|some 9);unfold cutD;rw[HT.sIx_none];rfl
 rw[e,h];rfl
theorem BF:∀a b:List G.V,R3 (a.map vd) (b.map vd)=decide (a=b)
 |[],[]=>rfl
 |[],_::_=>rfl
 |_::_,[]=>rfl
 |P::a,Q::b=>by rw[aAs,aAs,R3,BF a b];obtain⟨x,y,z⟩:=P;obtain⟨x',y',z'⟩:=Q;simp[u0,R3,Bool.and_assoc];rfl
def TY (a b:List G.V):FN (.lst (a.map vd)) (.lst (b.map vd))=.ok (.bl (decide (a=b))):=by unfold FN;rw[if_pos ⟨qW a,qW b⟩,u0,BF]
open Classical in
def fX:List D->R D
 |[.lst xs]=>if xs.length<=63/\lG 1048576 xs then .ok (.bl true)else .bad
 |_=>.bad
end M
namespace DL
open PySem PySem.Spec L2
open PyProof.Rows hiding St
variable [Tabs]
section
abbrev vZ (X:Cx)(e:Expr)(es:List Expr):Prop:=starEach (e::es) X.env=(false,eval e X.env)::starEach es X.env
def J5 {i:Int}{j}:PB X (.Constant (.int i) j pos) (NG (.int i)):=d7.pb
def sE {e1:Expr}{f1:Ev->R D}(c:z9 X.prog X.w X.K X.mg X.base k x 1 m)(hr:Room k' X.A)(a1:PD X e1 f1)(hk:k<=k':=by decide)(s1:vZ X e1 []:=by rfl)(hg:Gl X x:=by rfl)(dh:(x==("__debug__":Str))=false:=by decide)(br:(backTo pos (starEach [] X.env)).any (·.1)=false:=by rfl):
 PD X (.Call (.Name x p) [e1] [] pos) (λρ=>((p5 f1 U5) ρ).bind m):=rS c (hr.mono hk) (c9 a1 j4 s1) (o8 C7) hg dh s1 br
def cW {e1 e2:Expr}{f1 f2:Ev->R D}(c:z9 X.prog X.w X.K X.mg X.base k x 2 m)(hr:Room k' X.A)(a1:PD X e1 f1)(a2:PD X e2 f2)(hk:k<=k':=by decide)(s1:vZ X e1 [e2]:=by rfl)(s2:vZ X e2 []:=by rfl)(hg:Gl X x:=by rfl)(dh:(x==("__debug__":Str))=false:=by decide)(br:(backTo pos (starEach [e2] X.env)).any (·.1)=false:=by rfl):
 PD X (.Call (.Name x p) [e1,e2] [] pos) (λρ=>((p5 f1 (p5 f2 U5)) ρ).bind m):=rS c (hr.mono hk) (c9 a1 (c9 a2 j4 s2) s1) (o8<|o8 C7) hg dh s1 br
def xx {e1 e2 e3:Expr}{f1 f2 f3:Ev->R D}(c:z9 X.prog X.w X.K X.mg X.base k x 3 m)(hr:Room k' X.A)(a1:PD X e1 f1)(a2:PD X e2 f2)(a3:PD X e3 f3)(hk:k<=k':=by decide)(s1:vZ X e1 [e2,e3]:=by rfl)(s2:vZ X e2 [e3]:=by rfl)(s3:vZ X e3 []:=by rfl)(hg:Gl X x:=by rfl)(dh:(x==("__debug__":Str))=false:=by decide)(br:(backTo pos (starEach [e2,e3] X.env)).any (·.1)=false:=by rfl):
 PD X (.Call (.Name x p) [e1,e2,e3] [] pos) (λρ=>((p5 f1 (p5 f2 (p5 f3 U5))) ρ).bind m):=rS c (hr.mono hk) (c9 a1 (c9 a2 (c9 a3 j4 s3) s2) s1) (o8<|o8<|o8 C7) hg dh s1 br
def xy {e1 e2 e3 e4:Expr}{f1 f2 f3 f4:Ev->R D}(c:z9 X.prog X.w X.K X.mg X.base k x 4 m)(hr:Room k' X.A)(a1:PD X e1 f1)(a2:PD X e2 f2)(a3:PD X e3 f3)(a4:PD X e4 f4)(hk:k<=k':=by decide)(s1:vZ X e1 [e2,e3,e4]:=by rfl)(s2:vZ X e2 [e3,e4]:=by rfl)(s3:vZ X e3 [e4]:=by rfl)(s4:vZ X e4 []:=by rfl)(hg:Gl X x:=by rfl)(dh:(x==("__debug__":Str))=false:=by decide)(br:(backTo pos (starEach [e2,e3,e4] X.env)).any (·.1)=false:=by rfl):
 PD X (.Call (.Name x p) [e1,e2,e3,e4] [] pos) (λρ=>((p5 f1 (p5 f2 (p5 f3 (p5 f4 U5)))) ρ).bind m):=rS c (hr.mono hk) (c9 a1 (c9 a2 (c9 a3 (c9 a4 j4 s4) s3) s2) s1) (o8<|o8<|o8<|o8 C7) hg dh s1 br
def XY {e1 e2:Expr}{f1 f2:Ev->R D}{j}(a1:PD X e1 f1)(a2:PD X e2 f2)(s1:vZ X e1 [e2]:=by rfl)(s2:vZ X e2 []:=by rfl):PD X (.Tuple [e1,e2] j pos) (λρ=>((p5 f1 (p5 f2 U5)) ρ).bind nK):=wJ (c9 a1 (c9 a2 j4 s2) s1)
def TJ {e1 e2 e3:Expr}{f1 f2 f3:Ev->R D}{j}(a1:PD X e1 f1)(a2:PD X e2 f2)(a3:PD X e3 f3)(s1:vZ X e1 [e2,e3]:=by rfl)(s2:vZ X e2 [e3]:=by rfl)(s3:vZ X e3 []:=by rfl):PD X (.Tuple [e1,e2,e3] j pos) (λρ=>((p5 f1 (p5 f2 (p5 f3 U5))) ρ).bind nK):=wJ (c9 a1 (c9 a2 (c9 a3 j4 s3) s2) s1)
def KN {id:String}{g:List D->R D}{e:Expr}{f:Ev->R D}(hc:bN X (.builtin id) g)(a:PB X e f)(hg:Gl X x:=by rfl)(hm:X.mg x=none:=by assumption)(hv:bootBuiltins x=some (.builtin id):=by decide+kernel)(hn:x≠ "__name__":=by decide)(dh:(x==("__debug__":Str))=false:=by decide)(s1:vZ X e []:=by rfl)(br:(backTo pos (starEach [] X.env)).any (·.1)=false:=by rfl):
 PD X (.Call (.Name x p) [e] [] pos) (λρ=>(p5 f U5 ρ).bind g):=fC hc (v6 a F6 s1) hg hm hv hn dh s1 br
def UK {fr:List Str}{scope:Scope}{tp:Pos}{elt:Expr}{fe:Ev->R D}(h:∀pins fp s0 H1 C,PD (EL X pins s0 H1 ([x]++fr) scope (cH X scope C) C fp) elt fe)(nd:([x]++fr).Nodup:=by decide+kernel)(hx:Loc (relabel scope X.env) x:=by first|exact aCt rfl|exact aBy rfl)(hf:(scope.names.lookup x==some .cell)=true\/(relabel scope X.env).names.lookup x=some .local:=by first|exact .inl rfl|exact .inr rfl):
  ∀(pins:K7) (fp:List Addr) (X':Cx),(∃se Hb C,X'=EL X pins se Hb ([x]++fr) scope (cH X scope C) C fp)->KP X' (.Name x tp) (λd ρ=>.ok (ρ.set 0 (.v d)))/\QA X' [] (λ_=>.ok true)/\PD X' elt fe:=by
 rintro pins fp X2 ⟨s0,H1,C,rfl⟩;exact⟨y6 0 nd rfl hx hf,NE,h pins fp s0 H1 C⟩
def xj {fr:List Str}{scope:Scope}{tp:Pos}{elt c:Expr}{fe:Ev->R D}{ft:Ev->R Bool}(h:∀pins fp s0 H1 C,wC (EL X pins s0 H1 ([x]++fr) scope (cH X scope C) C fp) c ft/\PD (EL X pins s0 H1 ([x]++fr) scope (cH X scope C) C fp) elt fe)(nd:([x]++fr).Nodup:=by decide+kernel)(hx:Loc (relabel scope X.env) x:=by first|exact aCt rfl|exact aBy rfl)(hf:(scope.names.lookup x==some .cell)=true\/(relabel scope X.env).names.lookup x=some .local:=by first|exact .inl rfl|exact .inr rfl):
  ∀(pins:K7) (fp:List Addr) (X':Cx),(∃se Hb C,X'=EL X pins se Hb ([x]++fr) scope (cH X scope C) C fp)->KP X' (.Name x tp) (λd ρ=>.ok (ρ.set 0 (.v d)))/\QA X' [c] ft/\PD X' elt fe:=by
 rintro pins fp X2 ⟨s0,H1,C,rfl⟩;exact⟨y6 0 nd rfl hx hf,MN (h pins fp s0 H1 C).1,(h pins fp s0 H1 C).2⟩
end
end DL
namespace K16
open PySem L2 DL M
def jN (i:Nat):Stmt:=PySem.Challenge.pw_stakebodies_k16_bodies_refused.main.body.getD i (.Pass ⟨0,0,0,0⟩)
abbrev W3:Stmt:=jN 11
abbrev nH:List Str:=["P", "Q"]
def lX:FnScope nH ["P", "Q"] (c5 W3):=N2
abbrev dN:Stmt:=jN 12
abbrev xS:List Str:=["u", "v"]
def uU:FnScope xS ["u", "v"] (c5 dN):=N2
abbrev aJ:Stmt:=jN 13
abbrev qZ:List Str:=["u", "v"]
def nE:FnScope qZ ["u", "v"] (c5 aJ):=N2
abbrev L6:Stmt:=jN 14
abbrev iM:List Str:=["numbers", "divisor", "number", "rest", "further"]
def fP:FnScope iM ["numbers"] (c5 L6):=N2
abbrev P1:Stmt:=jN 15
abbrev jR:List Str:=["P", "Q", "R", "cross", "divisor", "upright"]
def iT:FnScope jR ["P", "Q", "R"] (c5 P1):=N2
abbrev iV:Stmt:=jN 16
abbrev BN:List Str:=["plane", "P", "height"]
def wP:FnScope BN ["plane", "P"] (c5 iV):=N2
abbrev L9:Stmt:=jN 19
abbrev iA:List Str:=["ways", "way"]
def eU:FnScope iA ["ways"] (c5 L9):=N2
abbrev w9:Stmt:=jN 20
abbrev J9:List Str:=["points", "ways", "along", "upright"]
def P9:FnScope J9 ["points"] (c5 w9):=N2
abbrev M7:Stmt:=jN 21
abbrev nS:List Str:=["points"]
def S9:FnScope nS ["points"] (c5 M7):=N2
abbrev U9:Stmt:=jN 22
abbrev iZ:List Str:=["plane", "points"]
def pZ:FnScope iZ ["plane", "points"] (c5 U9):=N2
abbrev V6:Stmt:=jN 23
abbrev mY:List Str:=["pair", "points", "along", "upright", "outermost", "P", "way"]
def lO:FnScope mY ["pair", "points"] (c5 V6):=N2
abbrev Y9:Stmt:=jN 24
abbrev rF:List Str:=["points", "least", "upward", "touched"]
def nI:FnScope rF ["points"] (c5 Y9):=N2
abbrev iH:Stmt:=jN 25
abbrev BW:List Str:=["upright", "P", "Q", "R"]
def yK:FnScope BW ["upright", "P", "Q", "R"] (c5 iH):=N2
abbrev Z5:Stmt:=jN 26
abbrev qB:List Str:=["upright", "points", "chain", "P"]
def nG:FnScope qB ["upright", "points"] (c5 Z5):=N2
abbrev gP:Stmt:=jN 27
abbrev CK:List Str:=["upright", "points", "there", "back"]
def yL:FnScope CK ["upright", "points"] (c5 gP):=N2
abbrev V8:Stmt:=jN 28
abbrev mV:List Str:=["ring"]
def lU:FnScope mV ["ring"] (c5 V8):=N2
abbrev aH:Stmt:=jN 29
abbrev rK:List Str:=["first", "about", "touched_by", "faces", "walked", "waiting", "pair", "plane", "ring", "step"]
def cP:FnScope rK ["first", "about", "touched_by"] (c5 aH):=N2
abbrev F3:Stmt:=jN 30
abbrev cS:List Str:=["points", "spread", "about", "touched_by"]
def V3:FnScope cS ["points"] (c5 F3):=N2
abbrev Z9:Stmt:=jN 31
abbrev rJ:List Str:=["faces", "corners", "plane", "ring"]
def nN:FnScope rJ ["faces"] (c5 Z9):=N2
abbrev bX:Stmt:=jN 32
abbrev DB:List Str:=["points"]
def dZ:FnScope DB ["points"] (c5 bX):=N2
abbrev iL:Stmt:=jN 33
abbrev BZ:List Str:=["points"]
def xD:FnScope BZ ["points"] (c5 iL):=N2
abbrev aP:Stmt:=jN 35
abbrev uJ:List Str:=["script", "k"]
def pN:FnScope uJ ["script", "k"] (c5 aP):=N2
abbrev K9:Stmt:=jN 39
abbrev gI:List Str:=["cell", "wide"]
def fA:FnScope gI ["cell", "wide"] (c5 K9):=N2
abbrev N7:Stmt:=jN 40
abbrev aZ:List Str:=["script", "k", "cell", "wide", "base", "ways", "found", "at", "point", "j", "times"]
def qN:FnScope aZ ["script", "k"] (c5 N7):=N2
abbrev Z0:Stmt:=jN 41
abbrev rR:List Str:=["ask", "points", "kinds", "e"]
def nQ:FnScope rR ["ask", "points"] (c5 Z0):=N2
abbrev fI:Stmt:=jN 42
abbrev WC:List Str:=["script", "k", "points", "handed", "x", "y", "z", "more"]
def HW:FnScope WC ["script"] (c5 fI):=N2
def aV:Stmt:=(o6 F3).getD 2 (.Pass ⟨0,0,0,0⟩)
abbrev BD:Str:= "faces_of.<locals>.about"
def G8:Stmt:=(o6 F3).getD 3 (.Pass ⟨0,0,0,0⟩)
abbrev eY:Str:= "faces_of.<locals>.touched_by"
def tbK:List (Pos×Str):=[(BB aV,BD),(BB G8,eY)]
section
variable [Tabs]
variable{P:Program} {w:World} {K:PySem.W.Frag} {mg:V5} {base:Heap}
variable{ae af aa cp cu dc de dn au:Addr}
def n9 (g:eT K mg "way_between" W3):z9 P w K mg base 1 "way_between" 2 u4:=by
 refine' p8 (k:=0) (F:=_) g lX (λhr hu jb nd=>?b) λds d hl h=>?_
 case b=>refine' (d5<|i9<|TJ (d4 T1 (PD.pb<|j3 (b9 1) d7)<|PD.pb<|j3 (b9 0) d7) (d4 T1 (PD.pb<|j3 (b9 1) d7)<|PD.pb<|j3 (b9 0) d7)<|d4 T1 (PD.pb<|j3 (b9 1) d7)<|PD.pb<|j3 (b9 0) d7)
 replace h:=N6 h;obtain⟨a,b,c,ds,rfl,h⟩:=h;replace h:=N6 h;obtain⟨a',b',c',ds,rfl,h⟩:=h;replace h:=T6 h;obtain⟨rfl,h⟩:=h;exact h
def C1 (g:eT K mg "cross_of" dN):z9 P w K mg base 1 "cross_of" 2 C0:=by
 refine' p8 (k:=0) (F:=_) g uU (λhr hu jb nd=>?b) λds d hl h=>?_
 case b=>refine' (d5<|i9<|TJ (d4 T1 (PD.pb<|d4 y8 (PD.pb<|j3 (b9 0) d7)<|PD.pb<|j3 (b9 1) d7)<|PD.pb<|d4 y8 (PD.pb<|j3 (b9 0) d7)<|PD.pb<|j3 (b9 1) d7) (d4 T1 (PD.pb<|d4 y8 (PD.pb<|j3 (b9 0) d7)<|PD.pb<|j3 (b9 1) d7)<|PD.pb<|d4 y8 (PD.pb<|j3 (b9 0) d7)<|PD.pb<|j3 (b9 1) d7)<|d4 T1 (PD.pb<|d4 y8 (PD.pb<|j3 (b9 0) d7)<|PD.pb<|j3 (b9 1) d7)<|PD.pb<|d4 y8 (PD.pb<|j3 (b9 0) d7)<|PD.pb<|j3 (b9 1) d7)
 replace h:=N6 h;obtain⟨a,b,c,ds,rfl,h⟩:=h;replace h:=N6 h;obtain⟨a',b',c',ds,rfl,h⟩:=h;replace h:=T6 h;obtain⟨rfl,h⟩:=h;split at h
 ·rename_i hz;obtain⟨⟨h1,h2,h3⟩,h4,h5,h6⟩:=hz;rw[<-h];simp[i6,i7 (p6.of h2 h6),i7 (p6.of h3 h5),i7 (p6.of h3 h4),i7 (p6.of h1 h6),i7 (p6.of h1 h5),i7 (p6.of h2 h4)]
 ·cases h
def v8 (g:eT K mg "product_of" aJ):z9 P w K mg base 1 "product_of" 2 u3:=by
 refine' p8 (k:=0) (F:=_) g nE (λhr hu jb nd=>?b) λds d hl h=>?_
 case b=>refine' (d5<|i9<|d4 t4 (PD.pb<|d4 t4 (PD.pb<|d4 y8 (PD.pb<|j3 (b9 0) d7)<|PD.pb<|j3 (b9 1) d7)<|PD.pb<|d4 y8 (PD.pb<|j3 (b9 0) d7)<|PD.pb<|j3 (b9 1) d7)<|PD.pb<|d4 y8 (PD.pb<|j3 (b9 0) d7)<|PD.pb<|j3 (b9 1) d7)
 replace h:=WV h;obtain⟨a,b,c,t,ds,rfl,h⟩:=h;replace h:=N6 h;obtain⟨a',b',c',ds,rfl,h⟩:=h;replace h:=T6 h;obtain⟨rfl,h⟩:=h;split at h
 ·rename_i hz;obtain⟨⟨h1,h2,h3⟩,h4,h5,h6⟩:=hz;rw[<-h];simp[i6,VZ,XC,VN,i7 (p6.of h1 h4),i7 (p6.of h2 h5),i7 (p6.of h3 h6)]
 ·cases h
def M1 (b_abs:mg "abs"=none)(g:eT K mg "common_divisor" L6):z9 P w K mg base 1 "common_divisor" 1 B4:=by
 refine' p8 (k:=0) (F:=_) g fP (λhr hu jb nd=>?b) λds d hl h=>?_
 case b=>
  refine' (c6 (j0 1 d7 nd)
   (c6 (R0 aBv rfl (OB<|c7 0) (y6 2 nd) (c6 (j0 3 (KN RY<|b9 2) nd)
   (d5 (gN (VJ 3) aBv (m7 (kK hu) (b9 3) J5) (c6 (j0 4 (d4 P8 (b9 1)<|b9 3) nd)
   (c6 (j0 1 (c7 3) nd)
   (d5<|j0 3 (c7 4) nd)))))))
   (d5<|i9<|c7 1)))
 match ds,h with
 |[.tup [.int a,.int b,.int c]],h=>
  rw[<-h];simp only[i6,aAs,aDR,aBm,aDe,B4];simp only[cK,qS,R.aa0,BR,A9,aAt,aBF,aFZ,aGa,aBh,aEs,aCE,aCF];refine fR (λrest ρ=>∃(g:Nat) (n r f:Sl),ρ=[.v (.tup [.int a,.int b,.int c]),.v (.int g),n,r,f]/\∃ns:List Int,rest=ns.map D.int/\ns.foldl (λg n=>Nat.gcd g n.natAbs) g=G.u9 ⟨a,b,c⟩) ?_ ⟨0,_,_,_,rfl,[a,b,c],rfl,by simp[G.u9]⟩ ?_
  ·rintro d ds ρ ⟨g,n,r,f,rfl,ns,e1,e2⟩;match ns,e1,e2 with
   |x::ns,e1,e2=>
    injection e1 with e3 e4;subst e3 e4;simp only[Z6,aCE,aCF,bI,fH,mH,tR,R.aa0,SL,A9];have ea:(if x<0 then-x else x)=(x.natAbs:Int):=by split<;>lia
    rw[ea];refine uC (λm ρ=>∃(p q:Nat) (f:Sl),ρ=[.v (.tup [.int a,.int b,.int c]),.v (.int p),.v (.int x),.v (.int q),f]/\q<m/\Nat.gcd p q=Nat.gcd g x.natAbs) ?_ (by rintro ρ ⟨p,q,f,_,h,_⟩;lia) ⟨g,x.natAbs,f,rfl,by show x.natAbs<((x.natAbs:Int).natAbs)+2;lia,rfl⟩ ?_
    ·rintro m ρ ⟨p,q,f,rfl,hq,hg⟩;by_cases h0:(q:Int)=0
     ·exact .inl (by simp[h0])
     ·have h1:q≠0:=by lia
      refine .inr ⟨by simp[h1],_,?_,q,p%q,Sl.v (.int ((p%q:Nat):Int)),rfl,?_,?_⟩
      ·have em:aX (.int (p:Int)) (.int (q:Int))=.ok (.int ((p%q:Nat):Int)):=by rw[vV h0,Int.fmod_eq_emod_of_nonneg _ (by lia)];rfl
       simp[em]
      ·have:=aER p (show 0<q by lia)
       lia
      ·rw[Nat.gcd_comm,<-Nat.gcd_rec,Nat.gcd_comm];exact hg
    ·rintro m ρ ⟨p,q,f,rfl,hq,hg⟩ hc;have h0:q=0:=by
      by_cases z:q=0
      ·exact z
      ·simp[z]at hc
     subst h0;refine⟨p,_,_,_,rfl,ns,rfl,?_⟩;rw[<-e2,aEj,<-hg,Nat.gcd_zero_right]
  ·rintro ρ ⟨g,n,r,f,rfl,ns,e1,e2⟩;have:ns=[]:=by simpa using e1.symm
   subst this;simp at e2;simp[e2]
def P7 (C1:z9 P w K mg base 1 "cross_of" 2 C0)(n9:z9 P w K mg base 1 "way_between" 2 u4)(M1:z9 P w K mg base 1 "common_divisor" 1 B4)(v8:z9 P w K mg base 1 "product_of" 2 u3)(g:eT K mg "plane_through" P1):z9 P w K mg base 2 "plane_through" 3 Q0:=by
 refine' p8 (k:=1) (F:=_) g iT (λhr hu jb nd=>?b) λds d hl h=>?_
 case b=>
  refine' (c6 (j0 3 (cW C1 hr (cW n9 hr (c7 0)<|c7 1)<|cW n9 hr (c7 0)<|c7 2) nd)
   (c6 (j0 4 (sE M1 hr<|c7 3) nd)
   (c6 (D5 (m7 (bG hu) (b9 4) J5) (d5 gW) t5)
   (c6 (j0 5 (TJ (d4 D9 (PD.pb<|j3 (b9 3) d7)<|b9 4) (d4 D9 (PD.pb<|j3 (b9 3) d7)<|b9 4)<|d4 D9 (PD.pb<|j3 (b9 3) d7)<|b9 4) nd)
   (d5<|i9<|wJ<|c9 (j3 (b9 5) d7)<|c9 (j3 (b9 5) d7)<|c9 (j3 (b9 5) d7)<|c9 (cW v8 hr (c7 5)<|c7 0) j4)))))
 replace h:=N6 h;obtain⟨a,b,c,ds,rfl,h⟩:=h;replace h:=N6 h;obtain⟨d,e,f,ds,rfl,h⟩:=h;replace h:=N6 h;obtain⟨g,h',i,ds,rfl,h⟩:=h;replace h:=T6 h;obtain⟨rfl,h⟩:=h
 ·skip
  split at h
  ·rename_i hz;obtain⟨⟨p,q,r⟩,hc⟩:=hz;rw[<-h];obtain⟨P,eP⟩:∃P:G.V,P=⟨a,b,c⟩:=⟨_,rfl⟩;obtain⟨Q,eQ⟩:∃P:G.V,P=⟨d,e,f⟩:=⟨_,rfl⟩;obtain⟨R',eR⟩:∃P:G.V,P=⟨g,h',i⟩:=⟨_,rfl⟩;rw[<-eP]at p hc;rw[<-eQ]at q hc;rw[<-eR]at r hc;have vP:(.tup [.int a,.int b,.int c]:D)=vd P:=by rw[eP]
   have vQ:(.tup [.int d,.int e,.int f]:D)=vd Q:=by rw[eQ]
   have vR:(.tup [.int g,.int h',.int i]:D)=vd R':=by rw[eR]
   rw[vP,vQ,vR,<-eP,<-eQ,<-eR];have sc:=(q.sub p).cr (r.sub p);have c1:=fD (u:=Q-P) (v:=R'-P) (q.sub p).mono (r.sub p).mono;obtain⟨g0,g1,g2⟩:=G.iU hc;have gne:((G.u9 (G.cr (Q-P)<|R'-P):Nat):Int)≠0:=by lia
   have gb:uN ((G.u9 (G.cr (Q-P)<|R'-P):Nat):Int):=⟨gne,X0 (DX sc)⟩;have dv:=yT (G.cr (Q-P)<|R'-P);have pl:G.j1 P Q R'=(G.gT (G.cr (Q-P)<|R'-P) (G.u9<|G.cr (Q-P)<|R'-P),G.d8 (G.gT (G.cr (Q-P)<|R'-P)<|G.u9<|G.cr (Q-P)<|R'-P) P):=rfl;rw[pl];generalize hC:G.cr (Q-P) (R'-P)=C at*
   have sn:Sz 2003 (G.gT C<|G.u9 C):=by have f1:=bits_fdiv (b:=(G.u9 C:Int)) sc.1;have f2:=bits_fdiv (b:=(G.u9 C:Int)) sc.2.1;have f3:=bits_fdiv (b:=(G.u9 C:Int)) sc.2.2;rw[kT g0]at f1 f2 f3;exact⟨f1,f2,f3⟩
   have d1:∀t:Int,Q5 (.int t) (.int (G.u9 C:Nat))=.ok (.int (t/(G.u9 C:Nat))):=λt=>by rw[bV gb,kT g0]
   have p2:=kA (u:=G.gT C (G.u9 C)) (v:=P) sn.mono p.mono;have e0:(((G.u9 C:Nat):Int)==0)=false:=by simpa using gne
   simp only[G.gT]at p2;have p2':u3 [.tup [.int (C.x/(G.u9 C:Nat)),.int (C.y/(G.u9 C:Nat)),.int (C.z/(G.u9 C:Nat))],vd P]=_:=p2;simp[i6,c1,dv,e0,d1,p2',G.gT]
  ·cases h
def gO (g:eT K mg "side_of" iV):z9 P w K mg base 1 "side_of" 2 W8:=by
 refine' p8 (k:=0) (F:=_) g wP (λhr hu jb nd=>?b) λds d hl h=>?_
 case b=>
  refine' (c6 (j0 2 (d4 T1 (PD.pb<|d4 t4 (PD.pb<|d4 t4 (PD.pb<|d4 y8 (PD.pb<|j3 (b9 0) d7)<|PD.pb<|j3 (b9 1) d7)<|PD.pb<|d4 y8 (PD.pb<|j3 (b9 0) d7)<|PD.pb<|j3 (b9 1) d7)<|PD.pb<|d4 y8 (PD.pb<|j3 (b9 0) d7)<|PD.pb<|j3 (b9 1) d7)<|PD.pb<|j3 (b9 0) d7) nd)
   (c6 (D5 (m7 AN (b9 2) J5) (d5<|i9 d7) t5)
   (c6 (D5 (m7 sR (b9 2) J5) (d5<|i9<|lC d7) t5)
   (d5<|i9 d7))))
 replace h:=OQ h;obtain⟨a,b,c,d,ds,rfl,h⟩:=h;replace h:=N6 h;obtain⟨x,y,z,ds,rfl,h⟩:=h;replace h:=T6 h;obtain⟨rfl,h⟩:=h
 ·skip
  split at h
  ·rename_i hz;obtain⟨⟨h1,h2,h3⟩,h4,h5,h6⟩:=hz;rw[<-h];obtain⟨t,et⟩:∃t,a*x+b*y+c*z-d=t:=⟨_,rfl⟩;have e0:vX (.int (a*x+b*y+c*z)) (.int d)=.ok (.int t):=by rw[<-et];rfl
   rw[et];unfold sgn;by_cases p:0<t
   ·simp[-eZ,i6,i7 (p6.of h1 h4),i7 (p6.of h2 h5),i7 (p6.of h3 h6),p,e0]
   ·by_cases n:t<0
    ·simp[-eZ,i6,i7 (p6.of h1 h4),i7 (p6.of h2 h5),i7 (p6.of h3 h6),p,n,e0]
    ·simp[-eZ,i6,i7 (p6.of h1 h4),i7 (p6.of h2 h5),i7 (p6.of h3 h6),p,n,e0]
  ·cases h
def F8 (eu:IC K mg "NO_WAY" [0,0,0])(g:eT K mg "first_real_way" L9):z9 P w K mg base 1 "first_real_way" 1 w6:=by
 refine' p8 (k:=0) (F:=_) g eU (λhr hu jb nd=>?b) λds d hl h=>?_
 case b=>
  refine' (c6 (R0 aBv rfl (J8<|c7 0) (y6 1 nd)<|d5<|D5 (m7 (kK hu) (b9 1)<|PD.pb<|qR eu) (d5<|i9<|c7 1) t5)
   (d5<|i9 xB))
 match ds,h with
 |[.lst xs],h=>
  simp only[w6]at h;split at h
  ·rename_i ws hw;rw[m5 hw];rw[<-h];simp[i6];generalize Sl.v (D.lst<|aCY vd ws)=a;generalize Sl.no=b;clear h hw;induction ws generalizing b with
   |nil=>rfl
   |cons v ws ih=>
    rw[aAs,G.y9];by_cases hv:v=0
    ·rw[Z8 (ρ2:=[a,.v (vd v)]) rfl (by simp[-yO,mx,hv]),ih];simp[hv]
    ·rw[qA (x:=vd v) rfl (by simp[-yO,mx,hv])];simp[hv,xP]
  ·cases h
def n8 (n9:z9 P w K mg base 1 "way_between" 2 u4)(F8:z9 P w K mg base 1 "first_real_way" 1 w6)(C1:z9 P w K mg base 1 "cross_of" 2 C0)(v8:z9 P w K mg base 1 "product_of" 2 u3)(dg:mg "len"=none)(b_any:mg "any"=none)(g:eT K mg "dimension_of" w9):z9 P w K mg base 2 "dimension_of" 1 j8:=by
 refine' p8 (k:=1) (F:=_) g P9 (λhr hu jb nd=>?b) λds d hl h=>?_
 case b=>
  refine' (c6 (D5 (m7 (bG hu) (PD.pb<|KN bJ<|b9 0) J5) (d5 gW) t5)
   (c6 (IG 1 ["P"] ["points"] [0] nd rfl (iN (sc:=c5 w9) (N:=J9)) (J8<|c7 0) (UK λ_ _ _ _ _=>(cW n9 hr (j3 (b9 1) d7)<|c7 0))<|λ_=>M2)
   (c6 (j0 2 (sE F8 hr<|c7 1) nd)
   (c6 (D5 (m7 JC (b9 2)<|PD.pb xB) (d5<|i9 d7) t5)
   (c6 (j0 3 (sE F8 hr<|eM ["way"] ["along"] [2] rfl (iN (sc:=c5 w9) (N:=J9)) (J8<|c7 1) (UK λ_ _ _ _ _=>(cW C1 hr (c7 1)<|c7 0))<|λ_=>M2) nd)
   (c6 (D5 (m7 JC (b9 3)<|PD.pb xB) (d5<|i9 d7) t5)
   (c6 (D5 (AB<|KN (TF rfl)<|PD.pb<|eM ["way"] ["upright"] [3] rfl (iN (sc:=c5 w9) (N:=J9)) (J8<|c7 1) (UK λ_ _ _ _ _=>(wW (kK hu) (PD.pb<|cW v8 hr (c7 1)<|c7 0) J5))<|λ_=>M2) (d5<|i9 d7) t5)
   (d5<|i9 d7))))))))
 match ds,h with
 |[.lst xs],h=>
  simp only[j8]at h;split at h
  ·rename_i pts hw;rw[m5 hw];split at h
   ·rename_i hz;rw[<-h];obtain⟨bf,hs⟩:=hz;match pts,bf with
    |p::ps,_=>
    obtain⟨ud,hxs⟩:∃ud,(p::ps).map vd=ud:=⟨_,rfl⟩;have i0:O9 (.lst ud) (.int 0)=.ok (vd p):=fY (by rw[dS (by decide),<-hxs];rfl);have c1:y7 (λd ρ=>R.ok (aDw ρ 0<|Sl.v d)) (λx=>R.ok true) (λρ=>(((uV 1 ρ).bind λx=>O9 x (D.int 0)).bind λd=>((aT 0 ρ).bind λd=>R.ok [d]).bind λds=>R.ok (d::ds)).bind u4) [.no,.v (.lst ud)] ud=.ok (((p::ps).map (· -p)).map vd):=by rw[aCi];rw[show y7 _ _ _ _ ud=y7 _ _ _ _ ((p::ps).map vd)by rw[hxs]];refine cE vd _ _ λq hq=>⟨[.v (vd q),Sl.v (.lst ud)],rfl,?_⟩;show((O9 (.lst ud)<|.int 0).bind _).bind _=_;rw[i0];rfl
    have hw:∀w∈(p::ps).map (· -p),Sz 1001 w:=λw hw=>by obtain⟨q,hq,rfl⟩:=aAp.mp hw;exact(hs.1 q hq).sub (hs.1 p (.head _))
    have uc:(((p::ps).map (· -p)).map vd).length<=sizeLine:=by rw[aAl,aAl];exact small hs.2
    have br:ud.length<=sizeLine:=by rw[<-hxs,aAl];exact small hs.2
    have hl0:((ud.length:Int)==0)=false:=by rw[<-hxs];simp;lia
    have f1:=yB ((p::ps).map (· -p));unfold G.G4;dsimp only;rw[hxs];generalize(p::ps).map (· -p)=W at*
    have f2:=λu=>yB (W.map<|G.cr u);cases ha:G.y9 W with
    |none=>rw[ha]at f1;simp[i6,j2,br,hl0,c1,f1,xP,HB]
    |some al=>
     rw[ha]at f1;obtain⟨hm,_⟩:=G.p7 ha;have sal:=hw al hm;have c2:y7 (λd ρ=>R.ok (aDw ρ 0<|Sl.v d)) (λx=>R.ok true) (λρ=>((aT 1 ρ).bind λd=>((aT 0 ρ).bind λd=>R.ok [d]).bind λds=>R.ok (d::ds)).bind C0) [.no,.v (vd al)] (W.map vd)=.ok ((W.map<|G.cr al).map vd):=by rw[aCi];refine cE vd _ _ λq hq=>⟨[.v (vd q),Sl.v (vd al)],rfl,?_⟩;show C0 [vd al,vd q]=_;exact fD sal.mono (hw q hq).mono
     have f2:=yB (W.map<|G.cr al);have eW:(W.map vd).length=W.length:=aAl ..;rw[eW]at uc;cases hb:G.y9 (W.map<|G.cr al)with
     |none=>rw[hb]at f2;simp only[aCi]at c2 f2;simp only[hb];simp[i6,j2,br,hl0,c1,f1,xP,HB,uc,c2,f2]
     |some up=>
      rw[hb]at f2;obtain⟨lu,_⟩:=G.p7 hb;have sup:Sz 2003 up:=by obtain⟨q,hq,rfl⟩:=aAp.mp lu;exact(sal.cr<|hw q hq).mono
      have c3:y7 (λd ρ=>R.ok (aDw ρ 0<|Sl.v d)) (λx=>R.ok true) (λρ=>(((aT 1 ρ).bind λd=>((aT 0 ρ).bind λd=>R.ok [d]).bind λds=>R.ok (d::ds)).bind u3).bind λx=>EJ x (D.int 0)) [.no,.v (vd up)] (W.map vd)=.ok ((W.map λw=>decide (G.d8 up w≠0)).map D.bl):=by rw[aCi];refine cE vd _ _ λq hq=>⟨[.v (vd q),Sl.v (vd up)],rfl,?_⟩;show(u3 [vd up,vd q]).bind _=_;rw[kA sup.mono (hw q hq).mono,R.aa0,SQ];congr 2;rw[aDD];simp
      have f3:=SR (W.map λw=>decide (G.d8 up w≠0));have ean:(W.map λw=>decide (G.d8 up w≠0)).any id=W.any λw=>decide (G.d8 up w≠0):=by rw[List.any_map];rfl
      rw[ean]at f3;simp only[aCi]at c2 f2 c3 f3;simp only[hb];generalize(λw=>decide (G.d8 up w≠0))=Bf at*
      cases hc:W.any Bf with
      |false=>rw[hc]at f3;simp[i6,j2,br,hl0,c1,f1,xP,HB,uc,c2,f2,c3,f3]
      |true=>rw[hc]at f3;simp[i6,j2,br,hl0,c1,f1,xP,HB,uc,c2,f2,c3,f3]
   ·cases h
  ·cases h
def C8 (dg:mg "len"=none)(bh:XCls K mg ae "NoPoints" aa)(g:eT K mg "dimension_of" w9):bO P w K mg base 2 "dimension_of" 1 (jM aa):=by
 obtain⟨f,fd,jl,F0⟩:=g;refine' jZ (k:=1) (G:=_) F0 P9 (F0.binds λ_ _ _ _ _ _ us hl=>match us,hl with|[_],_=>rfl) jl (λcdv A outer s H E hr=>?hb) ?hm
 case hb=>have hu:=hr.units;have nd:=P9.nd;refine' (S8<|OW (m7 (bG hu) (PD.pb<|KN bJ<|b9 0) J5) (S8<|tY X7 rfl bh.ex PySem.F.excBase_ValueError bh.nm<|c9 FR j4) oZ)
 case hm=>
  intro ds C hl h;match ds,h with
  |[.lst []],h=>rw[<-h];simp[i6,UJ,jM]
def W2 (n8:z9 P w K mg base 2 "dimension_of" 1 j8)(g:eT K mg "refuse_flat" M7):z9 P w K mg base 3 "refuse_flat" 1 A3:=by
 refine' p8 (k:=2) (F:=_) g S9 (λhr hu jb nd=>?b) λds d hl h=>?_
 case b=>refine' (d5<|D5 (m7 sR (PD.pb<|sE n8 hr<|c7 0) J5) (d5 gW) t5)
 match ds,h with
 |[.lst xs],h=>
  simp only[A3]at h;split at h
  ·rename_i pts hw;rw[m5 hw];split at h
   ·rename_i hz;rw[<-h];obtain⟨hs,h3⟩:=hz;have bf:pts≠[]:=λe=>by subst e;cases h3
    have e:=HS bf hs;rw[h3]at e;simp[i6,e]
   ·cases h
  ·cases h
def T2 (n8:z9 P w K mg base 2 "dimension_of" 1 j8)(C8:bO P w K mg base 2 "dimension_of" 1 (jM aa))(ig:XCls K mg ae "Flat" af)(g:eT K mg "refuse_flat" M7):bO P w K mg base 3 "refuse_flat" 1 (M0 af aa):=by
 obtain⟨f,fd,jl,F0⟩:=g;refine' jZ (k:=2) (G:=_) F0 S9 (F0.binds λ_ _ _ _ _ _ us hl=>match us,hl with|[_],_=>rfl) jl (λcdv A outer s H E hr=>?hb) ?hm
 case hb=>have hu:=hr.units;have nd:=S9.nd;refine' (RL (S8 (RW (qC X7 C8 (hr.mono (by decide)) (c9 (c7 0) j4)<|o8 C7)))<|S8<|OW (m7 sR (PD.pb<|sE n8 hr<|c7 0) J5) (S8<|tY X7 rfl ig.ex PySem.F.excBase_ValueError ig.nm<|c9 FR j4) oZ)
 case hm=>
  intro ds C hl h;match ds,h with
  |[.lst xs],h=>
   rcases BG h with⟨rfl,rfl⟩|⟨pts,rfl,hn,h1,hs,rfl⟩
   ·simp[i6,mX,jM]
   ·have e:=BE h1 hn;have lt:=IJ hs;have lt':((G.G4 pts:Nat):Int)<3:=by lia
    have nx:jM aa [.lst (pts.map vd)]=none:=by
     match pts,hn with
     |P::pts,_=>rfl
    generalize((G.G4 pts:Nat):Int)=dm at*
    generalize pts.map vd=L at*
    simp[i6,mX,nx,e,lt',UJ]
def E8 (gO:z9 P w K mg base 1 "side_of" 2 W8)(g:eT K mg "points_on" U9):z9 P w K mg base 2 "points_on" 2 w4:=by
 refine' p8 (k:=1) (F:=_) g pZ (λhr hu jb nd=>?b) λds d hl h=>?_
 case b=>refine' (d5<|i9<|eM ["P"] ["plane"] [0] rfl (iN (sc:=c5 U9) (N:=iZ)) (J8<|c7 1) (xj λ_ _ _ _ _=>⟨(m7 (bG hu) (PD.pb<|cW gO hr (c7 1)<|c7 0) J5),(c7 0)⟩)<|λ_=>M2)
 replace h:=OQ h;obtain⟨a,b,c,d,ds,rfl,h⟩:=h;replace h:=pW h;obtain⟨xs,ds,rfl,h⟩:=h;replace h:=T6 h;obtain⟨rfl,h⟩:=h
 ·skip
  split at h
  ·rename_i pts hw;rw[m5 hw];split at h
   ·rename_i hz;rw[<-h];have e:=gU vd (G:=λd ρ=>R.ok (aDw ρ 0<|Sl.v d)) (ft:=λρ=>((((aT 1 ρ).bind λd=>((aT 0 ρ).bind λd=>R.ok [d]).bind λds=>R.ok (d::ds)).bind W8).bind λx=>FN x (D.int 0)).bind wA) (fe:=aT 0) (ρ:=[.no,.v (.tup [D.int a,D.int b,D.int c,D.int d])])
     (λX=>decide (G.d8 ⟨a,b,c⟩ X=d)) vd pts λP hP=>⟨[.v (vd P),Sl.v (D.tup [D.int a,D.int b,D.int c,D.int d])],rfl,by simp[LZ hz.1.mono (hz.2.1 P hP).mono,ax,G.d8];exact decide_eq_decide.mpr (by lia),λ_=>rfl⟩
    simp[i6,j2,small hz.2.2,e];rfl
   ·cases h
  ·cases h
def G7 (n9:z9 P w K mg base 1 "way_between" 2 u4)(v8:z9 P w K mg base 1 "product_of" 2 u3)(C1:z9 P w K mg base 1 "cross_of" 2 C0)(P7:z9 P w K mg base 2 "plane_through" 3 Q0)(eu:IC K mg "NO_WAY" [0,0,0])(g:eT K mg "plane_about" V6):z9 P w K mg base 3 "plane_about" 2 D3:=by
 refine' p8 (k:=2) (F:=_) g lO (λhr hu jb nd=>?b) λds d hl h=>?_
 case b=>
  refine' (c6 (j0 2 (cW n9 hr (j3 (b9 0) d7)<|j3 (b9 0) d7) nd)
   (c6 (j0 3 (qR eu) nd)
   (c6 (j0 4 (j3 (b9 0) d7) nd)
   (c6 (R0 aBv rfl (J8<|c7 1) (y6 5 nd) (c6 (j0 6 (cW n9 hr (j3 (b9 0) d7)<|c7 5) nd)
   (d5 (D5 (zN.pt<|kZ (m7 (bG hu) (b9 3)<|PD.pb<|qR eu)<|gA<|m7 AN (PD.pb<|cW v8 hr (c7 3)<|c7 6) J5) (c6 (j0 3 (cW C1 hr (c7 2)<|c7 6) nd)
   (d5<|j0 4 (c7 5) nd)) t5))))
   (d5<|i9<|xx P7 hr (j3 (b9 0) d7) (j3 (b9 0) d7)<|c7 4)))))
 replace h:=QN h;obtain⟨ys,ds,rfl,h⟩:=h;replace h:=pW h;obtain⟨xs,ds,rfl,h⟩:=h;replace h:=T6 h;obtain⟨rfl,h⟩:=h;replace h:=N6 h;obtain⟨a,b,c,ys,rfl,h⟩:=h;replace h:=N6 h;obtain⟨d,e,f,ys,rfl,h⟩:=h;replace h:=T6 h;obtain⟨rfl,h⟩:=h
 ·skip
  split at h
  ·rename_i pts hw;rw[m5 hw];split at h
   ·rename_i hz;rw[<-h];obtain⟨sA,sB,hs,hp⟩:=hz;have vA:(.tup [.int a,.int b,.int c]:D)=vd ⟨a,b,c⟩:=rfl;have vB:(.tup [.int d,.int e,.int f]:D)=vd ⟨d,e,f⟩:=rfl;rw[vA,vB];generalize(⟨a,b,c⟩:G.V)=A at*
    generalize(⟨d,e,f⟩:G.V)=B at*
    simp[i6];have z0:(.tup [.int 0,.int 0,.int 0]:D)=vd 0:=rfl;rw[z0];refine fR (λrest ρ=>∃(up out:G.V) (qs:List G.V) (x y:Sl),ρ=[.v (.tup [vd A,vd B]),.v (.lst (aCY vd pts)),.v (vd<|B-A),.v (vd up),.v (vd out),x,y]/\rest=qs.map vd/\Sz 2003 up/\Sz 1000 out/\(∀X∈qs,Sz 1000 X)/\G.D8 (B-A) A qs up out=G.D8 (B-A) A pts 0 A) ?_ ⟨0,A,pts,_,_,rfl,rfl,⟨by decide,by decide,by decide⟩,sA,hs.1,rfl⟩ ?_
    ·rintro d ds ρ ⟨up,out,qs,x,y,rfl,e1,su,so,sq,e2⟩;match qs,e1 with
     |P::qs,e1=>
      injection e1 with e3 e4;subst e3 e4;have sP:=sq P (.head _);have sw:=sP.sub sA;have e0:=xw up;rw[show(.tup [.int 0,.int 0,.int 0]:D)=vd 0 from rfl]at e0;have c1:=fD (u:=B-A) (v:=P-A) (sB.sub sA).mono sw.mono;have p1:=kA (u:=up) (v:=P-A) su.mono sw.mono;have w1:=SO A P;have i0:O9 (.tup [vd A,vd B]) (.int 0)=.ok (vd A):=rfl
      conv at e2=>lhs;unfold G.D8
      simp only[Z6,aCE,aCF,mH,tR,jJ,cK,R.aa0,i0,w1,A9,e0,AS,p1,rN];by_cases hu0:up=0
      ·rw[if_pos (.inl hu0)]at e2;refine⟨_,?_,G.cr (B-A) (P-A),P,qs,.v (vd P),.v (vd<|P-A),rfl,rfl,(((sB.sub sA).cr sw).mono),sP,λX hX=>sq X (.tail _ hX),e2⟩;rw[decide_eq_true hu0];simp only[if_true,R.aa0,c1,A9,aCE,aCF,jJ,cK]
      ·rw[decide_eq_false hu0];by_cases hd0:0<G.d8 up (P-A)
       ·rw[if_pos (.inr hd0)]at e2;refine⟨_,?_,G.cr (B-A) (P-A),P,qs,.v (vd P),.v (vd<|P-A),rfl,rfl,(((sB.sub sA).cr sw).mono),sP,λX hX=>sq X (.tail _ hX),e2⟩;rw[decide_eq_true hd0];simp only[if_true,aAq,if_false,R.aa0,c1,A9,aCE,aCF,jJ,cK]
       ·rw[if_neg (λz=>z.elim hu0 hd0)]at e2;refine⟨_,?_,up,out,qs,.v (vd P),.v (vd<|P-A),rfl,rfl,su,so,λX hX=>sq X (.tail _ hX),e2⟩;rw[decide_eq_false hd0];simp only[aAq,if_false,R.aa0]
    ·rintro ρ ⟨up,out,qs,x,y,rfl,e1,su,so,sq,e2⟩;have:qs=[]:=by simpa using e1.symm
     subst this;have e2:(up,out)=G.D8 (B-A) A pts 0 A:=e2;have eo:(G.D8 (B-A) A pts 0 A).2=out:=by rw[<-e2]
     unfold G.b8 at hp⊢;rw[eo]at hp⊢;have pl:=JA ⟨sA,sB,so⟩ (ME hp);simp[pl]
   ·cases h
  ·cases h
def aG (E8:z9 P w K mg base 2 "points_on" 2 w4)(G7:z9 P w K mg base 3 "plane_about" 2 D3)(n8:z9 P w K mg base 2 "dimension_of" 1 j8)(td:mg "min"=none)(g:eT K mg "first_pair" Y9):z9 P w K mg base 8 "first_pair" 1 G0:=by
 refine' p8 (k:=7) (F:=_) g nI (λhr hu jb nd=>?b) λds d hl h=>?_
 case b=>
  have hu3:=hr.ae5 (by decide);refine' (c6 (j0 1 (fC (NN rfl hu3)<|v6 (b9 0) F6) nd)
   (c6 (j0 2 (XY (c7 1)<|TJ (j3 (b9 1) d7) (j3 (b9 1) d7)<|d4 t4 (PD.pb<|j3 (b9 1) d7) J5) nd)
   (c6 (j0 3 (cW E8 hr (cW G7 hr (c7 2)<|c7 0)<|c7 0) nd)
   (c6 (D5 (m7 (bG hu) (PD.pb<|sE n8 hr<|c7 3) J5) (d5<|i9<|c7 2) t5)
   (d5<|i9<|XY (j3 (b9 3) d7)<|j3 (b9 3) d7)))))
 match ds,h with
 |[.lst xs],h=>
  simp only[G0]at h;split at h
  ·rename_i m pts hw;rw[m5 hw];split at h
   ·rename_i hz;rw[<-h];have hm:=QB hz.good.ord;have s1:R8 1000 (m::pts):=hz.sz.mono;have sm:Sz 900 m:=hz.sz.1 m (.head _);obtain⟨hp,tm,out,to,bf⟩:=G.vO hz.good.solid hz.good.mem hz.good.least;have ab:=T5 sm.mono (JK sm) s1 hp;have asz:=uO sm.mono (JK sm) s1;rw[UZ]at ab;have po:=eG (d:=(G.b8 m (m+G.kk) (m::pts)).2) asz.mono s1;obtain⟨x,y,r,et⟩:=KJ tm to bf;have ts:=HI (n:=(G.b8 m (m+G.kk) (m::pts)).1) (d:=(G.b8 m (m+G.kk) (m::pts)).2) s1;have dm:=HS (pts:=G.v7 (G.b8 m (m+G.kk) (m::pts)).1 (G.b8 m (m+G.kk) (m::pts)).2 (m::pts)) (by rw[et];simp) ts;have i0:O9 (.lst ((G.v7 (G.b8 m (m+G.kk) (m::pts)).1 (G.b8 m (m+G.kk) (m::pts)).2 (m::pts)).map vd)) (.int 0)=.ok (vd x):=fY (by rw[et];exact PV _ _);have i1:O9 (.lst ((G.v7 (G.b8 m (m+G.kk) (m::pts)).1 (G.b8 m (m+G.kk) (m::pts)).2 (m::pts)).map vd)) (.int 1)=.ok (vd y):=fY (by rw[et];exact XM _ _ _);unfold G.d6;dsimp only;by_cases h2:G.G4 (G.v7 (G.b8 m (m+G.kk) (m::pts)).1 (G.b8 m (m+G.kk) (m::pts)).2 (m::pts))=2
    ·rw[if_pos h2];rw[h2]at dm;generalize(m::pts).map vd=L at*
     generalize(G.v7 (G.b8 m (m+G.kk) (m::pts)).1 (G.b8 m (m+G.kk) (m::pts)).2 (m::pts)).map vd=L2 at*
     generalize(G.b8 m (m+G.kk) (m::pts)).1=pn at*
     generalize(G.b8 m (m+G.kk) (m::pts)).2=pm at*
     simp[i6,hm,ab,po,dm,G.kk]
    ·rw[if_neg h2];have e0:(G.v7 (G.b8 m (m+G.kk) (m::pts)).1 (G.b8 m (m+G.kk) (m::pts)).2 (m::pts)).getD 0 0=x:=by rw[et];rfl
     have e1:(G.v7 (G.b8 m (m+G.kk) (m::pts)).1 (G.b8 m (m+G.kk) (m::pts)).2 (m::pts)).getD 1 0=y:=by rw[et];rfl
     rw[e0,e1];have hb:((G.G4 (G.v7 (G.b8 m (m+G.kk) (m::pts)).1 (G.b8 m (m+G.kk) (m::pts)).2 (m::pts)):Int)==2)=false:=by rw[beq_eq_false_iff_ne];lia
     generalize(m::pts).map vd=L at*
     generalize(G.v7 (G.b8 m (m+G.kk) (m::pts)).1 (G.b8 m (m+G.kk) (m::pts)).2 (m::pts)).map vd=L2 at*
     generalize(G.G4 (G.v7 (G.b8 m (m+G.kk) (m::pts)).1 (G.b8 m (m+G.kk) (m::pts)).2 (m::pts)):Int)=dd at*
     generalize(G.b8 m (m+G.kk) (m::pts)).1=pn at*
     generalize(G.b8 m (m+G.kk) (m::pts)).2=pm at*
     simp[i6,hm,ab,po,dm,hb,i0,i1]
   ·cases h
  ·cases h
def iR (v8:z9 P w K mg base 1 "product_of" 2 u3)(C1:z9 P w K mg base 1 "cross_of" 2 C0)(n9:z9 P w K mg base 1 "way_between" 2 u4)(g:eT K mg "turn_of" iH):z9 P w K mg base 2 "turn_of" 4 bR:=by
 refine' p8 (k:=1) (F:=_) g yK (λhr hu jb nd=>?b) λds d hl h=>?_
 case b=>refine' (d5<|i9<|cW v8 hr (c7 0)<|cW C1 hr (cW n9 hr (c7 1)<|c7 2)<|cW n9 hr (c7 2)<|c7 3)
 replace h:=N6 h;obtain⟨a,b,c,ds,rfl,h⟩:=h;replace h:=N6 h;obtain⟨d,e,f,ds,rfl,h⟩:=h;replace h:=N6 h;obtain⟨g,h',i,ds,rfl,h⟩:=h;replace h:=N6 h;obtain⟨j,k,l,ds,rfl,h⟩:=h;replace h:=T6 h;obtain⟨rfl,h⟩:=h
 ·skip
  split at h
  ·rename_i hz;obtain⟨p,q,r,s⟩:=hz;rw[<-h];have c1:=fD (u:=⟨g,h',i⟩-⟨d,e,f⟩) (v:=⟨j,k,l⟩-⟨g,h',i⟩) (r.sub q).mono (s.sub r).mono;have c2:=kA (u:=⟨a,b,c⟩) (v:=G.cr (⟨g,h',i⟩-⟨d,e,f⟩) (⟨j,k,l⟩-⟨g,h',i⟩)) p.mono ((r.sub q).cr (s.sub r)).mono;simp only[vd,G.OY,G.OM,G.PR,G.NF,G.MF,G.LC]at c1 c2;simp[i6,u4,v1,rY,c1,c2,G.turn,G.f9]
  ·cases h
def Q7 (iR:z9 P w K mg base 2 "turn_of" 4 bR)(dg:mg "len"=none)(g:eT K mg "left_chain" Z5):z9 P w K mg base 3 "left_chain" 2 R7:=by
 refine' p8 (k:=2) (F:=_) g nG (λhr hu jb nd=>?b) λds d hl h=>?_
 case b=>
  refine' (c6 (fM 2 (dU j4) nd)
   (c6 (R0 aBv rfl (J8<|c7 1) (y6 3 nd) (c6 (gN (λ_=>1001) aBv (zN.pt<|NI (m7 AN (PD.pb<|KN bJ<|b9 2) J5)<|JS<|m7 VW (PD.pb<|xy iR hr (c7 0) (j3 (b9 2)<|lC d7) (j3 (b9 2)<|lC d7)<|c7 3) J5)<|d5<|MQ 2)
   (d5<|aF 2<|c7 3)))
   (d5<|AI 2<|i9<|c7 2)))
 replace h:=N6 h;obtain⟨a,b,c,ds,rfl,h⟩:=h;replace h:=pW h;obtain⟨xs,ds,rfl,h⟩:=h;replace h:=T6 h;obtain⟨rfl,h⟩:=h
 ·skip
  split at h
  ·rename_i pts hw;rw[m5 hw];split at h
   ·rename_i hz;rw[<-h];obtain⟨sn,hs⟩:=hz;have vn:(.tup [.int a,.int b,.int c]:D)=vd ⟨a,b,c⟩:=rfl;rw[vn];generalize(⟨a,b,c⟩:G.V)=n at*
    simp[i6];refine fR (λrest ρ=>∃(c qs:List G.V) (x:Sl),ρ=[.v (vd n),.v (.lst (aCY vd pts)),.o (c.reverse.map vd),x]/\rest=qs.map vd/\(∀X∈c,Sz 1000 X)/\(∀X∈qs,Sz 1000 X)/\c.length+qs.length<=1000/\qs.foldl (λc P=>P::G.U4 n P c) c=G.w8 n pts) ?_ ⟨[],pts,_,rfl,rfl,λX hX=>by(cases hX),hs.1,by simpa using hs.2,rfl⟩ ?_
    ·rintro d ds ρ ⟨c,qs,x,rfl,e1,sc,sq,hl,e2⟩;match qs,e1 with
     |P::qs,e1=>
      injection e1 with e3 e4;subst e3 e4;have sP:=sq P (.head _);simp only[aAt]at hl;simp only[Z6,aCE,aCF];refine Exists.elim (uC (n:=1001) (ρ:=[.v (vd n),.v (.lst (aCY vd pts)),.o (c.reverse.map vd),.v (vd P)]) (Post:=λρ=>∃c',ρ=[.v (vd n),.v (.lst (aCY vd pts)),.o (c'.reverse.map vd),.v (vd P)]/\(∀X∈c',Sz 1000 X)/\c'.length<=c.length/\c'=G.U4 n P c)
       (c:=SF (λρ=>((((uV 2 ρ).bind λd=>R.ok [d]).bind GW).bind λx=>UM x (D.int 1)).bind wA) λρ=>((((aT 0 ρ).bind λd=>(((uV 2 ρ).bind λx=>O9 x (D.int (-2))).bind λd=>(((uV 2 ρ).bind λx=>O9 x (D.int (-1))).bind λd=>((aT 3 ρ).bind λd=>R.ok [d]).bind λds=>R.ok (d::ds)).bind λds=>R.ok (d::ds)).bind λds=>R.ok (d::ds)).bind bR).bind λx=>XQ x (D.int 0)).bind wA) (F:=λρ=>(wQ 2 ρ).bind λz=>R.ok (Out.nx z.snd))
       (λm ρ=>∃c',ρ=[.v (vd n),.v (.lst (aCY vd pts)),.o (c'.reverse.map vd),.v (vd P)]/\(∀X∈c',Sz 1000 X)/\c'.length<=c.length/\c'.length<m/\G.U4 n P c'=G.U4 n P c) ?_ (by rintro ρ ⟨c',_,_,_,h,_⟩;lia) ⟨c,rfl,sc,aAg _,by lia,rfl⟩ ?_) ?_
      ·rintro m ρ ⟨c',rfl,sub,ji,hm,ep⟩;match c',sub,ji,hm,ep with
       |[],_,_,_,_=>exact .inl (by simp)
       |[a],_,_,_,_=>exact .inl (by simp)
       |b::a::r,sub,ji,hm,ep=>
        have er:(b::a::r).reverse.map vd=r.reverse.map vd++[vd a,vd b]:=by simp
        have i1:O9 (.lst ((b::a::r).reverse.map vd)) (.int (-1))=.ok (vd b):=fY (by rw[er];exact OL _ _ _);have i2:O9 (.lst ((b::a::r).reverse.map vd)) (.int (-2))=.ok (vd a):=fY (by rw[er];exact OU _ _ _);have tn:=zF sn (sub a<|.tail _ (.head _)) (sub b<|.head _) sP;have hg:(1:Int)<(aCY vd (b::a::r).reverse).length:=by rw[aAl,aCx];simp;lia
        by_cases ht:G.turn n a b P<=0
        ·refine .inr ⟨?_,[.v (vd n),.v (.lst (aCY vd pts)),.o ((a::r).reverse.map vd),.v (vd P)],?_,a::r,rfl,λX hX=>sub X (.tail _ hX),?_,?_,?_⟩
         ·simp only[rX,mH,xA,R.aa0,qK,rN,decide_eq_true hg,AS,if_true,cK,jJ,i1,i2,tn,xZ,decide_eq_true ht]
         ·show(match(aCY vd (b::a::r).reverse)[(aCY vd (b::a::r).reverse).length-1]? with|some d=>_|none=>_:R (D×Ev)).bind _=_;rw[er];simp
         ·simp only[aAt]at ji⊢;lia
         ·simp only[aAt]at hm⊢;lia
         ·rw[<-ep]
          conv=>rhs;unfold G.U4
          rw[if_pos ht]
        ·refine .inl ?_;simp only[rX,mH,xA,R.aa0,qK,rN,decide_eq_true hg,AS,if_true,cK,jJ,i1,i2,tn,xZ,decide_eq_false ht]
      ·rintro m ρ ⟨c',rfl,sub,ji,hm,ep⟩ hc;refine⟨c',rfl,sub,ji,?_⟩;match c',sub,ji,hm,ep,hc with
       |[],_,_,_,ep,_=>exact ep
       |[a],_,_,_,ep,_=>exact ep
       |b::a::r,sub,ji,hm,ep,hc=>
        have er:(b::a::r).reverse.map vd=r.reverse.map vd++[vd a,vd b]:=by simp
        have i1:O9 (.lst ((b::a::r).reverse.map vd)) (.int (-1))=.ok (vd b):=fY (by rw[er];exact OL _ _ _);have i2:O9 (.lst ((b::a::r).reverse.map vd)) (.int (-2))=.ok (vd a):=fY (by rw[er];exact OU _ _ _);have tn:=zF sn (sub a<|.tail _ (.head _)) (sub b<|.head _) sP;have hg:(1:Int)<(aCY vd (b::a::r).reverse).length:=by rw[aAl,aCx];simp;lia
        simp only[rX,mH,xA,R.aa0,qK,rN,decide_eq_true hg,AS,if_true,cK,jJ,i1,i2,tn,xZ,HQ,decide_eq_false_iff_not]at hc;rw[<-ep]
        conv=>rhs;unfold G.U4
        rw[if_neg hc]
      ·rintro ρ2 ⟨ew,c',rfl,sub,ji,epop⟩;refine⟨[.v (vd n),.v (.lst (aCY vd pts)),.o ((P::c').reverse.map vd),.v (vd P)],?_,P::c',qs,_,rfl,rfl,?_,λX hX=>sq X (.tail _ hX),?_,?_⟩
       ·rw[ew];have hz:(aCY vd c'.reverse).length<sizeLine:=by rw[aAl,aCx];exact aCC (show c'.length<=1000 by lia) (by decide)
        simp only[A9,jJ,cK,R.aa0];show(if(aCY vd c'.reverse).length<sizeLine then _ else _)=_;rw[if_pos hz];simp
       ·intro X hX;rcases aAe.mp hX with rfl|hX
        ·exact sP
        ·exact sub X hX
       ·simp;lia
       ·rw[<-e2,aEj,epop]
    ·rintro ρ ⟨c,qs,x,rfl,e1,sc,sq,hl,e2⟩;have:qs=[]:=by simpa using e1.symm
     subst this;have e2:c=G.w8 n pts:=e2;subst e2;simp[TW]
   ·cases h
  ·cases h
def iK (Q7:z9 P w K mg base 3 "left_chain" 2 R7)(il:mg "list"=none)(kn:mg "reversed"=none)(g:eT K mg "ring_of" gP):z9 P w K mg base 4 "ring_of" 2 M3:=by
 refine' p8 (k:=3) (F:=_) g yL (λhr hu jb nd=>?b) λds d hl h=>?_
 case b=>
  refine' (c6 (j0 2 (cW Q7 hr (c7 0)<|c7 1) nd)
   (c6 (j0 3 (cW Q7 hr (c7 0)<|PF.pd<|xF (b9 1) rfl) nd)
   (d5<|i9<|d4 t4 (PD.pb<|oU (b9 2) Y3<|Y4<|lC d7)<|PD.pb<|oU (b9 3) Y3<|Y4<|lC d7)))
 replace h:=N6 h;obtain⟨a,b,c,ds,rfl,h⟩:=h;replace h:=pW h;obtain⟨xs,ds,rfl,h⟩:=h;replace h:=T6 h;obtain⟨rfl,h⟩:=h
 ·skip
  split at h
  ·rename_i pts hw;rw[m5 hw];split at h
   ·rename_i hz;rw[<-h];obtain⟨sn,hs⟩:=hz;have vn:(.tup [.int a,.int b,.int c]:D)=vd ⟨a,b,c⟩:=rfl;rw[vn];generalize(⟨a,b,c⟩:G.V)=n at*
    have l1:=PQ sn hs;have zk:R8 1000 pts.reverse:=hs.sub (λP hP=>by simpa using hP) (by simp);have l2:=PQ sn zk;rw[aFi (l:=pts)]at l2;have k1:=oP n pts;have k2:=oP n pts.reverse;rw[aCx]at k2;have ha:jY (.lst ((G.w8 n pts).reverse.map vd).dropLast) (.lst ((G.w8 n pts.reverse).reverse.map vd).dropLast)=.ok (.lst ((G.j6 n pts).map vd)):=by rw[qH (by simp only[aFC,aAl,aCx];exact aAx (show _<=2000 by have:=hs.2;lia) (by decide))];unfold G.j6;rw[aBJ,List.map_dropLast,List.map_dropLast]
    simp[-aFi,i6,l1,l2,LY,ha,VE]
   ·cases h
  ·cases h
def V7 (il:mg "list"=none)(b_zip:mg "zip"=none)(g:eT K mg "pairs_round" V8):z9 P w K mg base 1 "pairs_round" 1 v9:=by
 refine' p8 (k:=0) (F:=_) g lU (λhr hu jb nd=>?b) λds d hl h=>?_
 case b=>refine' (d5<|i9<|PF.pd<|yS (b9 0) (PD.pb<|d4 t4 (PD.pb<|oU (b9 0) (Y4 d7) Y3)<|PD.pb<|oU (b9 0) Y3<|Y4 d7) rfl)
 match ds,h with
 |[.lst xs],h=>
  simp only[v9]at h;split at h
  ·rename_i pts hw;rw[m5 hw];split at h
   ·rename_i hz;rw[<-h];have ha:jY (.lst (pts.map vd).tail) (.lst ((pts.map vd).take 1))=.ok (.lst ((pts.tail++pts.take 1).map vd)):=by rw[qH (by simp only[List.length_tail,aBj,aAl];exact JM (by lia))];rw[aBJ,List.map_tail,aGb]
    have hzz:(pts.map vd).length=((pts.tail++pts.take 1).map vd).length:=by
     simp only[aAl,aAz,List.length_tail,aBj]
     lia
    have hzp:LA [.lst (pts.map vd),.lst ((pts.tail++pts.take 1).map vd)]=.ok ((G.S6 pts).map F4):=by show(if _ then _ else _)=_;rw[if_pos hzz,oW (β:=Unit)];rfl
    simp[-aBJ,-List.map_tail,-aGb,i6,NH,UF,ha,hzp]
   ·cases h
  ·cases h
def aK (G7:z9 P w K mg base 3 "plane_about" 2 D3)(iK:z9 P w K mg base 4 "ring_of" 2 M3)(V7:z9 P w K mg base 1 "pairs_round" 1 v9)(dg:mg "len"=none)(gg:mg "sorted"=none)(g:eT K mg "faces_from" aH):NU P w K mg base 8 3 "faces_from" F9:=by
 obtain⟨f,fd,jl,F0⟩:=g;refine' OE (k:=7) (F:=_) F0 cP rfl (F0.binds λ_ _ _ _ _ _ us hl=>match us,hl with|[_,_,_],_=>rfl) jl (λcdv A outer s H E hr=>?hb) ?hm
 case hb=>
  have hu:=hr.units;have jb:=hr.ae4;have hu3:=hr.ae5 (by decide);have nd:=cP.nd;refine' (c6 (fM 3 (dU j4) nd)
   (c6 (GV 4 nd)
   (c6 (fM 5 (dU<|c9 (c7 0) j4) nd)
   (c6 (gN (λ_=>5000) aBv (m7 AN (PD.pb<|KN bJ<|b9 5) J5) (c6 (wK 6 5 nd)
   (d5 (D5 (CH 4 (c7 6) jb) (c6 (j0 7 (cW G7 hr (c7 6) (tW 1 (k:=3) (Φ:=EI P w K mg base 3 1) rfl (c9 (j3 (b9 6) d7) j4) (o8 C7) (hr.mono (by decide)))) nd)
   (c6 (j0 8 (cW iK hr (oU (b9 7) Y3<|Y4 d7) (tW 2 (k:=3) (Φ:=EI P w K mg base 3 1) rfl (c9 (c7 7) j4) (o8 C7) (hr.mono (by decide)))) nd)
   (c6 (aF 3<|XY (c7 7)<|c7 8)
   (d5 (R0 aBv rfl (J8<|sE V7 hr<|c7 8) (y6 9 nd) (c6 (xH 4 U8 (c7 9) jb)
   (d5<|aF 5<|XY (j3 (b9 9) d7)<|j3 (b9 9) d7))))))) t5))))
   (d5<|i9<|PF.pd<|wS (b9 3) rfl hu3)))))
 case hm=>
  intro d m1 m2 d' h;simp only[F9]at h;split at h
  ·rename_i xs hm1;split at h
   ·rename_i m pts hw;split at h
    ·rename_i hz;rw[<-h];obtain⟨hz,ui,hd,e1,e2⟩:=hz;rw[m5 hw]at e1 e2;subst hd e1 e2;have s1:(1:Nat)<=sizeLine:=by decide
     simp only[iF,cK,bI,fH,R.aa0,aAt,aBF,aFs,s1,if_true,A9];exact VT (Φ:=EI P w K mg base 3 1) hz ui
    ·cases h
   ·cases h
  ·cases h
def oH:Nst:=⟨"about",BD,D7 aV,o6 aV,c5 aV,BB aV,["corner"],[],["spread"],[1],(λρ=>(aT 1 ρ).bind λd=>.ok (.rt d)),G9,2⟩
def bQ:Nst:=⟨"touched_by",eY,D7 G8,o6 G8,c5 G8,BB G8,["plane"],[],["spread"],[1],(λρ=>((p5 (aT 0) (p5 (aT 1) U5) ρ).bind w4).bind λd=>.ok (.rt d)),C3,3⟩
def CS {f:Addr}{cdv:Value}{A:Around}{outer:List Env}{s:Shared}{H:Hp}{E:XK}:NstOk (MI P w K mg base cS "faces_of" (c5 F3) f cdv A outer s H E) 2 oH where
 sc:=⟨rfl,rfl,rfl,by decide+kernel,by decide+kernel,by decide+kernel,λx h=>AV h,by decide+kernel⟩
 one:=rfl
 body:=λfa cd clos A outer s H hr=>by have hu:=hr.units;exact(d5<|i9<|c7 1)
 mm:=by
  intro wd ds d h1 h2 h;match wd,ds,h1,h2,h with
  |[_],[_],_,_,h=>cases h;rfl
 bind:=λclos doc pm cd ctv us hl=>match us,hl with|[_],_=>rfl
 len:=rfl
 at_:=λi j x h1 h2=>match i,h1,h2 with
  |0,h1,h2=>by obtain rfl:1=j:=aAj h1;obtain rfl:("spread":Str)=x:=aAj h2;exact⟨rfl,rfl⟩
  |i+1,h1,_=>nomatch(show(none:Option Nat)=some j from h1)
 d0:=rfl
 k0:=rfl
 nm:=rfl
 lc:=.inl rfl
 st:=.inl rfl
 dbg:=by decide
 cdt:=by decide
def mI (E8:z9 P w K mg base 2 "points_on" 2 w4){f:Addr}{cdv:Value}{A:Around}{outer:List Env}{s:Shared}{H:Hp}{E:XK}:NstOk (MI P w K mg base cS "faces_of" (c5 F3) f cdv A outer s H E) 2 bQ where
 sc:=⟨rfl,rfl,rfl,by decide+kernel,by decide+kernel,by decide+kernel,λx h=>AV h,by decide+kernel⟩
 one:=rfl
 body:=λfa cd clos A outer s H hr=>by have hu:=hr.units;exact(d5<|i9<|cW E8 hr (c7 0)<|c7 1)
 mm:=by
  intro wd ds d h1 h2 h;match wd,ds,h1,h2,h with
  |[w],[p],_,_,h=>have h:w4 [p,w]=.ok d:=h;show N4 (((p5 (aT 0) (p5 (aT 1) U5) [.v p,.v w]).bind w4).bind λd=>.ok (.rt d))=.ok d;have e:p5 (aT 0) (p5 (aT 1) U5) [.v p,.v w]=.ok [p,w]:=rfl;rw[e,R.aa0,h];rfl
 bind:=λclos doc pm cd ctv us hl=>match us,hl with|[_],_=>rfl
 len:=rfl
 at_:=λi j x h1 h2=>match i,h1,h2 with
  |0,h1,h2=>by obtain rfl:1=j:=aAj h1;obtain rfl:("spread":Str)=x:=aAj h2;exact⟨rfl,rfl⟩
  |i+1,h1,_=>nomatch(show(none:Option Nat)=some j from h1)
 d0:=rfl
 k0:=rfl
 nm:=rfl
 lc:=.inl rfl
 st:=.inl rfl
 dbg:=by decide
 cdt:=by decide
def dF {Pt:Addr}(E8:z9 P w K mg base 2 "points_on" 2 w4)(W2:z9 P w K mg base 3 "refuse_flat" 1 A3)(aG:z9 P w K mg base 8 "first_pair" 1 G0)(aK:NU P w K mg base 8 3 "faces_from" F9)(gg:mg "sorted"=none)(tf:mg "set"=none)(hB:eN mg base)(hTt:(Pt,tbK)∈Tabs.tbs)(g:QG K mg "faces_of" F3 Pt):z9 P w K mg base 9 "faces_of" 1 L8:=by
 obtain⟨f,fd,cd,jl,hK,F0⟩:=g;refine' MC (k:=8) (F:=_) F0 V3 (F0.fn.binds λ_ _ _ _ _ _ us hl=>match us,hl with|[_],_=>rfl) jl (λA outer s H E hr=>?hb) ?hm
 case hb=>
  have hu:=hr.units;have jb:=hr.ae4;have hu3:=hr.ae5 (by decide);have nd:=V3.nd;refine' (c6 (GQ<|sE W2 hr<|c7 0)
   (c6 (j0 1 (PF.pd<|eI (b9 0) rfl hu3) nd)
   (yR (n1:=oH) (n2:=bQ) (clos1:=[("spread",s.heap.objs.size+1)]) (clos2:=[("spread",s.heap.objs.size+1)]) (tb:=tbK) CS (mI E8) ?co1 ?co2 ?hA hB rfl hK hTt (by decide+kernel) (by decide+kernel) (by decide+kernel) (by decide+kernel) (by decide) nd aK (hr.mono (by decide)) (sE aG hr<|c7 1) (λ_=>rfl))))
  case co1=>exact⟨rfl,rfl,rfl,λx c h=>h,λx hx=>⟨_,by obtain rfl:x= "spread":=aBd.mp hx;rfl⟩⟩
  case co2=>exact⟨rfl,rfl,rfl,λx c h=>h,λx hx=>⟨_,by obtain rfl:x= "spread":=aBd.mp hx;rfl⟩⟩
  case hA=>exact DU
 case hm=>
  intro ds d hl h;match ds,h with
  |[.lst xs],h=>
   simp only[L8]at h;split at h
   ·rename_i pts hw;rw[m5 hw];split at h
    ·rename_i hz;rw[<-h];obtain⟨h1,h2,h3⟩:=hz;obtain⟨m,r,e,L⟩:=fO h1 h2 (by lia);have ss:=OX (pts:=pts) (by lia);have fl:=LO (h1.mono (n:=1000)) h2;rw[e]at h3 ss⊢;have fp:=UU L;have ff:=TZ L h3;obtain⟨L1,eL⟩:∃L1,(m::r).map vd=L1:=⟨_,rfl⟩;rw[eL]at ss fp ff;show N4 (B5 ((A3 [D.lst (pts.map vd)]).bind λ_=>R.ok (Out.nx [.v (.lst (pts.map vd)),.no,.no,.no])) _)=_;rw[fl,R.aa0,A9];show N4 (B5 (((VX<|.lst (pts.map vd)).bind λds=>R.ok (D.lst ds)).bind λd=>R.ok (Out.nx [.v (.lst (pts.map vd)),.v d,.no,.no])) _)=_;rw[ss,R.aa0,R.aa0,A9];show N4 (((G0 [D.lst L1]).bind λd1=>(R.ok [D.lst L1]).bind λw1=>(R.ok [D.lst L1]).bind λw2=>F9 d1 (G9 w1) (C3 w2)).bind λd=>R.ok (Out.rt d))=_;rw[fp,R.aa0,R.aa0,R.aa0,ff];rfl
    ·cases h
   ·cases h
def N3 {Pt:Addr}(T2:bO P w K mg base 3 "refuse_flat" 1 (M0 af aa))(g:QG K mg "faces_of" F3 Pt):bO P w K mg base 9 "faces_of" 1 (M0 af aa):=by
 obtain⟨f,fd,cd,jl,hK,F0⟩:=g;refine' jZ (k:=8) (G:=_) F0.fn V3 (F0.fn.binds λ_ _ _ _ _ _ us hl=>match us,hl with|[_],_=>rfl) jl (λcdv A outer s H E hr=>?hb) ?hm
 case hb=>have hu:=hr.units;have nd:=V3.nd;refine' (S8 (LW (qC X7 T2 (hr.mono (by decide)) (c9 (c7 0) j4)<|o8 C7)))
 case hm=>
  intro ds C hl h;match ds,h with
  |[.lst xs],h=>simp[i6,mX,h]
def K6 (gg:mg "sorted"=none)(tf:mg "set"=none)(g:eT K mg "corners_in" Z9):z9 P w K mg base 8 "corners_in" 1 B6:=by
 refine' p8 (k:=7) (F:=_) g nN (λhr hu jb nd=>?b) λds d hl h=>?_
 case b=>
  have hu3:=hr.ae5 (by decide);refine' (c6 (fM 1 (dU j4) nd)
   (c6 (R0 aBv rfl (J8<|c7 0) (zR (n:=2) rfl<|X4 (y6 2 nd)<|X4 (y6 3 nd) sK)<|d5<|xX 1<|c7 3)
   (d5<|i9<|PF.pd<|eI (b9 1) rfl hu3)))
 match ds,h with
 |[.lst xs],h=>
  simp only[B6]at h;split at h
  ·rename_i rs hw;split at h
   ·rename_i hz;rw[<-h];obtain⟨x',y',e⟩:=iW (a:=Sl.v (D.lst xs)) xs rs [] Sl.no Sl.no hw (by simpa using hz.1);rw[aDR,aDe]at e;have ss:=OX hz.2;simp[i6,-List.map_flatten,e,ss]
   ·cases h
  ·cases h
def X5 (K6:z9 P w K mg base 8 "corners_in" 1 B6)(dF:z9 P w K mg base 9 "faces_of" 1 L8)(g:eT K mg "body_of" bX):z9 P w K mg base 10 "body_of" 1 J3:=by
 refine' p8 (k:=9) (F:=_) g dZ (λhr hu jb nd=>?b) λds d hl h=>?_
 case b=>refine' (d5<|i9<|sE K6 hr<|sE dF hr<|c7 0)
 match ds,h with
 |[.lst xs],h=>
  simp only[J3]at h;split at h
  ·rename_i pts hw;rw[m5 hw];split at h
   ·rename_i hz;rw[<-h];obtain⟨h1,h2,h3⟩:=hz;obtain⟨m,r,e,L⟩:=fO h1 h2 (by lia);have fo:=IR h1 h2 h3;have fr:((A6<|i8 pts).flatMap (G.j9<|i8 pts)).length<=200/\(i8<|(A6<|i8 pts).flatMap (G.j9<|i8 pts)).length<=14:=by rw[e]at h3⊢;exact oC L h3
    have co:=wL (pts:=i8 pts) (fs:=A6 (i8 pts)) (by lia) (by lia);simp[i6,fo,co,A1]
   ·cases h
  ·cases h
def dR (K6:z9 P w K mg base 8 "corners_in" 1 B6)(N3:bO P w K mg base 9 "faces_of" 1 (M0 af aa))(g:eT K mg "body_of" bX):bO P w K mg base 10 "body_of" 1 (M0 af aa):=by
 obtain⟨f,fd,jl,F0⟩:=g;refine' jZ (k:=9) (G:=_) F0 dZ (F0.binds λ_ _ _ _ _ _ us hl=>match us,hl with|[_],_=>rfl) jl (λcdv A outer s H E hr=>?hb) ?hm
 case hb=>have hu:=hr.units;have nd:=dZ.nd;refine' (S8 (SV (LV K6 (qC X7 N3 (hr.mono (by decide)) (c9 (c7 0) j4)<|o8 C7))))
 case hm=>
  intro ds C hl h;match ds,h with
  |[.lst xs],h=>simp[i6,mX,h]
end
end K16
namespace K16
open PySem L2 DL M
section
variable [Tabs]
variable{P:Program} {w:World} {K:PySem.W.Frag} {mg:V5} {base:Heap}
variable{ae af aa cp cu dc de dn au:Addr}
def Y2 (n8:z9 P w K mg base 2 "dimension_of" 1 j8)(X5:z9 P w K mg base 10 "body_of" 1 J3)(dg:mg "len"=none)(g:eT K mg "is_body" iL):z9 P w K mg base 11 "is_body" 1 F5:=by
 refine' p8 (k:=10) (F:=_) g xD (λhr hu jb nd=>?b) λds d hl h=>?_
 case b=>
  refine' (c6 (D5 (zN.pt<|kZ (m7 (bG hu) (PD.pb<|KN bJ<|b9 0) J5)<|gA<|m7 sR (PD.pb<|sE n8 hr<|c7 0) J5) (d5<|i9 U8) t5)
   (d5<|i9<|wW (bG hu) (PD.pb<|sE X5 hr<|c7 0)<|b9 0))
 match ds,h with
 |[.lst xs],h=>
  simp only[F5]at h;split at h
  ·rename_i pts hw;rw[m5 hw];split at h
   ·rename_i hz;rw[<-h];by_cases hn:pts=[]
    ·subst hn;simp[i6]
    ·have hz:R8 1000 pts/\¬G.n4 pts:=by
      rcases hz with z|z
      ·exact absurd z hn
      ·exact z
     have e:=BE hz.1 hn;have lt:=IJ hz.2;have lt':((G.G4 pts:Nat):Int)<3:=by lia
     have l0:¬(((pts.map vd).length:Int)=0):=by
      rw[aAl];have:pts.length≠0:=λz=>hn (aCT z)
      lia
     generalize((G.G4 pts:Nat):Int)=dm at*
     generalize pts.map vd=L at*
     simp[i6,l0,e,lt']
   ·rename_i hz0;split at h
    ·rename_i hz;rw[<-h];obtain⟨h1,h2,h3,h4⟩:=hz;have hn:pts≠[]:=λz=>hz0 (.inl z);have e:=BE (h1.mono (n:=1000)) hn;have d3:=wV h2;rw[d3]at e;have b:=BC h1 h2 h3;have l0:¬(((pts.map vd).length:Int)=0):=by
      rw[aAl];have:pts.length≠0:=λz=>hn (aCT z)
      lia
     have eq:FN (.lst ((A1 pts).map vd)) (.lst (pts.map vd))=.ok (.bl (decide (A1 pts=pts))):=TY _ _;have ln:pts.map vd≠[]:=λz=>hn (List.map_eq_nil_iff.mp z);generalize decide (A1 pts=pts)=B at*
     generalize(A1 pts).map vd=L2 at*
     generalize pts.map vd=L at*
     simp[i6,ln,l0,e,b,eq]
    ·cases h
  ·cases h
end
end K16
namespace K16
open PySem L2 DL M
section
variable [Tabs]
variable{P:Program} {w:World} {K:PySem.W.Frag} {mg:V5} {base:Heap}
variable{ae af aa cp cu dc de dn au:Addr}
def N9 (dg:mg "len"=none)(g:eT K mg "_law_cell" aP):z9 P w K mg base 1 "_law_cell" 2 bZ:=by
 refine' p8 (k:=0) (F:=_) g pN (λhr hu jb nd=>?b) λds d hl h=>?_
 case b=>
  refine' (c6 (D5 (m7 sR (b9 1)<|PD.pb<|KN bJ<|b9 0) (d5<|i9<|j3 (b9 0)<|c7 1) t5)
   (d5<|i9<|d4 t4 (PD.pb<|d4 t4 (PD.pb<|d4 y8 (PD.pb<|d4 y8 J5<|b9 1)<|b9 1)<|PD.pb<|d4 y8 J5<|b9 1) J5))
 match ds,h with
 |[.lst xs,.int k],h=>
  simp only[bZ]at h;split at h
  ·rename_i hz;obtain⟨h0,h1⟩:=hz;rw[<-h];have hb:bits k<=20:=q8 (by lia) (by lia);have hb2:bits (6*k)<=30:=q8 (by lia) (by lia);by_cases hk:k<xs.length
   ·have e:xs[k.toNat]?=some xs[k.toNat]:=aAk (by lia);have e2:fW xs k=some xs[k.toNat]:=by rw[dS h0,e]
    simp[i6,hk,fY e2,nW,e]
   ·have e:xs[k.toNat]?=none:=aCb.mpr (by lia);simp[i6,hk,nW,e,i7 (p6.of (show bits 6<=10 by decide) hb),i7 (p6.of hb2 hb),i7 (p6.of (show bits 5<=10 by decide) hb),M.sW]
  ·cases h
def F7 (g:eT K mg "_law_drawn_way" K9):z9 P w K mg base 1 "_law_drawn_way" 2 dP:=by
 refine' p8 (k:=0) (F:=_) g fA (λhr hu jb nd=>?b) λds d hl h=>?_
 case b=>refine' (d5<|i9<|W5<|c9 (d4 T1 (PD.pb<|d4 P8 (b9 0)<|b9 1)<|PD.pb<|d4 D9 (b9 1) J5)<|c9 (d4 T1 (PD.pb<|d4 P8 (PD.pb<|d4 D9 (b9 0)<|b9 1)<|b9 1)<|PD.pb<|d4 D9 (b9 1) J5)<|c9 (d4 T1 (PD.pb<|d4 P8 (PD.pb<|d4 D9 (b9 0)<|PD.pb<|d4 y8 (b9 1)<|b9 1)<|b9 1)<|PD.pb<|d4 D9 (b9 1) J5) j4)
 match ds,h with
 |[.int c,.int w],h=>
  simp only[dP]at h;split at h
  ·rename_i hz;rw[<-h];obtain⟨hc,hw⟩:=hz;have w0:0<w:=by rcases hw with rfl|rfl|rfl|rfl<;>decide
   have wb:bits w<=80:=q8 (by rcases hw with rfl|rfl|rfl|rfl<;>decide) (by rcases hw with rfl|rfl|rfl|rfl<;>decide);have mw:∀x:Int,aX (.int x) (.int w)=.ok (.int (x.fmod w)):=λx=>G6 w0;have d1:Q5 (.int c) (.int w)=.ok (.int (c.fdiv w)):=bV ⟨by lia,X0 wb⟩;have mm:nD (.int w) (.int w)=.ok (.int (w*w)):=i7 (p6.of wb wb);have d2:Q5 (.int c) (.int (w*w))=.ok (.int (c.fdiv<|w*w)):=bV ⟨by rcases hw with rfl|rfl|rfl|rfl<;>decide,X0 (bits_mul wb wb)⟩;have d3:Q5 (.int w) (.int 2)=.ok (.int (w.fdiv 2)):=J0 (by decide) (by decide);simp[i6,mw,d1,mm,d2,d3,aM,sizeLine,wl,dw]
  ·cases h
section
seal PySem.eval
def bL (N9:z9 P w K mg base 1 "_law_cell" 2 bZ)(F7:z9 P w K mg base 1 "_law_drawn_way" 2 dP)(jv:mg "range"=none)(il:mg "list"=none)(dg:mg "len"=none)(ua:mg "tuple"=none)(g:eT K mg "_law_flat" N7):z9 P w K mg base 2 "_law_flat" 2 qY:=by
 refine' p8 (k:=1) (F:=_) g qN (λhr hu jb nd=>?b) λds d hl h=>?_
 case b=>
  refine' (c6 (j0 2 (d4 t4 (PD.pb<|cW N9 hr (c7 0)<|c7 1)<|b9 1) nd)
   (c6 (j0 3 (j3 (PD.pb<|W5<|c9 d7<|c9 d7<|c9 (d4 t4 (PD.pb<|d4 y8 J5<|PD.pb<|d4 FI J5 J5) J5)<|c9 (d4 t4 (PD.pb<|d4 y8 J5<|PD.pb<|d4 FI J5 J5) J5) j4)<|d4 P8 (PD.pb<|d4 D9 (b9 2) J5) J5) nd)
   (c6 (j0 4 (cW F7 hr (d4 t4 (PD.pb<|d4 D9 (PD.pb<|cW N9 hr (c7 0)<|d4 t4 (b9 1) J5) J5)<|PD.pb<|d4 y8 J5<|b9 1)<|c7 3) nd)
   (c6 (j0 5 (eM ["j"] ["wide", "k", "script"] [3,1,0] rfl (iN (sc:=c5 N7) (N:=aZ)) (Y1<|v6 (PD.pb<|d4 P8 (b9 2) J5) F6) (UK λ_ _ _ _ _=>(cW F7 hr (d4 t4 (PD.pb<|d4 D9 (PD.pb<|cW N9 hr (c7 3)<|d4 t4 (PD.pb<|d4 t4 (b9 2) J5)<|b9 0)<|PD.pb<|d4 t4 J5<|b9 0)<|PD.pb<|d4 y8 J5<|b9 2)<|c7 1))<|λ_=>M2) nd)
   (c6 (fM 6 (dU j4) nd)
   (c6 (R0 aBv rfl (Y1<|v6 (PD.pb<|d4 t4 J5<|PD.pb<|d4 P8 (PD.pb<|d4 D9 (b9 2) J5)<|PD.pb<|j3 (PD.pb<|W5<|c9 d7<|c9 d7<|c9 d7<|c9 d7 j4)<|d4 P8 (PD.pb<|d4 D9 (b9 2) J5) J5) F6) (y6 7 nd) (c6 (j0 8 (gQ AT<|v6 (b9 4) F6) nd)
   (c6 (R0 aBv rfl (Y1<|v6 (PD.pb<|KN bJ<|b9 5) F6) (y6 9 nd) (c6 (j0 10 (d4 T1 (PD.pb<|d4 P8 (PD.pb<|d4 D9 (b9 2)<|PD.pb<|d4 t4 (PD.pb<|d4 t4 J5<|PD.pb<|d4 y8 J5<|b9 7)<|b9 9) J5) J5) nd)
   (d5<|j0 8 (eM ["i"] ["point", "times", "ways", "j"] [8,10,5,9] rfl (iN (sc:=c5 N7) (N:=aZ)) (Y1<|v6 J5 F6) (UK λ_ _ _ _ _=>(d4 t4 (PD.pb<|j3 (b9 1)<|c7 0)<|PD.pb<|d4 y8 (b9 2)<|PD.pb<|j3 (PD.pb<|j3 (b9 3)<|c7 4)<|c7 0))<|λ_=>M2) nd)))
   (d5<|aF 6<|gQ GZ<|v6 (b9 8) F6))))
   (d5<|AI 6<|i9<|c7 6)))))))
 match ds,h with
 |[.lst xs,.int k],h=>
  simp only[qY]at h;split at h
  ·rename_i hz;rw[<-h];obtain⟨hi,k0,k60⟩:=hz;obtain⟨c0,b0⟩:=EY hi k k0 (by lia);obtain⟨c1,b1⟩:=EY hi (k+1) (by lia) (by lia);have cj:∀j:Nat,j<3->bZ [.lst xs,.int (k+2+(j:Int))]=.ok (.int (cJ xs<|k+2+(j:Int)))/\bits (cJ xs<|k+2+(j:Int))<=2000000:=λj hj=>EY hi _ (by lia) (by lia);have bk:bits k<=10:=q8 (by lia) (by lia);obtain⟨c,ec⟩:∃c,cJ xs k+k=c:=⟨_,rfl⟩;have bc:bits c<=3000000:=by rw[<-ec];exact n6 (bits_add (n:=2000000) b0 (n6 bk (by decide))) (by decide)
   have hw:=kJ c;have d3:Q5 (.int c) (.int 3)=.ok (.int (c.fdiv 3)):=J0 (by decide) (by decide);have m4:aX (.int (c.fdiv 3)) (.int 4)=.ok (.int ((c.fdiv 3).fmod 4)):=G6 (by decide);have f4:=A2 (a:=c.fdiv 3) (b:=4) (by decide);have p9:IL (.int 10) (.int 9)=.ok (.int 1000000000):=rfl;have p20:IL (.int 10) (.int 20)=.ok (.int 100000000000000000000):=rfl;have q9:nD (.int 2) (.int 1000000000)=.ok (.int 2000000000):=rfl;have q20:nD (.int 2) (.int 100000000000000000000)=.ok (.int 200000000000000000000):=rfl;have ixw:O9 (.lst [.int 7,.int 2001,.int 2000000001,.int 200000000000000000001]) (.int ((c.fdiv 3).fmod 4))=.ok (.int (J1 c)):=by unfold J1;rcases(show(c.fdiv 3).fmod 4=0\/(c.fdiv 3).fmod 4=1\/(c.fdiv 3).fmod 4=2\/(c.fdiv 3).fmod 4=3 by lia)with e|e|e|e<;>rw[e]<;>rfl
   have e3:Q5 (.int (cJ xs<|k+1)) (.int 3)=.ok (.int ((cJ xs<|k+1).fdiv 3)):=J0 (by decide) (by decide);have k5:nD (.int 5) (.int k)=.ok (.int (5*k)):=i7 (p6.of (show bits 5<=5 by decide) bk);have k11:nD (.int 11) (.int k)=.ok (.int (11*k)):=i7 (p6.of (show bits 11<=5 by decide) bk);have ba:dP [.int ((cJ xs<|k+1).fdiv 3+5*k),.int (J1 c)]=.ok (wl<|lA xs k):=by unfold lA;rw[ec];exact AL (n6 (bits_add (n:=2000000) (bits_fdiv b1) (n6 (bits_mul (show bits 5<=5 by decide) bk) (by decide))) (by decide)) hw
   have wa:∀j:Nat,j<3->Q5 (.int (cJ xs<|k+2+(j:Int))) (.int (2+(j:Int)))=.ok (.int ((cJ xs<|k+2+(j:Int)).fdiv (2+(j:Int))))/\dP [.int ((cJ xs<|k+2+(j:Int)).fdiv (2+(j:Int))+11*k),.int (J1 c)]=.ok (wl<|dw ((cJ xs<|k+2+(j:Int)).fdiv (2+(j:Int))+11*k)<|J1<|cJ xs k+k):=λj hj=>⟨J0 (by lia) (by lia),by rw[ec];exact AL (n6 (bits_add (n:=2000000) (bits_fdiv (cj j hj).2) (n6 (bits_mul (show bits 11<=5 by decide) bk) (by decide))) (by decide)) hw⟩
   have f3:=A2 (a:=c) (b:=3) (by decide);have m3:aX (.int c) (.int 3)=.ok (.int (c.fmod 3)):=G6 (by decide);obtain⟨n,en⟩:∃n:Nat,(n:Int)=c.fmod 3:=⟨(c.fmod 3).toNat,by lia⟩;have hn:n<3:=by lia
   have en':(c.fmod 3).toNat=n:=by lia
   have rn:=RI (n:=n) (by lia);have wc:∀fe:Ev->R D,(∀j:Nat,j<3->fe [.v (.int (j:Int)),.v (.int (J1 c)),.v (.int k),.v (.lst xs)]=.ok (wl<|dw ((cJ xs<|k+2+(j:Int)).fdiv (2+(j:Int))+11*k)<|J1<|cJ xs k+k))->y7 (λd ρ=>R.ok (aDw ρ 0<|Sl.v d)) (λ_=>R.ok true) fe [.no,.v (.int (J1 c)),.v (.int k),.v (.lst xs)] ((aBb n).map λ(k:Nat)=>D.int (k:Int))=.ok ((iY xs k n).map wl):=λfe hfe=>by rw[cE (λ(k:Nat)=>D.int (k:Int)) (λj=>wl (dw ((cJ xs<|k+2+(j:Int)).fdiv (2+(j:Int))+11*k)<|J1<|cJ xs k+k)) (aBb n) λj hj=>⟨_,rfl,hfe j (by have:=aBE.mp hj;lia)⟩];unfold iY;rw[aCi];rfl
   have zr:((aBb n).map λ(k:Nat)=>D.int (k:Int)).length<=sizeLine:=by rw[aAl,aDO];exact small (by lia)
   unfold dE;rw[ec,en'];have wz:=AZ (xs:=xs) (k:=k) (n:=n);have wn:=vL (xs:=xs) (k:=k) (n:=n);simp only[i6,aAs,aDR,aBm,aDe,aAt,aBF,aFZ,aGa,aBh,aEs];refine aU (by simp[c0,ec];rfl) ?_;refine aU (by simp[p9,p20,q9,q20,aM,sizeLine,d3,m4,ixw];rfl) ?_;refine aU (by simp[c1,e3,k5,ba];rfl) ?_;refine aU (ρ:=[.v (.lst xs),.v (.int k),.v (.int c),.v (.int (J1 c)),.v (wl<|lA xs k),.v (.lst ((iY xs k n).map wl)),.no,.no,.no,.no,.no]) ?_ ?_
   ·simp-implicitDefEqProofs only[mH,tR,bI,fH,qS,R.aa0,m3,<-en,rn,if_pos zr];rw[show j2 ["j"] [3,1,0] [.v (.lst xs),.v (.int k),.v (.int c),.v (.int (J1 c)),.v (wl<|lA xs k),.no,.no,.no,.no,.no,.no]=[.no,.v (.int (J1 c)),.v (.int k),.v (.lst xs)]from rfl];rw[wc _ λj hj=>?_]
    ·rfl
    ·obtain⟨w1,w2⟩:=wa j hj;have w3:=(cj j hj).1;simp[w3,w1,k11,w2]
   clear wc wa cj rn zr ba c0 c1 e3 k5 k11 ixw;have bz:Sz 80 (lA xs k):=IK (kJ _);generalize iY xs k n=ws at*
   generalize lA xs k=b at*
   refine aU (ρ:=[.v (.lst xs),.v (.int k),.v (.int c),.v (.int (J1 c)),.v (wl b),.v (.lst (ws.map wl)),.o [],.no,.no,.no,.no]) rfl ?_;have d12:Q5 (.int c) (.int 12)=.ok (.int (c.fdiv 12)):=J0 (by decide) (by decide);have d108:Q5 (.int c) (.int 108)=.ok (.int (c.fdiv 108)):=J0 (by decide) (by decide);have m108:aX (.int (c.fdiv 108)) (.int 4)=.ok (.int ((c.fdiv 108).fmod 4)):=G6 (by decide);have f108:=A2 (a:=c.fdiv 108) (b:=4) (by decide);obtain⟨y1,y2,y3⟩:=qI c;have ix9:O9 (.lst [.int 9,.int 9,.int 9,.int 40]) (.int ((c.fdiv 108).fmod 4))=.ok (.int (if(c.fdiv 108).fmod 4=3 then 40 else 9)):=by rcases(show(c.fdiv 108).fmod 4=0\/(c.fdiv 108).fmod 4=1\/(c.fdiv 108).fmod 4=2\/(c.fdiv 108).fmod 4=3 by lia)with e|e|e|e<;>rw[e]<;>rfl
   have mq:aX (.int (c.fdiv 12)) (.int (if(c.fdiv 108).fmod 4=3 then 40 else 9))=.ok (.int ((c.fdiv 12).fmod (if(c.fdiv 108).fmod 4=3 then 40 else 9))):=G6 (by split<;>decide);have l4:aM [.int 9,.int 9,.int 9,.int 40]=.ok (.lst [.int 9,.int 9,.int 9,.int 40]):=rfl;have rm:=RI (n:=jP c) (by lia);rw[y3]at rm;simp-implicitDefEqProofs only[mH,tR,jJ,cK,bI,fH,qS,R.aa0,d12,d108,m108,l4,ix9,mq,KT,rm];unfold M.lE;refine fR (λrest ρ=>∃(l:List Nat) (acc:List G.V) (z1 z2 z3 z4:Sl),rest=l.map (λ(i:Nat)=>D.int (i:Int))/\ρ=[.v (.lst xs),.v (.int k),.v (.int c),.v (.int (J1 c)),.v (wl b),.v (.lst (ws.map wl)),.o (acc.map vd),z1,z2,z3,z4]/\acc++l.map (DK c b ws)=(aBb<|jP c).map (DK c b ws)/\(∀i∈l,i<40)/\acc.length+l.length<=40) ?_ ⟨aBb (jP c),[],_,_,_,_,rfl,rfl,rfl,λi hi=>by have:=aBE.mp hi;lia,by simp;lia⟩ ?_
   ·rintro d ds ρ ⟨l,acc,z1,z2,z3,z4,e1,rfl,e2,e3,e4⟩;match l,e1,e2,e3,e4 with
    |i::l,e1,e2,e3,e4=>
     injection e1 with e5 e6;subst e5;have i40:=e3 i (by simp);rw[aAt]at e4;have bi:bits (i:Int)<=10:=q8 (by lia) (by lia);have k7:nD (.int 7) (.int (i:Int))=.ok (.int (7*(i:Int))):=i7 (p6.of (show bits 7<=5 by decide) bi);have g0:Q5 (.int c) (.int (5+7*(i:Int)))=.ok (.int (c.fdiv<|5+7*(i:Int))):=J0 (by lia) (by lia);have g1:Q5 (.int c) (.int (5+7*(i:Int)+1))=.ok (.int (c.fdiv<|5+7*(i:Int)+1)):=J0 (by lia) (by lia);have h0:aX (.int (c.fdiv<|5+7*(i:Int))) (.int 5)=.ok (.int ((c.fdiv<|5+7*(i:Int)).fmod 5)):=G6 (by decide);have h1:aX (.int (c.fdiv<|5+7*(i:Int)+1)) (.int 5)=.ok (.int ((c.fdiv<|5+7*(i:Int)+1).fmod 5)):=G6 (by decide);have t0:HD c i 0=(c.fdiv<|5+7*(i:Int)).fmod 5-2:=by simp[HD]
     have t1:HD c i 1=(c.fdiv<|5+7*(i:Int)+1).fmod 5-2:=by simp[HD]
     have r0:=X3 c i 0;have r1:=X3 c i 1;rw[t0]at r0;rw[t1]at r1;have tb:∀t:Int,-2<=t/\t<=2->bits t<=3:=λt ht=>q8 (by lia) (by lia);have i3:∀x y z:D,O9 (.lst [x,y,z]) (.int 0)=.ok x/\O9 (.lst [x,y,z]) (.int 1)=.ok y/\O9 (.lst [x,y,z]) (.int 2)=.ok z:=λ_ _ _=>⟨rfl,rfl,rfl⟩;have rg3:W9 [.int 3]=.ok [.int 0,.int 1,.int 2]:=rfl;have lz:sS [wl b]=.ok (wl b):=rfl;have tp:∀x y z:Int,rQ [.lst [.int x,.int y,.int z]]=.ok (.tup [.int x,.int y,.int z]):=λ_ _ _=>rfl;have la:(acc.map vd).length<16777216:=by rw[aAl];lia
     suffices hh:∃ρ2,jE (λd ρ=>R.ok (ρ.set 7<|Sl.v d)) _ (D.int (i:Int)) [.v (.lst xs),.v (.int k),.v (.int c),.v (.int (J1 c)),.v (wl b),.v (.lst (ws.map wl)),.o (acc.map vd),z1,z2,z3,z4]=.ok (.nx ρ2)/\∃a1 a2 a3 a4,ρ2=[.v (.lst xs),.v (.int k),.v (.int c),.v (.int (J1 c)),.v (wl b),.v (.lst (ws.map wl)),.o (acc.map vd++[vd (DK c b ws i)]),a1,a2,a3,a4]by obtain⟨ρ2,q1,a1,a2,a3,a4,rfl⟩:=hh;exact⟨_,q1,l,acc++[DK c b ws i],a1,a2,a3,a4,e6,by rw[aBJ];rfl,by rw[<-e2,aDi];rfl,λj hj=>e3 j (by simp[hj]),by rw[aAz];simp;lia⟩
     clear e2 e3 e6;match ws,wn,wz with
     |[],wn,wz=>
      have r0:W9 [.int 0]=.ok []:=rfl;generalize acc.map vd=AC at*
      have vp:vd (DK c b [] i)=.tup [.int b.x,.int b.y,.int b.z]:=rfl;rw[vp];have lw:wl b=.lst [.int b.x,.int b.y,.int b.z]:=rfl;simp[lz,r0,O8,lw,tp,mW,la,sizeLine]
     |[u],wn,wz=>
      have r1':W9 [.int 1]=.ok [.int 0]:=rfl;have su:=wz u (by simp);generalize acc.map vd=AC at*
      have vp:vd (DK c b [u] i)=.tup [.int (b.x+((c.fdiv<|5+7*(i:Int)).fmod 5-2)*u.x),.int (b.y+((c.fdiv<|5+7*(i:Int)).fmod 5-2)*u.y),.int (b.z+((c.fdiv<|5+7*(i:Int)).fmod 5-2)*u.z)]:=by rw[<-t0];rfl
      rw[vp];clear vp t0 t1 r1 g1 h1;have m1:aX (.int (c.fdiv<|5+7*(i:Int))) (.int 5)=.ok (.int ((c.fdiv<|5+7*(i:Int)).fmod 5)):=h0;obtain⟨tt,ett⟩:∃t,(c.fdiv<|5+7*(i:Int)).fmod 5-2=t:=⟨_,rfl⟩;rw[ett]at r0⊢;have x1:=i7 (p6.of (tb tt r0) su.1);have x2:=i7 (p6.of (tb tt r0) su.2.1);have x3:=i7 (p6.of (tb tt r0) su.2.2);have sb:vX (.int ((c.fdiv<|5+7*(i:Int)).fmod 5)) (.int 2)=.ok (.int tt):=by rw[<-ett];rfl
      have iw:O9 (.lst [wl u]) (.int 0)=.ok (.lst [.int u.x,.int u.y,.int u.z]):=rfl;have lw:wl b=.lst [.int b.x,.int b.y,.int b.z]:=rfl;simp[-eZ,lz,r1',O8,k7,g0,h0,sb,j2,rg3,iw,lw,i3,x1,x2,x3,tp,mW,la,sizeLine]
     |[u,v],wn,wz=>
      have r2':W9 [.int 2]=.ok [.int 0,.int 1]:=rfl;have su:=wz u (by simp);have sv:=wz v (by simp);generalize acc.map vd=AC at*
      have vp:vd (DK c b [u,v] i)=.tup [.int (b.x+((c.fdiv<|5+7*(i:Int)).fmod 5-2)*u.x+((c.fdiv<|5+7*(i:Int)+1).fmod 5-2)*v.x),.int (b.y+((c.fdiv<|5+7*(i:Int)).fmod 5-2)*u.y+((c.fdiv<|5+7*(i:Int)+1).fmod 5-2)*v.y),.int (b.z+((c.fdiv<|5+7*(i:Int)).fmod 5-2)*u.z+((c.fdiv<|5+7*(i:Int)+1).fmod 5-2)*v.z)]:=by rw[<-t0,<-t1];rfl
      rw[vp];clear vp t0 t1;obtain⟨tt,ett⟩:∃t,(c.fdiv<|5+7*(i:Int)).fmod 5-2=t:=⟨_,rfl⟩;obtain⟨ss,ess⟩:∃t,(c.fdiv<|5+7*(i:Int)+1).fmod 5-2=t:=⟨_,rfl⟩;rw[ett]at r0⊢;rw[ess]at r1⊢;have x1:=i7 (p6.of (tb tt r0) su.1);have x2:=i7 (p6.of (tb tt r0) su.2.1);have x3:=i7 (p6.of (tb tt r0) su.2.2);have v1:=i7 (p6.of (tb ss r1) sv.1);have v2:=i7 (p6.of (tb ss r1) sv.2.1);have v3:=i7 (p6.of (tb ss r1) sv.2.2);have sb:vX (.int ((c.fdiv<|5+7*(i:Int)).fmod 5)) (.int 2)=.ok (.int tt):=by rw[<-ett];rfl
      have sb2:vX (.int ((c.fdiv<|5+7*(i:Int)+1).fmod 5)) (.int 2)=.ok (.int ss):=by rw[<-ess];rfl
      have iw:O9 (.lst [wl u,wl v]) (.int 0)=.ok (.lst [.int u.x,.int u.y,.int u.z]):=rfl;have iw2:O9 (.lst [wl u,wl v]) (.int 1)=.ok (.lst [.int v.x,.int v.y,.int v.z]):=rfl;have lw:wl b=.lst [.int b.x,.int b.y,.int b.z]:=rfl;simp[-eZ,lz,r2',O8,k7,g0,h0,sb,g1,h1,sb2,j2,rg3,iw,iw2,lw,i3,x1,x2,x3,v1,v2,v3,tp,mW,la,sizeLine]
     |_::_::_::_,wn,wz=>exact absurd wn (by simp;lia)
   ·rintro ρ ⟨l,acc,z1,z2,z3,z4,e1,rfl,e2,e3,e4⟩;have l0:l=[]:=by simpa using e1.symm
    subst l0;rw[aDR,aBr]at e2;rw[<-e2];rfl
  ·cases h
end
def R6 (ag:mg "isinstance"=none)(gm:mg "ValueError"=none)(dR:bO P w K mg base 10 "body_of" 1 (M0 af aa))(N3:bO P w K mg base 9 "faces_of" 1 (M0 af aa))(C8:bO P w K mg base 2 "dimension_of" 1 (jM aa))(fu:XCls K mg ae "BodyError" ae)(ig:XCls K mg ae "Flat" af)(bh:XCls K mg ae "NoPoints" aa)(jc:mg "TooGreat"=some (.ref au))(ko:mg "NoText"=some (.ref dc))(nv:mg "NoRow"=some (.ref dn))(kr:mg "NoName"=some (.ref de))(ku:mg "NoMove"=some (.ref cu))(lb:mg "NoAxis"=some (.ref cp))(gr:mg "NoPoints"=some (.ref aa))(oa:mg "Flat"=some (.ref af))(i_Flat_TooGreat:PySem.W.kitOne K (.ref af) (.ref au)=some false)(i_NoPoints_TooGreat:PySem.W.kitOne K (.ref aa) (.ref au)=some false)(i_Flat_NoText:PySem.W.kitOne K (.ref af) (.ref dc)=some false)(i_NoPoints_NoText:PySem.W.kitOne K (.ref aa) (.ref dc)=some false)(i_Flat_NoRow:PySem.W.kitOne K (.ref af) (.ref dn)=some false)(i_NoPoints_NoRow:PySem.W.kitOne K (.ref aa) (.ref dn)=some false)(i_Flat_NoName:PySem.W.kitOne K (.ref af) (.ref de)=some false)(i_NoPoints_NoName:PySem.W.kitOne K (.ref aa) (.ref de)=some false)(i_Flat_NoMove:PySem.W.kitOne K (.ref af) (.ref cu)=some false)(i_NoPoints_NoMove:PySem.W.kitOne K (.ref aa) (.ref cu)=some false)(i_Flat_NoAxis:PySem.W.kitOne K (.ref af) (.ref cp)=some false)(i_NoPoints_NoAxis:PySem.W.kitOne K (.ref aa) (.ref cp)=some false)(i_Flat_NoPoints:PySem.W.kitOne K (.ref af) (.ref aa)=some false)(i_NoPoints_NoPoints:PySem.W.kitOne K (.ref aa) (.ref aa)=some true)(i_Flat_Flat:PySem.W.kitOne K (.ref af) (.ref af)=some true)(i_NoPoints_Flat:PySem.W.kitOne K (.ref aa) (.ref af)=some false)(i_Flat_ValueError:PySem.W.kitOne K (.ref af) (.type "ValueError")=some true)(i_NoPoints_ValueError:PySem.W.kitOne K (.ref aa) (.type "ValueError")=some true)(g:eT K mg "_law_kinds" Z0):z9 P w K mg base 11 "_law_kinds" 2 S4:=by
 refine' p8 (k:=10) (F:=_) g nQ (λhr hu jb nd=>?b) λds d hl h=>?_
 case b=>
  refine' (c6 (j0 2 (W5 j4) nd)
   (c6 (MG 3 (lZ af aa) nd rfl rfl rfl (JV ig bh) fu.ex (by decide) fu.nm wX (by exact(FZ (m7 (bG hu) (b9 0) J5) (kX (rB dR (hr.mono (by decide)) (c9 (c7 1) j4)<|o8 C7)) (FZ (m7 (bG hu) (b9 0) J5) (kX (rB N3 (hr.mono (by decide)) (c9 (c7 1) j4)<|o8 C7)) (kX (rB C8 (hr.mono (by decide)) (c9 (c7 1) j4)<|o8 C7))))) (by intro _;exact(d5 (j0 2 (W5 (c9 (NO (K:=K) (i:=3) (T:= "ValueError") (by decide+kernel) gm ag)<|c9 (V4 (K:=K) (i:=3) oa ag)<|c9 (V4 (K:=K) (i:=3) gr ag)<|c9 (V4 (K:=K) (i:=3) lb ag)<|c9 (V4 (K:=K) (i:=3) ku ag)<|c9 (V4 (K:=K) (i:=3) kr ag)<|c9 (V4 (K:=K) (i:=3) nv ag)<|c9 (V4 (K:=K) (i:=3) ko ag)<|c9 (V4 (K:=K) (i:=3) jc ag) j4)) nd))))
   (d5<|i9<|c7 2)))
 obtain⟨a,xs,rfl,hk⟩:=JT h;have oF:=ig.ok;have oN:=bh.ok;have qa:lZ af aa (.ref af)=true:=by simp[lZ]
 have qc:lZ af aa (.ref aa)=true:=by simp[lZ]
 rcases hk with⟨rfl,h0,h3,rfl⟩|⟨pts,rfl,hn,ha,h1,hs,rfl⟩
 ·have e1:M0 af aa [.lst []]=some (.ref aa):=rfl;have e2:jM aa [.lst []]=some (.ref aa):=rfl;rcases(show a=0\/a=1\/a=2 by lia)with rfl|rfl|rfl<;>simp[i6,NB,UJ,mX,e1,e2,qc,UR,oN,i_Flat_Flat,i_Flat_ValueError,i_Flat_NoAxis,i_Flat_NoMove,i_Flat_NoName,i_Flat_NoPoints,i_Flat_NoRow,i_Flat_NoText,i_Flat_TooGreat,i_NoPoints_Flat,i_NoPoints_ValueError,i_NoPoints_NoAxis,i_NoPoints_NoMove,i_NoPoints_NoName,i_NoPoints_NoPoints,i_NoPoints_NoRow,i_NoPoints_NoText,i_NoPoints_TooGreat,unset,sizeLine,aM,jQ]
 ·have e1:=CW (cF:=af) (cN:=aa) h1 hn hs;generalize pts.map vd=L at*
  rcases ha with rfl|rfl<;>simp[i6,NB,UJ,mX,e1,qa,UR,oF,i_Flat_Flat,i_Flat_ValueError,i_Flat_NoAxis,i_Flat_NoMove,i_Flat_NoName,i_Flat_NoPoints,i_Flat_NoRow,i_Flat_NoText,i_Flat_TooGreat,i_NoPoints_Flat,i_NoPoints_ValueError,i_NoPoints_NoAxis,i_NoPoints_NoMove,i_NoPoints_NoName,i_NoPoints_NoPoints,i_NoPoints_NoRow,i_NoPoints_NoText,i_NoPoints_TooGreat,unset,sizeLine,aM,jC]
section
seal PySem.eval
def o_law {f:Addr}{fd:FuncData}(bL:z9 P w K mg base 2 "_law_flat" 2 qY)(Y2:z9 P w K mg base 11 "is_body" 1 F5)(R6:z9 P w K mg base 11 "_law_kinds" 2 S4)(n8:z9 P w K mg base 2 "dimension_of" 1 j8)(X5:z9 P w K mg base 10 "body_of" 1 J3)(jv:mg "range"=none)(b_max:mg "max"=none)(td:mg "min"=none)(dg:mg "len"=none)(il:mg "list"=none)(F0:Fun K "law" "law" fI f fd):FnOk P w K mg base rG 12 f fd ["script"] (UI K 1 fX):=by
 refine' my (k:=11) (F:=_) F0 HW (λcdv A outer s H E hr=>?b) λds d hl h=>?_
 case b=>
  have hu:=hr.units;have jb:=hr.ae4;have nd:=HW.nd;refine' (c6 (R0 aBv rfl (Y1<|v6 (PD.pb<|fC (NM rfl)<|v6 J5<|v6 (PD.pb<|fC (NW rfl)<|v6 (PD.pb<|KN bJ<|b9 0)<|v6 J5 F6) F6) F6) (y6 1 nd) (c6 (j0 2 (cW bL hr (c7 0)<|c7 1) nd)
   (c6 (j0 3 (gQ AT<|v6 (b9 2) F6) nd)
   (c6 (D5 (zN.pt<|kZ (m7 (kK hu) (PD.pb<|cW R6 hr (d4 P8 (b9 1) J5)<|c7 3)<|PD.pb<|d4 t4 (PD.pb<|W5<|c9 U8<|c9 U8 j4)<|PD.pb<|KE (dU<|c9 U8 j4) d7)<|gA<|m7 DS (PD.pb<|sE Y2 hr<|c7 3)<|PD.pb U8) (d5<|i9 U8) t5)
   (c6 (D5 (zN.pt<|kZ (m7 (kK hu) (PD.pb<|cW R6 hr (d4 P8 (b9 1) J5)<|W5 j4)<|PD.pb<|d4 t4 (PD.pb<|W5<|c9 U8<|c9 U8<|c9 U8 j4)<|PD.pb<|KE (dU<|c9 U8 j4) d7)<|gA<|m7 (kK hu) (b9 3)<|b9 2) (d5<|i9 U8) t5)
   (d5 (D5 (m7 (bG hu) (PD.pb<|d4 P8 (b9 1) J5) J5) (c6 (LI (j3 (b9 2) d7)<|zR (n:=3) rfl<|X4 (y6 4 nd)<|X4 (y6 5 nd)<|X4 (y6 6 nd) sK)
   (c6 (j0 7 (d4 t4 (PD.pb<|oU (b9 2) Y3<|Y4 d7)<|PD.pb<|W5<|c9 (TJ (d4 t4 (b9 4) J5) (c7 5)<|c7 6)<|c9 (TJ (c7 4) (d4 t4 (b9 5) J5)<|c7 6)<|c9 (TJ (c7 4) (c7 5)<|d4 t4 (b9 6) J5) j4) nd)
   (d5<|D5 (zN.pt<|kZ (MK<|AB<|sE Y2 hr<|sE X5 hr<|c7 7)<|gA<|m7 (kK hu) (PD.pb<|sE n8 hr<|c7 7) J5) (d5<|i9 U8) t5))) t5)))))))
   (d5<|i9<|wW QV (PD.pb<|sE Y2 hr<|W5 j4)<|PD.pb U8))
 match ds,h with
 |[.lst xs],h=>
  simp only[fX]at h;split at h
  ·rename_i hz;obtain⟨hlen,hi⟩:=hz;rw[<-h];obtain⟨M,hM,hM0,hM1⟩:∃M:Int,(if(if(30:Int)<(xs.length:Int)then(30:Int)else(xs.length:Int))>1 then(if(30:Int)<(xs.length:Int)then(30:Int)else(xs.length:Int))else 1)=M/\0<M/\M<=30:=⟨_,rfl,by split<;>lia,by split<;>split<;>lia⟩;obtain⟨m,rfl⟩:∃m:Nat,M=(m:Int):=⟨M.toNat,by lia⟩;have rm:=RI (n:=m) (by lia);simp-implicitDefEqProofs only[i6,aAs,aDR,aBm,aDe,aAt,aBF,aFZ,aGa,aBh,aEs,bI,fH,tR,qS,R.aa0,qK,KS,MZ,hM,rm];refine KM (λρ=>∃a b c d e f g,ρ=[.v (.lst xs),a,b,c,d,e,f,g]) ?_ ⟨_,_,_,_,_,_,_,rfl⟩ (by rintro av ⟨a,b,c,d,e,f,g,rfl⟩;simp[aM,sizeLine,GF]);rintro d hd ρ ⟨z1,z2,z3,z4,z5,z6,z7,rfl⟩;obtain⟨j,hj,rfl⟩:=aAp.mp hd;have hj:=aBE.mp hj;obtain⟨k,ek⟩:∃k:Int,(j:Int)=k:=⟨_,rfl⟩;have k0:0<=k:=by lia
   have k30:k<30:=by lia
   rw[ek,Z6];have fl:qY [.lst xs,.int k]=.ok (.lst ((dE xs k).map vd)):=if_pos ⟨hi,k0,by lia⟩;have dr:=wM xs k;generalize dE xs k=pts at*
   have z:R8 1000 pts:=⟨λP hP=>(dr.sz P hP).mono,by have:=dr.len;lia⟩;have m2:aX (.int k) (.int 2)=.ok (.int (k.fmod 2)):=G6 (by decide);have m3:aX (.int k) (.int 3)=.ok (.int (k.fmod 3)):=G6 (by decide);have m8:aX (.int k) (.int 8)=.ok (.int (k.fmod 8)):=G6 (by decide);have g2:=A2 (a:=k) (b:=2) (by decide);have g3:=A2 (a:=k) (b:=3) (by decide);have q1:=xV (a:=k.fmod 2) (by lia) z dr.ne dr.flat;have q2:S4 [.int (k.fmod 3),.lst []]=.ok jQ:=if_pos ⟨g3.1,g3.2⟩;have q3:=DO dr;have n1:=rE (qW pts);have zl:(pts.map vd).length<=16777216:=by rw[aAl];have:=dr.len;lia
   have kn1:EJ jC jC=.ok (.bl false):=rE (by simp[jC,E6,G3]);have kn2:EJ jQ jQ=.ok (.bl false):=rE (by simp[jQ,E6,G3]);have r7:MA [.bl false] (.int 7)=.ok (.lst [.bl false,.bl false,.bl false,.bl false,.bl false,.bl false,.bl false]):=rfl;have r6:MA [.bl false] (.int 6)=.ok (.lst [.bl false,.bl false,.bl false,.bl false,.bl false,.bl false]):=rfl;have a7:jY (.lst [.bl true,.bl true]) (.lst [.bl false,.bl false,.bl false,.bl false,.bl false,.bl false,.bl false])=.ok jC:=rfl;have a6:jY (.lst [.bl true,.bl false,.bl true]) (.lst [.bl false,.bl false,.bl false,.bl false,.bl false,.bl false])=.ok jQ:=rfl;refine rM (by simp[fl];rfl) ?_;refine rM (by simp[sS,sizeLine,zl];rfl) ?_;refine rM (by simp[m2,q1,aM,sizeLine,r7,a7,kn1,q3];rfl) ?_;refine rM (by simp[m3,q2,aM,sizeLine,r6,a6,kn2,n1];rfl) ?_;match pts,dr,zl with
   |[],dr,zl=>exact absurd rfl dr.ne
   |P::r,dr,zl=>
    obtain⟨B,o1,o2,o3⟩:=NJ dr;clear q1 q2 q3 n1 fl z;have i0:O9 (.lst ((P::r).map vd)) (.int 0)=.ok (.tup [.int P.x,.int P.y,.int P.z]):=fY (PV _ _);have s9:mS (.lst ((P::r).map vd)) none (some 9)=.ok (.lst (((P::r).take 9).map vd)):=by rw[aGb];exact RD _
    have ad:jY (.lst (((P::r).take 9).map vd)) (.lst [.tup [.int (P.x+1),.int P.y,.int P.z],.tup [.int P.x,.int (P.y+1),.int P.z],.tup [.int P.x,.int P.y,.int (P.z+1)]])=.ok (.lst ((O6 P r).map vd)):=by
     unfold O6;rw[aBJ];exact qH (by
      have:((P::r).take 9).length<=9:=by rw[aBj];exact Nat.min_le_left _ _
      rw[aAl];exact small (by simp only[aAt,aBF];lia))
    generalize(O6 P r).map vd=MV at*
    generalize((P::r).take 9).map vd=T9 at*
    generalize(P::r).map vd=L at*
    generalize B.map vd=BV at*
    by_cases h8:k.fmod 8=0
    ·exact⟨[.v (.lst xs),.v (.int k),.v (.lst L),.v (.lst L),.v (.int P.x),.v (.int P.y),.v (.int P.z),.v (.lst MV)],by simp[m8,h8,i0,SM,uI,lV,HG,s9,aM,sizeLine,ad,o1,o2,o3],_,_,_,_,_,_,_,rfl⟩
    ·exact⟨[.v (.lst xs),.v (.int k),.v (.lst L),.v (.lst L),z4,z5,z6,z7],by simp[m8,h8],_,_,_,_,_,_,_,rfl⟩
  ·cases h
end
end
end K16
section
namespace K16
open PySem L2 DL M
def truth (ns:List Int)(h1:ns.length<=63)(h2:∀x∈ns,aAQ x<=1048576):fX [.lst (ns.map D.int)]=.ok (.bl true):=by unfold fX;exact if_pos ⟨by simpa using h1,NA h2⟩
end K16
namespace K16
open PySem L2 DL M
variable [Tabs]
def all_mk {l:PySem.W.OpenLaw}{w:World}{K:PySem.W.Frag}{h:Heap}{mg:V5}{fa f25 Pt:Addr}(X:K.In h)(G:h.Ns mainGlobals mg)(hfa:mg "law"=some (.ref fa))
  (g0:Got K "way_between" W3)
  (g1:Got K "cross_of" dN)
  (g2:Got K "product_of" aJ)
  (g3:Got K "common_divisor" L6)
  (g4:Got K "plane_through" P1)
  (g5:Got K "side_of" iV)
  (g6:Got K "first_real_way" L9)
  (g7:Got K "dimension_of" w9)
  (g8:Got K "refuse_flat" M7)
  (g9:Got K "points_on" U9)
  (g10:Got K "plane_about" V6)
  (g11:Got K "first_pair" Y9)
  (g12:Got K "turn_of" iH)
  (g13:Got K "left_chain" Z5)
  (g14:Got K "ring_of" gP)
  (g15:Got K "pairs_round" V8)
  (g16:Got K "faces_from" aH)
  (g17:LR K "faces_of" F3 Pt)
  (g18:Got K "corners_in" Z9)
  (g19:Got K "body_of" bX)
  (g20:Got K "is_body" iL)
  (g21:Got K "_law_cell" aP)
  (g22:Got K "_law_drawn_way" K9)
  (g23:Got K "_law_flat" N7)
  (g24:Got K "_law_kinds" Z0)
  {od25 an25:Option Addr} {sl25:Array (Option Value)} {oc25 kV25 dc25 pm25 cd25 ct25:Value}
  (a25:PySem.W.nsIn K mainGlobals "law"=some (some (.ref f25))) (l25:K.lookup f25=some ⟨oc25,od25,.func (PySem.W.fnOf "law" "law" (D7 fI) (o6 fI) (c5 fI) .none kV25 dc25 pm25 an25 cd25 ct25),sl25⟩) (e25:PySem.W.codeIn K cd25 "law"=true) (k25:PySem.W.keepIn K (.ref f25)=true)
  (z_abs:PySem.W.nsIn K mainGlobals "abs"=some none)
  (z_len:PySem.W.nsIn K mainGlobals "len"=some none)
  (z_any:PySem.W.nsIn K mainGlobals "any"=some none)
  (z_min:PySem.W.nsIn K mainGlobals "min"=some none)
  (z_list:PySem.W.nsIn K mainGlobals "list"=some none)
  (z_reversed:PySem.W.nsIn K mainGlobals "reversed"=some none)
  (z_zip:PySem.W.nsIn K mainGlobals "zip"=some none)
  (z_sorted:PySem.W.nsIn K mainGlobals "sorted"=some none)
  (z_set:PySem.W.nsIn K mainGlobals "set"=some none)
  (z_range:PySem.W.nsIn K mainGlobals "range"=some none)
  (z_tuple:PySem.W.nsIn K mainGlobals "tuple"=some none)
  (z_isinstance:PySem.W.nsIn K mainGlobals "isinstance"=some none)
  (z_ValueError:PySem.W.nsIn K mainGlobals "ValueError"=some none)
  (z_max:PySem.W.nsIn K mainGlobals "max"=some none)
  {mr:Addr} {dd_NO_WAY:Option Addr} {tk0_NO_WAY tk1_NO_WAY tk2_NO_WAY:Tok} {nn_NO_WAY:Nat} {ss_NO_WAY:Array (Option Value)}
  (ca_NO_WAY:PySem.W.nsIn K mainGlobals "NO_WAY"=some (some (.ref mr))) (cl_NO_WAY:K.lookup mr=some ⟨.type "tuple",dd_NO_WAY,.seq #[.int 0 tk0_NO_WAY,.int 0 tk1_NO_WAY,.int 0 tk2_NO_WAY] nn_NO_WAY,ss_NO_WAY⟩)
  (nt:(Pt,tbK)∈Tabs.tbs)
  {aa af ae au dc dn de cu cp:Addr} {cd_NoPoints cd_Flat cd_BodyError:ClassData}
  (n_NoPoints:PySem.W.nsIn K mainGlobals "NoPoints"=some (some (.ref aa)))
  (n_Flat:PySem.W.nsIn K mainGlobals "Flat"=some (some (.ref af)))
  (n_BodyError:PySem.W.nsIn K mainGlobals "BodyError"=some (some (.ref ae)))
  (n_TooGreat:PySem.W.nsIn K mainGlobals "TooGreat"=some (some (.ref au)))
  (n_NoText:PySem.W.nsIn K mainGlobals "NoText"=some (some (.ref dc)))
  (n_NoRow:PySem.W.nsIn K mainGlobals "NoRow"=some (some (.ref dn)))
  (n_NoName:PySem.W.nsIn K mainGlobals "NoName"=some (some (.ref de)))
  (n_NoMove:PySem.W.nsIn K mainGlobals "NoMove"=some (some (.ref cu)))
  (n_NoAxis:PySem.W.nsIn K mainGlobals "NoAxis"=some (some (.ref cp)))
  (e_NoPoints:PySem.W.excIn K aa XI "ValueError.__new__"=true) (h1_NoPoints:PySem.W.clsIn K aa=some cd_NoPoints) (h2_NoPoints:PySem.W.mroIn K aa (.type "object")=some true) (h3_NoPoints:PySem.W.mroIn K aa (.type "BaseException")=some true)
  (h4_NoPoints:PySem.W.findIn K (.ref aa) "__class__"=some (some (.builtin "object.__class__"))) (h5_NoPoints:PySem.W.findIn K (.ref aa) "__getattribute__"=some (some (.builtin "BaseException.__getattribute__"))) (h6_NoPoints:PySem.W.findIn K (.ref aa) "__getattr__"=some none) (s_NoPoints:PySem.W.mroIn K aa (.ref ae)=some true)
  (e_Flat:PySem.W.excIn K af XI "ValueError.__new__"=true) (h1_Flat:PySem.W.clsIn K af=some cd_Flat) (h2_Flat:PySem.W.mroIn K af (.type "object")=some true) (h3_Flat:PySem.W.mroIn K af (.type "BaseException")=some true)
  (h4_Flat:PySem.W.findIn K (.ref af) "__class__"=some (some (.builtin "object.__class__"))) (h5_Flat:PySem.W.findIn K (.ref af) "__getattribute__"=some (some (.builtin "BaseException.__getattribute__"))) (h6_Flat:PySem.W.findIn K (.ref af) "__getattr__"=some none) (s_Flat:PySem.W.mroIn K af (.ref ae)=some true)
  (e_BodyError:PySem.W.excIn K ae XI "ValueError.__new__"=true) (h1_BodyError:PySem.W.clsIn K ae=some cd_BodyError) (h2_BodyError:PySem.W.mroIn K ae (.type "object")=some true) (h3_BodyError:PySem.W.mroIn K ae (.type "BaseException")=some true)
  (h4_BodyError:PySem.W.findIn K (.ref ae) "__class__"=some (some (.builtin "object.__class__"))) (h5_BodyError:PySem.W.findIn K (.ref ae) "__getattribute__"=some (some (.builtin "BaseException.__getattribute__"))) (h6_BodyError:PySem.W.findIn K (.ref ae) "__getattr__"=some none) (s_BodyError:PySem.W.mroIn K ae (.ref ae)=some true)
  (i_Flat_TooGreat:PySem.W.kitOne K (.ref af) (.ref au)=some false)
  (i_NoPoints_TooGreat:PySem.W.kitOne K (.ref aa) (.ref au)=some false)
  (i_Flat_NoText:PySem.W.kitOne K (.ref af) (.ref dc)=some false)
  (i_NoPoints_NoText:PySem.W.kitOne K (.ref aa) (.ref dc)=some false)
  (i_Flat_NoRow:PySem.W.kitOne K (.ref af) (.ref dn)=some false)
  (i_NoPoints_NoRow:PySem.W.kitOne K (.ref aa) (.ref dn)=some false)
  (i_Flat_NoName:PySem.W.kitOne K (.ref af) (.ref de)=some false)
  (i_NoPoints_NoName:PySem.W.kitOne K (.ref aa) (.ref de)=some false)
  (i_Flat_NoMove:PySem.W.kitOne K (.ref af) (.ref cu)=some false)
  (i_NoPoints_NoMove:PySem.W.kitOne K (.ref aa) (.ref cu)=some false)
  (i_Flat_NoAxis:PySem.W.kitOne K (.ref af) (.ref cp)=some false)
  (i_NoPoints_NoAxis:PySem.W.kitOne K (.ref aa) (.ref cp)=some false)
  (i_Flat_NoPoints:PySem.W.kitOne K (.ref af) (.ref aa)=some false)
  (i_NoPoints_NoPoints:PySem.W.kitOne K (.ref aa) (.ref aa)=some true)
  (i_Flat_Flat:PySem.W.kitOne K (.ref af) (.ref af)=some true)
  (i_NoPoints_Flat:PySem.W.kitOne K (.ref aa) (.ref af)=some false)
  (i_Flat_ValueError:PySem.W.kitOne K (.ref af) (.type "ValueError")=some true)
  (i_NoPoints_ValueError:PySem.W.kitOne K (.ref aa) (.type "ValueError")=some true)
  (truth:∀ns:List Int,ns.length<=63->(∀x∈ns,aAQ x<=1048576)->fX [.lst (ns.map D.int)]=.ok (.bl true)):
  ∃fd:FuncData,(∀(s:Shared) (v:Value),BindsTo s fd ⟨[v],[]⟩ [("script",v)])/\∀base:Heap,K.In base->base.Ns mainGlobals mg->eN mg base->FnOk l.prog w K mg base rG 12 fa fd ["script"] (rW K):=by
 have e:=hfa.symm.trans (PySem.W.mg_of X G a25);cases e;have b_abs:=PySem.W.mg_none_of X G z_abs;have dg:=PySem.W.mg_none_of X G z_len;have b_any:=PySem.W.mg_none_of X G z_any;have td:=PySem.W.mg_none_of X G z_min;have il:=PySem.W.mg_none_of X G z_list;have kn:=PySem.W.mg_none_of X G z_reversed;have b_zip:=PySem.W.mg_none_of X G z_zip;have gg:=PySem.W.mg_none_of X G z_sorted;have tf:=PySem.W.mg_none_of X G z_set;have jv:=PySem.W.mg_none_of X G z_range;have ua:=PySem.W.mg_none_of X G z_tuple;have ag:=PySem.W.mg_none_of X G z_isinstance;have gm:=PySem.W.mg_none_of X G z_ValueError;have b_max:=PySem.W.mg_none_of X G z_max;have gr:=PySem.W.mg_of X G n_NoPoints;have oa:=PySem.W.mg_of X G n_Flat;have k_BodyError:=PySem.W.mg_of X G n_BodyError;have jc:=PySem.W.mg_of X G n_TooGreat;have ko:=PySem.W.mg_of X G n_NoText;have nv:=PySem.W.mg_of X G n_NoRow;have kr:=PySem.W.mg_of X G n_NoName;have ku:=PySem.W.mg_of X G n_NoMove;have lb:=PySem.W.mg_of X G n_NoAxis;have eu:IC K mg "NO_WAY" [0,0,0]:=RH (PySem.W.mg_of X G ca_NO_WAY) cl_NO_WAY;have bh:XCls K mg ae "NoPoints" aa:=rD gr e_NoPoints h1_NoPoints h2_NoPoints h3_NoPoints h4_NoPoints h5_NoPoints h6_NoPoints s_NoPoints;have ig:XCls K mg ae "Flat" af:=rD oa e_Flat h1_Flat h2_Flat h3_Flat h4_Flat h5_Flat h6_Flat s_Flat;have fu:XCls K mg ae "BodyError" ae:=rD k_BodyError e_BodyError h1_BodyError h2_BodyError h3_BodyError h4_BodyError h5_BodyError h6_BodyError s_BodyError;refine⟨PySem.W.fnOf "law" "law" (D7 fI) (o6 fI) (c5 fI) .none kV25 dc25 pm25 an25 cd25 ct25,λs v=>.of_eq rfl,λbase _ _ hB=>?_⟩;have df:z9 l.prog w K mg base 1 "way_between" 2 u4:=n9 (g0.def X G);have gu:z9 l.prog w K mg base 1 "cross_of" 2 C0:=C1 (g1.def X G);have eh:z9 l.prog w K mg base 1 "product_of" 2 u3:=v8 (g2.def X G);have r_common_divisor:z9 l.prog w K mg base 1 "common_divisor" 1 B4:=M1 b_abs (g3.def X G);have r_plane_through:=P7 gu df r_common_divisor eh (g4.def X G);have r_side_of:z9 l.prog w K mg base 1 "side_of" 2 W8:=gO (g5.def X G);have r_first_real_way:z9 l.prog w K mg base 1 "first_real_way" 1 w6:=F8 eu (g6.def X G);have bo:z9 l.prog w K mg base 2 "dimension_of" 1 j8:=n8 df r_first_real_way gu eh dg b_any (g7.def X G);have gv:bO l.prog w K mg base 2 "dimension_of" 1 (jM aa):=C8 dg bh (g7.def X G);have r_refuse_flat:z9 l.prog w K mg base 3 "refuse_flat" 1 A3:=W2 bo (g8.def X G);have rx_refuse_flat:bO l.prog w K mg base 3 "refuse_flat" 1 (M0 af aa):=T2 bo gv ig (g8.def X G);have jn:=E8 r_side_of (g9.def X G);have iu:=G7 df eh gu r_plane_through eu (g10.def X G);have r_first_pair:=aG jn iu bo td (g11.def X G);have r_turn_of:=iR eh gu df (g12.def X G);have r_left_chain:=Q7 r_turn_of dg (g13.def X G);have r_ring_of:=iK r_left_chain il kn (g14.def X G);have r_pairs_round:z9 l.prog w K mg base 1 "pairs_round" 1 v9:=V7 il b_zip (g15.def X G);have r_faces_from:=aK iu r_ring_of r_pairs_round dg gg (g16.def X G);have r_faces_of:z9 l.prog w K mg base 9 "faces_of" 1 L8:=dF jn r_refuse_flat r_first_pair r_faces_from gg tf hB nt (g17.def X G);have jo:bO l.prog w K mg base 9 "faces_of" 1 (M0 af aa):=N3 rx_refuse_flat (g17.def X G);have jh:z9 l.prog w K mg base 8 "corners_in" 1 B6:=K6 gg tf (g18.def X G);have mv:z9 l.prog w K mg base 10 "body_of" 1 J3:=X5 jh r_faces_of (g19.def X G);have rx_body_of:bO l.prog w K mg base 10 "body_of" 1 (M0 af aa):=dR jh jo (g19.def X G);have r_is_body:=Y2 bo mv dg (g20.def X G);have r__law_cell:z9 l.prog w K mg base 1 "_law_cell" 2 bZ:=N9 dg (g21.def X G);have r__law_drawn_way:z9 l.prog w K mg base 1 "_law_drawn_way" 2 dP:=F7 (g22.def X G);have r__law_flat:=bL r__law_cell r__law_drawn_way jv il dg ua (g23.def X G);have r__law_kinds:=R6 ag gm rx_body_of jo gv fu ig bh jc ko nv kr ku lb gr oa i_Flat_TooGreat i_NoPoints_TooGreat i_Flat_NoText i_NoPoints_NoText i_Flat_NoRow i_NoPoints_NoRow i_Flat_NoName i_NoPoints_NoName i_Flat_NoMove i_NoPoints_NoMove i_Flat_NoAxis i_NoPoints_NoAxis i_Flat_NoPoints i_NoPoints_NoPoints i_Flat_Flat i_NoPoints_Flat i_Flat_ValueError i_NoPoints_ValueError (g24.def X G);exact ND (o_law r__law_flat r_is_body r__law_kinds bo mv jv b_max td dg il<|IU (st:=fI) l25 e25 k25) truth
end K16
namespace PySem.W.Fast
def tw17223335344139020549:=0
def tw92450842408034905:=0
def tw153928214311651798:=0
def tw7804301149746853844:=0
def tw7331640501386748124:=0
def tw14070199489109984515:=0
def tw4494180136976045572:=0
def tw17374719367143263465:=0
def tw10544838014296471158:=0
def tw11195521082488574467:=0
def tw18291472586249129935:=0
def tw15573275053715051391:=0
def tw17371541901603914281:=0
def tw2303812269687372093:=0
def tw6660688463316606589:=0
def tw10779593721618174490:=0
def tw12784198208991258428:=0
def tw15401824978628986161:=0
def tw2947838280634401098:=0
def tw3794237021530852052:=0
def tw16048599288243419667:=0
def tw1921273456361646785:=0
def tw6229441494208017104:=0
def tw12680251048950696254:=0
def tw15544258954535334698:=0
def tw13795943808255782805:=0
def tw16026383630219227963:=0
def tw5151415652301464132:=0
def tw7916165996512520902:=0
def tw8860954201096254667:=0
def tw4041609685707873099:=0
def tw4325526399359352387:=0
def tw11330089474284130000:=0
def tw11434156705979633812:=0
def tw7514182315367499460:=0
def tw7759204684429079984:=0
def tw2497742952060924332:=0
def tw543313304047141483:=0
def tw5253589723460089715:=0
def tw7063214738464997148:=0
def tw12765276523557710125:=0
def tw14461301699561196102:=0
def tw11044800615137407886:=0
def tw6687876604973542935:=0
def tw17160594759000904684:=0
def tw2353241213098496205:=0
def tw12460557645908945352:=0
def tw4260326413907553975:=0
def tw3790961056886633328:=0
def tw4704734966014866314:=0
def tw11102332223546236217:=0
def tw12799860098146090265:=0
def tw12575797988441667835:=0
def tw12516037952007338218:=0
def tw8167030205225282489:=0
def tw5758198248692605962:=0
def tw2582876340698276250:=0
def tw17215692034542201141:=0
def tw4553206774625028743:=0
def tw6322981666665206325:=0
def tw17109091712263153326:=0
def tw4660284697015672039:=0
def tw2690371653461258928:=0
def tw12715696867551212283:=0
def tw16747619012936811783:=0
def tw14487286596575441439:=0
def tw798402724409870505:=0
def tw14275892221672568414:=0
def tw3925049926660089773:=0
def tw2137247802975081566:=0
def tw13417837225448213450:=0
def tw12057290800725009421:=0
def tw6907949825054236313:=0
def tw14910972196327153814:=0
def tw12658198951767069284:=0
def tw5340912411804045361:=0
def tw394496417620524131:=0
def tw17416228303650171518:=0
def tw11317187622746135818:=0
def tw13155622359838569774:=0
def tw9571760065186610077:=0
def tw9112698281043843428:=0
def tw6300425467384705718:=0
def tw6872126750933779489:=0
def tw850724273780973109:=0
def tw13216047407182707134:=0
def tw16248955899919547927:=0
def tw6772676392091210784:=0
def tw4570457840229307374:=0
def tw17587440933463202772:=0
def tw6025403729889900231:=0
def tw12924073372134166564:=0
def tw4900085953515599597:=0
def tw10871704832778364269:=0
def tw16160340434173997412:=0
def tw3458322061200768626:=0
def tw1705936107824861076:=0
def tw14613493696837971828:=0
def tw4729167789398126628:=0
def tw7819178420587266860:=0
def tw13661954578980381578:=0
def tw2568163590015401530:=0
def tw11982313683950705980:=0
def tw2574259561050085575:=0
def tw592397369763582447:=0
def tw4964297143190114043:=0
def tw5917023273549799305:=0
def tw15296839818870800528:=0
def tw17674010951189911233:=0
def tw4967587650729584222:=0
def tw3380250578445485030:=0
def tw9584011713648061973:=0
def tw216286499574013722:=0
def tw3044685376868295813:=0
def tw15009952491034781455:=0
def tw16232896587351764845:=0
def tw3831943395500473162:=0
def tw7144426138454417971:=0
def tw12473287795030686801:=0
def tw17811298329997383061:=0
def tw7758980142775038332:=0
def tw15337513941808016798:=0
def tw12548337541588043146:=0
def tw13056239279071966682:=0
def tw6588714013753501587:=0
def tw16447265514990203949:=0
def tw16739583571578143370:=0
def tw6222547603425285322:=0
def tw15293769163619465368:=0
def tw10300155399774777458:=0
def tw11176762132530938895:=0
def tw8538571333722810888:=0
def tw10533224252301141094:=0
def tw9184655491669646185:=0
def tw13535755951222262838:=0
def tw1034085482812433225:=0
def tw17910053668341139410:=0
def tw2450847118233303370:=0
def tw3847597528862165031:=0
def tw11888576510291239318:=0
def tw16329407584069932455:=0
def tw11420662680023196612:=0
def tw17800442784551175507:=0
def tw8778819698664184954:=0
def tw9308640518135963421:=0
def tw14209610243284196016:=0
def tw5219187923141660922:=0
def tw16973782370082325030:=0
def tw4968820336868784836:=0
def tw18038324306828039853:=0
def tw12176254721868454263:=0
def tw14325073251083423109:=0
def tw4219664253084272310:=0
def tw56321125806278205:=0
def tw6475412365991749873:=0
def tw615797981953394214:=0
def tw10551948688199972346:=0
def tw14202281571177630605:=0
def tw9012728988142527996:=0
def tw5686945083976495351:=0
def tw12924044663784422193:=0
def tw17589274744682801038:=0
def tw4212466449475349033:=0
def tw16340431334472497572:=0
def tw17117421957813715434:=0
def tw4352771921436832612:=0
def tw4762372804335220675:=0
def tw5146029036867745832:=0
def tw11226393794869009420:=0
def tw12920423024283447305:=0
def tw5072779220107791849:=0
def tw7352580165017449105:=0
def tw9520367955488482370:=0
def tw7465489346363321200:=0
def tw7332222576310917834:=0
def tw8837042583040231046:=0
def tw2621164683497541145:=0
def tw17336347931046288866:=0
def tw17974973801958836279:=0
def tw16072674557925881412:=0
def tw16298172876480253855:=0
def tw16582203370520975821:=0
def tw16930559033262417853:=0
def tw1931159344139194988:=0
def tw3208086502262191823:=0
def tw9987671510780632707:=0
def tw2861003406987396658:=0
def tw11639331209902441795:=0
def tw14935648593215108340:=0
def tw16254573384037429337:=0
def tw4384636953465698723:=0
def tw15952225993493745026:=0
def tw1769810486558218128:=0
def tw7065824150848781103:=0
def tw17645517552144555266:=0
def tw12451819430502419336:=0
def tw16161848349648173546:=0
def tw1616733276742429020:=0
def tw9014081586412399058:=0
def tw916066463625835308:=0
def tw17442136811181481275:=0
def tw13231108137241027645:=0
def tw17133127537973844927:=0
def tw5021579299498902294:=0
def tw11344364638105188701:=0
def tw12729808961176548961:=0
def tw13478795911969502315:=0
def tw14070635576745702075:=0
def tw5144878223133404892:=0
def tw5546280059744703218:=0
def tw7870793629673811671:=0
def tw9075625473357277087:=0
def tw13959176776912012097:=0
def tw14546252032421385606:=0
def tw2246623230795918138:=0
def tw10173228634593851848:=0
def tw11780283059437782436:=0
def tw11875895087007620339:=0
def tw13980152623239680473:=0
def tw14690571146391934080:=0
end PySem.W.Fast
open PySem PySem.W PyProof.Rows
set_option maxRecDepth 100000 in
theorem PySem.Challenge.cw_stakebodies_k16_bodies_refused_holds : PySem.Challenge.rw_stakebodies_k16_bodies_refused.Holds := by
 w_on;o_law;k_head;(case hw=>w_witness2)
 k_fill
 letI tabs9:DL.Tabs:=⟨[(241,K16.tbK)]⟩
 refine DL.LM (l:=PySem.Challenge.rw_stakebodies_k16_bodies_refused) (k:=12) rfl rfl ⟨rfl,by decide,by decide⟩ (λw h Y=>⟨PySem.W.km_in_of Y,PySem.W.km_tabs_of Y⟩) (DL.LF (c:=245) (by k_mem) (λw=>by kernel_rfl)) (aAK.mpr ⟨aAG,aCU⟩) (λw=>by kernel_rfl) ?F
 case F=>
  intro w mg fa h KX G hmg;refine' K16.all_mk KX G hmg ?_ ?_ ?_ ?_ ?_ ?_ ?_ ?_ ?_ ?_ ?_ ?_ ?_ ?_ ?_ ?_ ?_ ?_ ?_ ?_ ?_ ?_ ?_ ?_ ?_ ?a25 ?l25 ?e25 ?k25 ?z_abs ?z_len ?z_any ?z_min ?z_list ?z_reversed ?z_zip ?z_sorted ?z_set ?z_range ?z_tuple ?z_isinstance ?z_ValueError ?z_max ?ca_NO_WAY ?cl_NO_WAY (aBd.mpr rfl) ?n_NoPoints ?n_Flat ?n_BodyError ?n_TooGreat ?n_NoText ?n_NoRow ?n_NoName ?n_NoMove ?n_NoAxis ?e_NoPoints ?h1_NoPoints ?h2_NoPoints ?h3_NoPoints ?h4_NoPoints ?h5_NoPoints ?h6_NoPoints ?s_NoPoints ?e_Flat ?h1_Flat ?h2_Flat ?h3_Flat ?h4_Flat ?h5_Flat ?h6_Flat ?s_Flat ?e_BodyError ?h1_BodyError ?h2_BodyError ?h3_BodyError ?h4_BodyError ?h5_BodyError ?h6_BodyError ?s_BodyError ?i_Flat_TooGreat ?i_NoPoints_TooGreat ?i_Flat_NoText ?i_NoPoints_NoText ?i_Flat_NoRow ?i_NoPoints_NoRow ?i_Flat_NoName ?i_NoPoints_NoName ?i_Flat_NoMove ?i_NoPoints_NoMove ?i_Flat_NoAxis ?i_NoPoints_NoAxis ?i_Flat_NoPoints ?i_NoPoints_NoPoints ?i_Flat_Flat ?i_NoPoints_Flat ?i_Flat_ValueError ?i_NoPoints_ValueError K16.truth
  all_goals first|(refine' DL.QR ?a ?l ?c ?k;(case a=>k_is);(case l=>k_is);(case c=>k_is);(case k=>k_is))|(refine' DL.LQ ?a ?l ?c ?k rfl ?n;(case a=>k_is);(case l=>k_is);(case c=>k_is);(case k=>k_is);(case n=>kernel_rfl))|k_is|k_exc|kit_is|skip
end
